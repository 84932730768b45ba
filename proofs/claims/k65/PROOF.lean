import PyProof.Rows.All
import Wide.All
import OpenK.AllK
import Wide.FinOn
import Lean
import PyProof.EqAt
import PyProof.EqKinds
import PyProof.TupleCall
import PyProof.NeKinds
import PySem.Challenge.RW_maskwright_k65_wires_on_tracks
set_option Elab.async false
set_option linter.all false
set_option maxRecDepth 100000
set_option maxHeartbeats 4000000
abbrev aJn:=PySem.W.Frag
set_option compiler.extract_closed false
abbrev aFm:= @PySem.wpAny_bind
abbrev aFn:= @PySem.Heap.get?_push_of_some
abbrev aFo:= @PySem.wpAny_pure
abbrev aFp:= @List.getElem?_eq_some_iff
abbrev aFq:= @Nat.le_refl
abbrev aFr:= @List.mem_cons_self
abbrev aFs:= @PySem.Heap.get?_push_size
abbrev aFt:= @List.mem_cons_of_mem
abbrev aFu:= @PySem.Heap.lt_size
abbrev aFv:= @List.mem_map
abbrev aFw:= @Option.map_eq_some_iff
abbrev aFx:= @List.mem_of_getElem?
abbrev aFy:= @List.mem_cons
abbrev aFz:= @Nat.ne_of_lt
abbrev aG0:= @PySem.wpAny_setField_rec
abbrev aG1:= @PySem.wpAny_call_entry
abbrev aG2:= @Nat.le_trans
abbrev aG3:= @PySem.wpAny_callSpecial?_slot
abbrev aG4:= @Nat.lt_of_lt_of_le
abbrev aG5:= @List.mem_append
abbrev aG6:= @PySem.wpAny_newObj_type
abbrev aG7:= @PySem.wpAny_field
abbrev aG8:= @List.mem_append_right
abbrev aG9:= @PySem.W.mg_none_of
abbrev aGa:= @PySem.wpAny_mono
abbrev aGb:= @PySem.sizeLine_eq
abbrev aGc:= @Classical.byContradiction
abbrev aGd:= @Ne.symm
abbrev aGe:= @Option.some.inj
abbrev aGf:= @PySem.wpAny_holding
abbrev aGg:= @PySem.Heap.SameBut.update
abbrev aGh:= @PySem.mem_of_lookup
abbrev aGi:= @List.getElem?_eq_getElem
abbrev aGj:= @PyProof.Rows.callWith_type1
abbrev aGk:= @PyProof.Rows.wpS_bind
abbrev aGl:= @PySem.F.slot_enumerate_next
abbrev aGm:= @Nat.zero_le
abbrev aGn:= @PyProof.Rows.slot_tuple_getitem
abbrev aGo:= @List.length_filter_le
abbrev aGp:= @Nat.ne_of_gt
abbrev aGq:= @PySem.wpAny_seqItems
abbrev aGr:= @Nat.lt_succ_of_lt
abbrev aGs:= @Nat.le_of_lt
abbrev aGt:= @PySem.wpAny_rule
abbrev aGu:= @Nat.lt_succ_self
abbrev aGv:= @PySem.Heap.get?_update_self
abbrev aGw:= @List.mem_iff_getElem?
abbrev aGx:= @congrArg
abbrev aGy:= @List.mem_of_mem_take
abbrev aGz:= @List.mem_filter
abbrev aH0:= @PySem.wpAny_attempt
abbrev aH1:= @PySem.wpAny_standAt
abbrev aH2:= @PySem.F.slot_zip_next
abbrev aH3:= @PySem.F.slot_dict_keyiterator_next
abbrev aH4:= @PySem.tupleKind_room_in1
abbrev aH5:= @PyProof.Rows.wpS_pure
abbrev aH6:= @Nat.lt_irrefl
abbrev aH7:= @PySem.wpAny_truthy_bool
abbrev aH8:= @PySem.Heap.get?_update_other
abbrev aH9:= @PySem.wpAny_Call_Name_kw
abbrev aHa:= @PySem.wpAny_newTuple
abbrev aHb:= @PySem.wpAny_typeNameOfWhole_keyiter
abbrev aHc:= @PySem.wpAny_pyIter_slot
abbrev aHd:= @PySem.codeAny_builtin
abbrev aHe:= @PySem.F.slot_dict_setdefault
abbrev aHf:= @List.dropLast_concat_getLast
abbrev aHg:= @PySem.Calls.spliced_cons
abbrev aHh:= @PySem.F.slot_tuple_iterator_next
abbrev aHi:= @List.exists_mem_of_ne_nil
abbrev aHj:= @decide_eq_false
abbrev aHk:= @PySem.wpAny_passesOwn
abbrev aHl:= @PySem.codeAny_mono
abbrev aHm:= @List.take_sublist
abbrev aHn:= @PySem.wpAny_setState_of
abbrev aHo:= @PySem.wpAny_setEntries_of
abbrev aHp:= @PySem.wpAny_isInstance
abbrev aHq:= @PySem.Heap.size_push
abbrev aHr:= @PySem.F.args_enumerate_next_1
abbrev aHs:= @List.mem_flatten
abbrev aHt:= @List.pairwise_lt_range
abbrev aHu:= @PySem.F.called_set
abbrev aHv:= @PySem.F.entry_enumerate_next
abbrev aHw:= @Int.emod_lt_of_pos
abbrev aHx:= @PySem.wpAny_updateSeq
abbrev aHy:= @PySem.W.Looks.of_pure
abbrev aHz:= @PySem.F.slot_enumerate_iter
abbrev aI0:= @List.mem_append_left
abbrev aI1:= @List.mem_iff_getElem
abbrev aI2:= @PySem.wpAny_fieldsOf
abbrev aI3:= @List.getElem?_of_mem
abbrev aI4:= @List.pairwise_iff_getElem
abbrev aI5:= @List.getElem?_eq_none_iff
abbrev aI6:= @PySem.Calls.call_function_entry
abbrev aI7:= @beq_eq_false_iff_ne
abbrev aI8:= @PyProof.Rows.F.entry_set_update_loop
abbrev aI9:= @List.map_congr_left
abbrev aIa:= @PySem.F.args_tuple_add_2
abbrev aIb:= @PySem.plainId_quiet
abbrev aIc:= @List.length_filterMap_le
abbrev aIe:= @List.nodup_cons
abbrev aIf:= @Int.emod_nonneg
abbrev aIg:= @List.pairwise_cons
abbrev aIh:= @PySem.F.entry_tuple_add
abbrev aIi:= @List.length_eq_zero_iff
abbrev aIj:= @PySem.Calls.spliced_nil
abbrev aIk:= @PySem.F.slot_tuple_add
abbrev aIl:= @PySem.wpAny_typeOf
abbrev aIm:= @PySem.Calls.callWith_builtin
abbrev aIn:= @Nat.lt_trans
abbrev aIo:= @PySem.wpAny_pyIter_list
abbrev aIp:= @PySem.F.args_zip_next_1
abbrev aIq:= @PyProof.Rows.wpS_forRange
abbrev aIr:= @PySem.wpAny_dictEntries
abbrev aIs:= @List.nodup_append
abbrev aIt:= @List.pairwise_map
abbrev aIu:= @Nat.le_of_not_lt
abbrev aIv:= @PySem.wpAny_askSetting
abbrev aIw:= @beq_iff_eq
abbrev aIx:= @PySem.F.entry_zip_next
abbrev aIy:= @PySem.F.args_dict_setdefault_3
abbrev aIz:= @PySem.wpAny_onRaise
abbrev aJ0:= @PySem.Calls.evalArgs_plain
abbrev aJ1:= @PySem.wpAny_of_eq
abbrev aJ2:= @PySem.wpAny_letGo
abbrev aJ3:= @PySem.F.entry_dict_setdefault
abbrev aJ4:= @Nat.pow_le_pow_right
abbrev aJ5:= @PySem.wpAny_execs_nil
abbrev aJ6:= @PySem.F.slot_zip_iter
abbrev aJ7:= @PySem.F.type_dict_setdefault
abbrev aJ8:= @List.mem_zipIdx_iff_getElem?
abbrev aJ9:= @PySem.wpAny_load
abbrev aJa:= @List.mem_filterMap
abbrev aJb:= @Nat.lt_or_eq_of_le
abbrev aJc:= @PySem.wpAny_runValue
abbrev aJd:= @PySem.wpAny_pyIter_tuple
abbrev aJe:= @PySem.isSubtype_stop
abbrev aJf:= @PySem.wpAny_setField
abbrev aJg:= @List.map_inj_right
abbrev aJh:= @Nat.le_succ
abbrev aJi:= @PySem.wpAny_newList
abbrev aJj:= @List.getElem_mem
abbrev aJk:= @List.mem_flatMap
abbrev aJl:= @Nat.le_of_eq
abbrev aJm:= @Nat.succ.inj
abbrev aJo:=PySem.Value->PySem.Shared->Prop
abbrev aJp:=PyProof.Rows.Keyed->PyProof.Rows.Keyed->Bool
abbrev aJq:=PySem.Str->Option PySem.Value
abbrev aJr:=Array PyProof.Rows.Keyed
namespace L2
open PySem PySem.Spec PyProof.Rows
abbrev Key:=Sum Int Str
def w6:Key->Value->Bool
 | .inl k,v=>Value.isInt k v
 | .inr x,v=>Value.isStrOf x v
def aF5(w:World):Key->Int
 | .inl k=>hashInt k
 | .inr x=>hashStr w x
theorem bQ:∀{k:Key} {v:Value},w6 k v=true->(∃i t,k=Sum.inl i/\v=Value.int i t)\/(∃x t,k=Sum.inr x/\v=Value.str x t)
 | .inl i,v,h=>by
  obtain⟨t,e⟩:=Value.isInt_shape (k:=i) (v:=v) h;exact .inl ⟨i,t,rfl,e⟩
 | .inr x,v,h=>by
  obtain⟨t,e⟩:=Value.isStrOf_shape (x:=x) (v:=v) h;exact .inr ⟨x,t,rfl,e⟩
theorem HV(i:Int)(t:Tok):w6 (.inl i) (.int i t)=true:=by simp[w6,Value.isInt]
theorem HU(x:Str)(t:Tok):w6 (.inr x) (.str x t)=true:=by simp[w6,Value.isStrOf]
theorem XW(a b:Int):decide ((Sum.inl a:Key)=Sum.inl b)=(a==b):=by
 by_cases e:a=b
 ·subst e;simp
 ·have h:¬(Sum.inl a:Key)=Sum.inl b:=λq=>e (Sum.inl.inj q);rw[decide_eq_false h];exact(aI7.mpr e).symm
theorem XS(a b:Str):decide ((Sum.inr a:Key)=Sum.inr b)=decide (a=b):=by
 by_cases e:a=b
 ·subst e;simp
 ·have h:¬(Sum.inr a:Key)=Sum.inr b:=λq=>e (Sum.inr.inj q);rw[decide_eq_false h,decide_eq_false e]
theorem XU(a:Int)(b:Str):decide ((Sum.inl a:Key)=Sum.inr b)=false:=aHj (λq=>nomatch q)
theorem XT(a:Str)(b:Int):decide ((Sum.inr a:Key)=Sum.inl b)=false:=aHj (λq=>nomatch q)
def aR(prog:Program)(w:World):PySem.KeyKind prog w Key where
 is:=w6
 hash:=aF5 w
 inj:=λv a b f d=>by
  rcases bQ f with ⟨i,t,rfl,rfl⟩ | ⟨x,t,rfl,rfl⟩
  ·rcases bQ d with ⟨j,u,rfl,e⟩ | ⟨y,u,rfl,e⟩
   ·injection e with c _;rw[c]
   ·exact nomatch e
  ·rcases bQ d with ⟨j,u,rfl,e⟩ | ⟨y,u,rfl,e⟩
   ·exact nomatch e
   ·injection e with c _;rw[c]
 byValue:=λk v h=>by
  rcases bQ h with ⟨i,t,rfl,rfl⟩ | ⟨x,t,rfl,rfl⟩ <;> rfl
 pyHash:=λhv h=>by
  rcases bQ hv with ⟨i,t,rfl,rfl⟩ | ⟨x,t,rfl,rfl⟩
  ·exact wpAny_pyHash_int h
  ·exact wpAny_pyHash_str h
 eqBool:=λg hv h=>by
  rcases bQ g with ⟨i,t,rfl,rfl⟩ | ⟨x,t,rfl,rfl⟩
  ·rcases bQ hv with ⟨j,u,rfl,rfl⟩ | ⟨y,u,rfl,rfl⟩
   ·rw[XW]at h;exact wpAny_eqBool_int h
   ·rw[XU]at h;exact SeqAt.EqAt.int_str i t y u _ _ _ _ h
  ·rcases bQ hv with ⟨j,u,rfl,rfl⟩ | ⟨y,u,rfl,rfl⟩
   ·rw[XT]at h;exact SeqAt.EqAt.str_int x t j u _ _ _ _ h
   ·rw[XS]at h;exact wpAny_eqBool_str h
 «strs»:=λk x t v h=>by
  rcases bQ h with ⟨i,u,rfl,e⟩ | ⟨y,u,rfl,e⟩
  ·exact nomatch e
  ·injection e with c _;subst c;cases v <;> rfl
theorem BE(prog:Program)(w:World)(i:Int)(t:Tok):(aR prog w).is (.inl i) (.int i t)=true:=HV i t
theorem BD(prog:Program)(w:World)(x:Str)(t:Tok):(aR prog w).is (.inr x) (.str x t)=true:=HU x t
inductive V where
 | bU | bl (b:Bool) | int (i:Int) | str (x:Str) | byt (b:Array UInt8) | flt (b:UInt64) | ref (a:Addr) | ty (n:String)
 deriving DecidableEq
def RelV:V->Value->Prop
 | .bU,u=>u=Value.none
 | .bl b,u=>u=Value.bool b
 | .int i,u=>∃t,u=Value.int i t
 | .str x,u=>∃t,u=Value.str x t
 | .byt b,u=>∃t,u=Value.bytes b t
 | .flt b,u=>∃t,u=Value.float b t
 | .ref a,u=>u=Value.ref a
 | .ty n,u=>u=Value.type n
abbrev Vals:List V->List Value->Prop:=Paired RelV
variable{us:List Value}
theorem Vals.length{xs:List V}(r:Vals xs us):xs.length=us.length:=Paired.length r
theorem Vals.get:∀{xs:List V} {us:List Value} {i:Nat} {x:V},Vals xs us->xs[i]? =some x->∃u,us[i]? =some u/\RelV x u
 | _,_,_,_,.nil,e=>by simp at e
 | _,_,0,_,.cons r _,e=>by simp at e;subst e;exact⟨_,rfl,r⟩
 | _,_,i+1,x,.cons _ t,e=>by
  obtain⟨u,a,b⟩:=Vals.get (i:=i) (x:=x) t (by simpa using e);exact⟨u,by simpa using a,b⟩
theorem Vals.set{x:V}{u:Value}(r:RelV x u):∀{xs:List V} {us:List Value} (i:Nat),Vals xs us->Vals (xs.set i x) (us.set i u)
 | _,_,_,.nil=>.nil
 | _,_,0,.cons _ t=>.cons r t
 | _,_,i+1,.cons q t=>.cons q (Vals.set r i t)
theorem Vals.append:∀{xs a:List V} {us b:List Value},Vals xs us->Vals a b->Vals (xs++a) (us++b)
 | _,_,_,_,.nil,s=>s
 | _,_,_,_,.cons r t,s=>.cons r (Vals.append t s)
theorem Vals.take:∀{xs:List V} {us:List Value} (n:Nat),Vals xs us->Vals (xs.take n) (us.take n)
 | _,_,0,_=>.nil
 | _,_,_+1,.nil=>.nil
 | _,_,n+1,.cons r t=>.cons r (Vals.take n t)
theorem Vals.drop:∀{xs:List V} {us:List Value} (n:Nat),Vals xs us->Vals (xs.drop n) (us.drop n)
 | _,_,0,r=>r
 | _,_,_+1,.nil=>.nil
 | _,_,n+1,.cons _ t=>Vals.drop n t
def vC:Option V->Option Value->Prop
 | some v,some u=>RelV v u
 | none,none=>True
 | _,_=>False
def KV{κ:Type}:List (κ×V)->List (κ×Value)->Prop:=Paired λ(p:κ×V) (q:κ×Value)=>p.1=q.1/\RelV p.2 q.2
def kV:Key->V
 | .inl i=>.int i
 | .inr x=>.str x
inductive HO where
 | lst (xs:List V)
 | tup (xs:List V)
 | dK (kvs:List (Key×V)) | dT (kvs:List (List Key×V))
 | set (S:Int->Bool) (n:Nat)
 | ins (C dx:Addr) (fs:List (Str×V))
 | own (x:Addr)
 | xd (fs:List (Str×V))
 | met (f x:Addr)
 | rng (lo hi:Int)
 | rY (o:Obj) (u:HO)
 | tbl (ps:Array Value)
 | ext (φ:World->Heap->Prop)
abbrev Hp:=Addr->Option HO
def upd(H:Hp)(a:Addr)(o:HO):Hp:=λb=>if b=a then some o else H b
variable{H:Hp}{a:Addr}
theorem aP{o:HO}:upd H a o a=some o:=by unfold upd;rw[if_pos rfl]
variable{b:Addr}
theorem aK{o:HO}(h:b≠a):upd H a o b=H b:=by unfold upd;rw[if_neg h]
theorem LB{o u:HO}(h:H a=some o)(h' :H b=some u)(d:o≠u):a≠b:=by
 intro e;subst e;rw[h]at h';exact d (aGe h')
theorem bN{o:HO}(h:H a=some o)(h' :H b=none):a≠b:=by
 intro e;subst e;rw[h]at h';cases h'
theorem tH(h:Heap)(items:Array Value):∀o,(h.push {cls:= .type "tuple",data:= .seq items}).get? h.objs.size=some o->o.dict=none:=λo e=>by rw[Heap.get?_push_size _ rfl]at e;cases e;rfl
section
variable (P:Program)(w:World)
def cA(H:Hp)(h:Heap)(a:Addr):HO->Prop
 | .lst xs=>xs.length<=sizeLine/\∃(aN:List Value) (n:Nat),Vals xs aN/\h.get? a=some {cls:= .type "list",data:= .seq aN.toArray n}
 | .tup xs=>xs.length<=sizeLine/\∃aN:List Value,Vals xs aN/\IsTup h a aN.toArray/\∀o,h.get? a=some o->o.dict=none
 | .dK kvs=>kvs.length<=sizeLine/\(a==sysModules)=false/\∃vs,KV kvs vs/\h.DictOf (aR P w) a vs
 | .dT kvs=>kvs.length<=sizeLine/\(a==sysModules)=false/\∃xs:List (List Key×Addr×Value),
   Paired (λ(p:List Key×V) (q:List Key×Addr×Value)=>p.1=q.1/\H q.2.1=some (.tup (p.1.map kV))/\RelV p.2 q.2.2) kvs xs/\
   ∃o es ep,h.get? a=some o/\o.ExactDict/\o.data= .dict es ep/\es.toList=xs.map (entryOfKey (tupleKind (aR P w)))/\(xs.map (·.1)).Nodup
 | .set S n=>h.SetOf (intKind P w) a S n
 | .ins C dx fs=>H dx=some (.own a)/\fs.length<=1000/\dx≠a/\h.get? a=some (PySem.W.instObj C dx)/\
   ∃b,h.Ns1 dx b/\(∀f,vC (fs.lookup f) (b f))/\PySem.Within b (fs.map (·.1))
 | .own _=>∃o,h.get? a=some o
 | .xd fs=>∃b,h.Ns1 a b/\∀f,vC (fs.lookup f) (b f)
 | .rng lo hi=>∃t u v,h.get? a=some {cls:= .type "range",data:= .fields #[.int lo t,.int hi u,.int 1 v]}
 | .rY o u=>h.get? a=some o/\cA H h a u
 | .tbl ps=>h.get? a=some {cls:= .none,data:= .fields ps}
 | .met f x=>h.get? a=some (PySem.W.methodObj (.ref f) (.ref x))
 | .ext φ=>φ w h/\(∃o,h.get? a=some o)/\∀c d:Heap,φ w c->(∀o,c.get? a=some o->d.get? a=some o)->φ w d
def p9(H:Hp)(h:Heap):Prop:=∀a o,H a=some o->cA P w H h a o
end
section
variable {P:Program}{w:World}{H H' :Hp}{h h' :Heap}{a:Addr}{o:HO}
theorem cA.lt(x:cA P w H h a o):a<h.objs.size:=by
 cases o with
 | lst xs=>obtain⟨_,_,_,_,e⟩:=x;exact aFu e
 | tup xs=>obtain⟨_,_,_,p,_⟩:=x;exact p.lt
 | dK kvs=>obtain⟨_,_,_,_,o,_,_,e,_⟩:=x;exact aFu e
 | dT kvs=>obtain⟨_,_,_,_,o,_,_,e,_⟩:=x;exact aFu e
 | set S n=>obtain⟨o,_,_,_,e,_⟩:=x;exact aFu e
 | ins C dx fs=>obtain⟨_,_,_,e,_⟩:=x;exact aFu e
 | own y=>obtain⟨_,e⟩:=x;exact aFu e
 | xd fs=>obtain⟨_,⟨_,_,_,e,_⟩,_⟩:=x;exact aFu e
 | rng lo hi=>obtain⟨_,_,_,e⟩:=x;exact aFu e
 | rY ob u=>obtain⟨e,_⟩:=x;exact aFu e
 | tbl ps=>exact aFu (show h.get? a=some _ from x)
 | met f y=>exact aFu (show h.get? a=some _ from x)
 | ext φ=>obtain⟨_,⟨_,e⟩,_⟩:=x;exact aFu e
theorem Paired.WN{α e:Type}{F G:α->e->Prop}:∀{c:List α} {d:List e},Paired F c d->(∀a b,F a b->G a b)->Paired G c d
 | _,_,.nil,_=>.nil
 | _,_,.cons r t,f=>.cons (f _ _ r) (Paired.WN t f)
theorem cA.vK(x:cA P w H h a o)(k:∀b u,(b=a\/H b=some (.own a))->h.get? b=some u->h'.get? b=some u)
  (ho:∀b,H b=some (.own a)->H' b=some (.own a)) (ht:∀b xs,H b=some (.tup xs)->H' b=some (.tup xs)):cA P w H' h' a o:=by
 induction o with
 | lst xs=>obtain⟨z,aN,n,r,e⟩:=x;exact⟨z,aN,n,r,k _ _ (.inl rfl) e⟩
 | tup xs=>obtain⟨z,aN,r,⟨ob,e,c⟩,nd⟩:=x;exact⟨z,aN,r,⟨ob,k _ _ (.inl rfl) e,c⟩,λo' i =>by rw[k _ _ (.inl rfl) e]at i;cases i;exact nd _ e⟩
 | dK kvs=>obtain⟨z,y,vs,r,ob,es,ep,e,c⟩:=x;exact⟨z,y,vs,r,ob,es,ep,k _ _ (.inl rfl) e,c⟩
 | dT kvs=>
  obtain⟨z,y,xs,r,ob,es,ep,e,c⟩:=x;exact⟨z,y,xs,Paired.WN r λp q z=>⟨z.1,ht _ _ z.2.1,z.2.2⟩,ob,es,ep,k _ _ (.inl rfl) e,c⟩
 | set S n=>obtain⟨ob,es,ep,t,e,c⟩:=x;exact⟨ob,es,ep,t,k _ _ (.inl rfl) e,c⟩
 | ins C dx fs=>
  obtain⟨d,z,ne,e,g,⟨od,es,ep,j,c⟩,r⟩:=x;exact⟨ho _ d,z,ne,k _ _ (.inl rfl) e,g,⟨od,es,ep,k _ _ (.inr d) j,c⟩,r⟩
 | own y=>obtain⟨ob,e⟩:=x;exact⟨ob,k _ _ (.inl rfl) e⟩
 | xd fs=>obtain⟨g,⟨od,es,ep,e,c⟩,r⟩:=x;exact⟨g,⟨od,es,ep,k _ _ (.inl rfl) e,c⟩,r⟩
 | rng lo hi=>obtain⟨t,u,v,e⟩:=x;exact⟨t,u,v,k _ _ (.inl rfl) e⟩
 | rY ob u ih=>obtain⟨e,q⟩:=x;exact⟨k _ _ (.inl rfl) e,ih q⟩
 | tbl ps=>
  have e:h.get? a=some {cls:= .none,data:= .fields ps}:=x;show h'.get? a=some {cls:= .none,data:= .fields ps};exact k a _ (.inl rfl) e
 | met f y=>
  have e:h.get? a=some (PySem.W.methodObj (.ref f) (.ref y)):=x;show h'.get? a=some (PySem.W.methodObj (.ref f) (.ref y));exact k a _ (.inl rfl) e
 | ext φ=>obtain⟨p,⟨o,e⟩,st⟩:=x;exact⟨st _ _ p λo q=>k _ _ (.inl rfl) q,⟨o,k _ _ (.inl rfl) e⟩,st⟩
theorem p9.lt(x:p9 P w H h)(e:H a=some o):a<h.objs.size:=(x a o e).lt
theorem p9.fresh(x:p9 P w H h)(e:h.objs.size<=a):H a=none:=by
 cases q:H a with
 | none=>rfl
 | some u=>exact absurd (aG4 (x.lt q) e) (aH6 _)
theorem p9.kept(x:p9 P w H h)(k:∀b u,h.get? b=some u->h'.get? b=some u):p9 P w H h' :=λa o e=>
 (x a o e).vK (λb u _ q=>k b u q) (λ_ q=>q) λ_ _ q=>q
theorem p9.laid(x:p9 P w H h)(k:∀b u,h.get? b=some u->h'.get? b=some u)(g:h.objs.size<=a)(new:cA P w (upd H a o) h' a o):p9 P w (upd H a o) h' :=λb u e=>by
 have d:=x.fresh g;by_cases f:b=a
 ·subst f;rw[aP]at e;cases e;exact new
 ·rw[aK f]at e;exact(x b u e).vK (λc v _ q=>k c v q) (λc q=>by rw[aK (bN q d)];exact q) λc xs q=>by rw[aK (bN q d)];exact q
end
def Rd(H:Hp)(a:Addr)(u:HO):Prop:=H a=some u\/∃o,H a=some (.rY o u)
variable{P:Program}{w:World}{h:Heap}
theorem Rd.ok{u:HO}(r:Rd H a u)(x:p9 P w H h):cA P w H h a u:=by
 rcases r with r | ⟨o,r⟩
 ·exact x a u r
 ·obtain⟨_,q⟩:=x a _ r;exact q
def EN:Option HO->Prop
 | some (.lst _)=>True
 | some (.dK _)=>True
 | some (.dT _)=>True
 | some (.set _ _)=>True
 | some (.ins _ _ _)=>True
 | some (.ext _)=>True
 | _=>False
section
variable {P:Program}{w:World}{H:Hp}{h h' :Heap}{x e:Addr}{o' :HO}
theorem p9.write(ok:p9 P w H h)(g:EN (H x))(he:e=x\/H e=some (.own x))(k:∀b u,b≠e->h.get? b=some u->h'.get? b=some u)(j:∃u,h'.get? e=some u)
  (new:cA P w (upd H x o') h' x o'):p9 P w (upd H x o') h' :=λb u q=>by
 have d:∀c y,H c=some (.own y)->c≠x:=λc y r z=>by subst z;rw[r]at g;exact g
 have f:∀c xs,H c=some (.tup xs)->c≠x:=λc xs r z=>by subst z;rw[r]at g;exact g
 by_cases i:b=x
 ·subst i;rw[aP]at q;cases q;exact new
 ·rw[aK i]at q;by_cases a:b=e
  ·have l :H b=some (.own x):=by
    rcases he with z | z
    ·exact absurd (a.trans z) i
    ·rw[a];exact z
   rw[q]at l;cases l;obtain⟨v,hv⟩:=j;exact⟨v,by rw[a];exact hv⟩
  ·refine(ok b u q).vK (λc v hc r=>k c v ?_ r) (λc r=>by rw[aK (d c b r)];exact r) λc xs r=>by rw[aK (f c xs r)];exact r
   rcases hc with rfl | hc
   ·exact a
   ·rintro rfl;rcases he with z | z
    ·exact d c b hc z
    ·rw[hc]at z;cases z;exact i rfl
end
structure Un(fs ex:List Addr)(H H' :Hp)(h h' :Heap):Prop where
 keep:∀b o,h.get? b=some o->H b=none->b∉fs->b∉ex->h'.get? b=some o
 slot:∀b o,h.get? b=some o->H b=none->b∈fs->b∉ex->∃sl,h'.get? b=some {o with slots:=sl}
 free:∀b o,h.get? b=some o->H b=none->b∉ex->H' b=none
 there:∀b o,h.get? b=some o->b∉ex->∃o',h'.get? b=some o'
 yA:∀b xs,H b=some (.tup xs)->H' b=some (.tup xs)
 uJ:∀b o u,H b=some (.rY o u)->H' b=some (.rY o u)
 yC:∀b ps,H b=some (.tbl ps)->∃more,H' b=some (.tbl (ps++more))
section
variable {fs fs' ex ex' :List Addr}{H H1 H2:Hp}{h h1 h2 h' :Heap}{a x e:Addr}{o:HO}
theorem Un.any(u:Un fs ex H H1 h h1){ob:Obj}(q:h.get? b=some ob)(n:H b=none)(a:b∉ex):∃sl,h1.get? b=some {ob with slots:=sl}:=by
 by_cases c:b∈fs
 ·exact u.slot b ob q n c a
 ·exact⟨ob.slots,u.keep b ob q n c a⟩
theorem Un.kept(k:∀b u,h.get? b=some u->h'.get? b=some u):Un fs ex H H h h' :=
 ⟨λb ob q _ _ _=>k b ob q,λb ob q _ _ _=>⟨ob.slots,k b ob q⟩,λ_ _ _ n _=>n,λb ob q _=>⟨ob,k b ob q⟩,λ_ _ q=>q,λ_ _ _ q=>q,λ_ ps q=>⟨#[],by rw[q];simp⟩⟩
theorem Un.refl:Un fs ex H H h h:=Un.kept λ_ _ q=>q
theorem Un.laid(k:∀b u,h.get? b=some u->h'.get? b=some u)(d:h.objs.size<=a)(c:H a=none):Un fs ex H (upd H a o) h h' where
 keep:=λb u q _ _ _=>k b u q
 slot:=λb u q _ _ _=>⟨u.slots,k b u q⟩
 free:=λb u q n _=>by rw[aK (Nat.ne_of_lt (Nat.lt_of_lt_of_le (Heap.lt_size q) d))];exact n
 there:=λb u q _=>⟨u,k b u q⟩
 yA:=λb xs q=>by rw[aK (bN q c)];exact q
 uJ:=λb u xs q=>by rw[aK (bN q c)];exact q
 yC:=λb ps q=>⟨#[],by rw[aK (bN q c),q];simp⟩
theorem Un.write(c:EN (H x))(he:e=x\/H e=some (.own x))(k:∀b u,b≠e->h.get? b=some u->h'.get? b=some u)(d:∃u,h'.get? e=some u):Un fs ex H (upd H x o) h h' :=by
 have g:∀b,H b=none->b≠x:=λb n z=>by subst z;rw[n]at c;exact c
 have i:∀b,H b=none->b≠e:=λb n z=>by
  subst z;rcases he with r | r
  ·exact g b n r
  ·rw[n]at r;cases r
 have f:∀b u,H b=some u->¬EN (some u)->b≠x:=λb u q j z=>by subst z;rw[q]at c;exact j c
 refine⟨λb u q n _ _=>k b u (i b n) q,λb u q n _ _=>⟨u.slots,k b u (i b n) q⟩,λb u q n _=>by rw[aK (g b n)];exact n,λb u q _=>?_,
  λb xs q=>by rw[aK (f b _ q λz=>z)];exact q,λb u xs q=>by rw[aK (f b _ q λz=>z)];exact q,λb ps q=>⟨#[],by rw[aK (f b _ q λz=>z),q];simp⟩⟩
 by_cases a:b=e
 ·subst a;exact d
 ·exact⟨u,k b u a q⟩
end
def CP(h:Heap)(H:Hp):List Addr:=(List.range h.objs.size).filter λa=>(H a).isSome
def zE(h:Heap)(H:Hp):Heap:=PySem.W.hideAll h (CP h H)
theorem HZ(h:Heap)(H:Hp):(zE h H).objs.size=h.objs.size:=PySem.W.hideAll_size _ _
variable{o:Obj}
theorem MV(e:h.get? b=some o)(n:H b=none):(zE h H).get? b=some o:=
 PySem.W.hideAll_get _ e λa=>by
  have q:(H b).isSome=true:=(aGz.mp a).2;rw[n]at q;simp at q
theorem QZ(e:(zE h H).get? b=some o):h.get? b=some o/\H b=none:=by
 have a :h.get? b=some o:=PySem.W.of_hideAll (CP h H) e;refine⟨a,?_⟩
 cases q:H b with
 | none=>rfl
 | some x=>
  have c:b∈CP h H:=aGz.mpr ⟨List.mem_range.mpr (aFu a),by simp[q]⟩;have z:(zE h H).get? b=none:=PySem.W.hideAll_none (CP h H) c;rw[z]at e;cases e
structure Mod(K:aJn)(mg:aJq)(base:Heap):Prop where
 kin:K.In base
 glob:base.Ns mainGlobals mg
 blt:∃mb,base.Ns builtinsNs mb/\∀x:Str,x≠ "__name__"->mb x=bootBuiltins x
 nolimit:base.NoLimit
structure Cx where
 prog:Program
 w:World
 K:aJn
 mg:aJq
 base:Heap
 A:Around
 N:List Str
 s₀:Shared
 H₀:Hp
 env:Env
 outer:List Env
 stack:List Env
 ex:List Addr
 fn:Str->Bool
 calm:Bool
 pn:List (Addr×Obj)
 xe:aJo
def NC(l:List Env):List Addr:=l.filterMap (·.frame)
abbrev Cx.fs(X:Cx):List Addr:=NC X.outer
def Vis(sc:Scope)(x:Str):Prop:=sc.names.lookup x=some .local\/sc.names.lookup x=some .cell\/sc.names.lookup x=some .free
def Loc(sc:Scope)(x:Str):Prop:=sc.names.lookup x=some .local\/sc.names.lookup x=some .cell
def Look(env:Env)(h:Heap)(m:aJq)(x:Str)(u:Value):Prop:=
 (env.kindOf x=some .local/\m x=some u)\/((env.kindOf x=some .cell\/env.kindOf x=some .free)/\∃c,env.cells.lookup x=some c/\h.IsCell c (some u))
structure Cx.Ok(X:Cx):Prop where
 mod:Mod X.K X.mg X.base
 kind:X.env.scope.kind= .function
 glob:X.env.globals=mainGlobals
 blt:X.env.builtins=builtinsNs
 above:X.s₀.heap.objs.size<=X.env.locals
 inj:∀x y c,X.env.cells.lookup x=some c->X.env.cells.lookup y=some c->x=y
 has:∀x,(X.env.kindOf x=some .cell\/X.env.kindOf x=some .free)->∃c,X.env.cells.lookup x=some c
 cab:∀x c,X.fn x=true->X.env.cells.lookup x=some c->X.s₀.heap.objs.size<=c
 hd:X.calm=true->X.A.handled=none
 frames:X.A.frames=some X.stack
 stk:X.stack=X.outer\/(X.stack=X.env::X.outer/\X.env.frame=some X.env.locals)
 exf:∀b∈X.ex,b≠X.env.locals/\∀x c,X.env.cells.lookup x=some c->c≠b
 bs:∀b o,X.base.get? b=some o->X.s₀.heap.get? b=some o/\X.H₀ b=none
 S1:X.base.objs.size<=X.s₀.heap.objs.size
 K5:∀b o,X.base.get? b=some o->b∉X.ex
 NF:∀b∈X.ex,b∉X.fs
 uI:X.s₀.heap.FunFrames X.base X.outer
 ZH:∀b∈X.fs,X.H₀ b=none
structure Inv(X:Cx)(pins:List (Addr×Obj))(σ:List (Option V))(H:Hp)(s:Shared):Prop where
 ok:X.Ok
 os:s.os=X.s₀.os
 bare:AllBare s.gens
 base:Un X.fs X.ex X.H₀ H X.s₀.heap s.heap
 loc:∃m,s.heap.Ns X.env.locals m/\∀(i:Nat) (x:Str) (v:V),X.N[i]? =some x->σ[i]? =some (some v)->Vis X.env.scope x->∃u,RelV v u/\Look X.env s.heap m x u
 cell:∀x c,X.env.cells.lookup x=some c->∃v,s.heap.IsCell c v
 free:H X.env.locals=none
 j2:∀x c,X.env.cells.lookup x=some c->H c=none
 pin:∀p∈X.pn++pins,s.heap.get? p.1=some p.2/\H p.1=none/\p.1≠X.env.locals/\p.1∉X.fs/\∀v,p.2.data≠ .cell v
 bG:p9 X.prog X.w H s.heap
 len:σ.length=X.N.length
section
variable {X:Cx}{pins:List (Addr×Obj)}{σ:List (Option V)}{H H' :Hp}{s:Shared}{h' :Heap}
theorem Cx.Ok.aEw(ok:X.Ok)(e:X.base.get? b=some o):b∉X.fs:=λa=>by
 have:=(ok.uI.mem a).1;rw[e]at this;cases this
theorem Inv.bs(I:Inv X pins σ H s):∀b o,X.base.get? b=some o->s.heap.get? b=some o/\H b=none:=λb o e=>
 ⟨I.base.keep b o (I.ok.bs b o e).1 (I.ok.bs b o e).2 (I.ok.aEw e) (I.ok.K5 b o e),I.base.free b o (I.ok.bs b o e).1 (I.ok.bs b o e).2 (I.ok.K5 b o e)⟩
theorem Inv.bk(I:Inv X pins σ H s):∀b o,X.base.get? b=some o->s.heap.get? b=some o:=λb o e=>(I.bs b o e).1
theorem Inv.mod(I:Inv X pins σ H s):Mod X.K X.mg X.base:=I.ok.mod
theorem Inv.XX(I:Inv X pins σ H s):X.K.In s.heap:=I.ok.mod.kin.keeps I.bk
theorem Inv.fr(I:Inv X pins σ H s):∃m,Fr X.base X.env.locals s.heap m:=
 let ⟨m,hn,_⟩:=I.loc
 ⟨m,hn,I.bk,aG2 I.ok.S1 I.ok.above⟩
theorem Inv.lt(I:Inv X pins σ H s):X.env.locals<s.heap.objs.size:=let ⟨_,hn,_⟩:=I.loc;hn.lt
theorem Inv.sz(I:Inv X pins σ H s):X.s₀.heap.objs.size<=s.heap.objs.size:=aG2 I.ok.above (aGs I.lt)
theorem Inv.aEv(I:Inv X pins σ H s)(h:s.heap.objs.size<=a):a∉X.fs:=λb=>by
 obtain⟨_,o,ho,_⟩:=I.ok.uI.mem b;exact absurd (aG4 (aFu ho) (aG2 I.sz h)) (aH6 _)
theorem Inv.YJ(I:Inv X pins σ H s):∀x c,X.env.cells.lookup x=some c->c≠X.env.locals:=λx c e z=>by
 obtain⟨v,o,ho,hd⟩:=I.cell x c e;obtain⟨m,⟨o',es,ep,a,b,_⟩,_⟩:=I.loc;rw[z,a]at ho;cases ho;rw[b]at hd;cases hd
theorem Inv.uI(I:Inv X pins σ H s):s.heap.FunFrames X.base X.outer:=by
 have all:∀(l:List Env),(∀b∈NC l,b∈X.fs)->X.s₀.heap.FunFrames X.base l->s.heap.FunFrames X.base l:=by
  intro l
  induction l with
  | nil=>intro _ _;trivial
  | cons env r ih=>
   intro f g;obtain⟨hk,⟨L,o,a,h,ho,hd⟩,i⟩:=g;have c:L∈X.fs:=f L (by unfold NC;rw[List.filterMap_cons,a];exact aFr);obtain⟨sl,e⟩:=I.base.slot L o ho (I.ok.ZH L c) c λz=>I.ok.NF L z c;exact⟨hk,⟨L,_,a,h,e,hd⟩,ih (λb d=>f b (by unfold NC;rw[List.filterMap_cons,a];exact aFt _ d)) i⟩
 exact all X.outer (λ_ d=>d) I.ok.uI
theorem Inv.stack(I:Inv X pins σ H s):s.heap.FunFrames X.base X.stack:=by
 rcases I.ok.stk with e | ⟨e,a⟩
 ·rw[e];exact I.uI
 ·rw[e];obtain⟨m,b,_⟩:=I.loc;refine .cons (by rw[I.ok.kind];decide) a b ?_ I.uI;exact Heap.get?_none_of_le (aG2 I.ok.S1 I.ok.above)
theorem Inv.C2(I:Inv X pins σ H s):∀b∈NC X.stack,b∈X.env.locals::X.fs:=λb a=>by
 rcases I.ok.stk with e | ⟨e,c⟩
 ·rw[e]at a;exact aFt _ a
 ·rw[e]at a;unfold NC at a;rw[List.filterMap_cons,c]at a;exact a
theorem Inv.FF(I:Inv X pins σ H s):∀b∈NC X.stack,H b=none:=λb hb=>by
 rcases aFy.mp (I.C2 b hb) with e | hb
 ·rw[e];exact I.free
 ·obtain⟨_,o,ho,_⟩:=I.ok.uI.mem hb;exact I.base.free b o ho (I.ok.ZH b hb) λz=>I.ok.NF b z hb
variable{g':Array GenState}{t':Nat}{ch:List Addr}
theorem Inv.step{d' :Drawn}(I:Inv X pins σ H s)
  (f:∀b∈ch,(b∈X.ex\/X.s₀.heap.objs.size<=b)/\b≠X.env.locals/\(∀x c,X.env.cells.lookup x=some c->c≠b)/\∀p∈X.pn++pins,p.1≠b)
  (keep:∀b o,b≠X.env.locals->b∉X.fs->b∉ch->s.heap.get? b=some o->H b=none->h'.get? b=some o)
  (slot:∀b o,b≠X.env.locals->b∈X.fs->b∉ch->s.heap.get? b=some o->H b=none->∃sl,h'.get? b=some {o with slots:=sl}) (free:∀b o,b∉ch->s.heap.get? b=some o->H b=none->H' b=none)
  (there:∀b o,b∉ch->s.heap.get? b=some o->∃o',h'.get? b=some o')
  (yA:∀b xs,H b=some (.tup xs)->H' b=some (.tup xs)) (uJ:∀b o u,H b=some (.rY o u)->H' b=some (.rY o u)) (yC:∀b ps,H b=some (.tbl ps)->∃more,H' b=some (.tbl (ps++more)))
  (ns:∀m,s.heap.Ns X.env.locals m->h'.Ns X.env.locals m) (bG:p9 X.prog X.w H' h') (hg:AllBare g'):
  Inv X pins σ H' {s with heap:=h',gens:=g',drawn:=d',toks:=t'}:=by
 have A:∀b o,X.s₀.heap.get? b=some o->b≠X.env.locals:=λb o e=>aFz (aG4 (aFu e) I.ok.above)
 have j:∀b o,X.s₀.heap.get? b=some o->b∉X.ex->b∉ch:=λb o e a y=>by
  rcases(f b y).1 with z | z
  ·exact a z
  ·exact absurd (aG4 (aFu e) z) (aH6 _)
 have g:∀x c,X.env.cells.lookup x=some c->∀v,s.heap.IsCell c v->h'.IsCell c v:=λx c e v C=>by
  obtain⟨o,ho,hd⟩:=C;have h:c∉ch:=λz=>(f c z).2.2.1 x c e rfl;by_cases E:c∈X.fs
  ·obtain⟨sl,q⟩:=slot c o (I.YJ x c e) E h ho (I.j2 x c e);exact⟨_,q,hd⟩
  ·exact⟨o,keep c o (I.YJ x c e) E h ho (I.j2 x c e),hd⟩
 refine⟨I.ok,I.os,hg,⟨λb o e n y a=>?_,λb o e n y a=>?_,λb o e n a=>?_,λb o e a=>?_,λb xs e=>yA b xs (I.base.yA b xs e),λb o xs e=>uJ b o xs (I.base.uJ b o xs e),λb ps e=>?_⟩,?_,λx c e=>?_,?_,λx c e=>?_,λp F=>?_,bG,I.len⟩
 ·exact keep b o (A b o e) y (j b o e a) (I.base.keep b o e n y a) (I.base.free b o e n a)
 ·obtain⟨sl,t⟩:=I.base.slot b o e n y a;obtain⟨D,B⟩:=slot b _ (A b o e) y (j b o e a) t (I.base.free b o e n a);exact⟨D,B⟩
 ·obtain⟨o',t⟩:=I.base.there b o e a;exact free b o' (j b o e a) t (I.base.free b o e n a)
 ·obtain⟨o',t⟩:=I.base.there b o e a;exact there b o' (j b o e a) t
 ·obtain⟨m1,t⟩:=I.base.yC b ps e;obtain⟨J,B⟩:=yC b _ t;exact⟨m1++J,by rw[B,Array.append_assoc]⟩
 ·obtain⟨m,K,L⟩:=I.loc;refine⟨m,ns m K,λi x v t B M=>?_⟩;obtain⟨u,r,l⟩:=L i x v t B M;refine⟨u,r,?_⟩;rcases l with l | ⟨k,c,e,z⟩
  ·exact .inl l
  ·exact .inr ⟨k,c,e,g x c e _ z⟩
 ·obtain⟨v,z⟩:=I.cell x c e;exact⟨v,g x c e v z⟩
 ·obtain⟨m,⟨o,_,_,ho,_⟩,_⟩:=I.loc;exact free _ o (λz=>(f _ z).2.1 rfl) ho I.free
 ·obtain⟨v,o,ho,hd⟩:=I.cell x c e;exact free c o (λz=>(f c z).2.2.1 x c e rfl) ho (I.j2 x c e)
 ·obtain⟨e,n,ne,G,d⟩:=I.pin p F;have h:p.1∉ch:=λz=>(f p.1 z).2.2.2 p F rfl;exact⟨keep p.1 p.2 ne G h e n,free p.1 p.2 h e n,ne,G,d⟩
theorem Inv.un(I:Inv X pins σ H s)(u:Un X.fs [] H H' s.heap h')(bG:p9 X.prog X.w H' h'):Inv X pins σ H' {s with heap:=h',toks:=t'}:=by
 obtain⟨m,⟨o,es,ep,ho,r⟩,_⟩:=id I.loc;obtain⟨sl,g⟩:=u.any ho I.free (by simp)
 exact I.step (g' :=s.gens) (d' :=s.drawn) (ch:=[]) (λ_ z=>nomatch z) (λb o _ c _ e n=>u.keep b o e n c (by simp)) (λb o _ c _ e n=>u.slot b o e n c (by simp)) (λb o _ e n=>u.free b o e n (by simp)) (λb o _ e=>u.there b o e (by simp)) u.yA u.uJ u.yC (λj h=>by
  obtain⟨o',d,f,a,i⟩:=h;rw[ho]at a;cases a
  exact⟨_,d,f,g,i⟩) bG I.bare
theorem Inv.call{d' :Drawn}(I:Inv X pins σ H s)(u:Un (NC X.stack) ch H H' s.heap h')(bG:p9 X.prog X.w H' h')(hg:AllBare g')
  (d:∀b∈ch,(b∈X.ex\/X.s₀.heap.objs.size<=b)/\b≠X.env.locals/\(∀x c,X.env.cells.lookup x=some c->c≠b)/\∀p∈X.pn++pins,p.1≠b):
  Inv X pins σ H' {s with heap:=h',gens:=g',drawn:=d',toks:=t'}:=by
 obtain⟨m,⟨o,es,ep,ho,r⟩,_⟩:=id I.loc;obtain⟨sl,g⟩:=u.any ho I.free λz=>(d _ z).2.1 rfl
 exact I.step (ch:=ch) d (λb o g j a e n=>u.keep b o e n (λz=>(aFy.mp (I.C2 b z)).elim g j) a) (λb o _ _ a e n=>u.any e n a) (λb o a e n=>u.free b o e n a) (λb o a e=>u.there b o e a) u.yA u.uJ u.yC (λq k=>by
  obtain⟨o',h,i,f,l⟩:=k;rw[ho]at f;cases f
  exact⟨_,h,i,g,l⟩) bG hg
theorem Inv.turned{it:Addr}(I:Inv X pins σ H s)(k:∀b o,b≠it->s.heap.get? b=some o->h'.get? b=some o)(g:H it=none)(f:it≠X.env.locals)
  (h:it∈X.ex\/X.s₀.heap.objs.size<=it) (i:∀x c,X.env.cells.lookup x=some c->c≠it) (j:∀p∈X.pn++pins,p.1≠it):Inv X pins σ H {s with heap:=h',toks:=t'}:=by
 have d:∀b u,H b=some u->b≠it:=λb u e z=>by rw[z,g]at e;cases e
 refine I.step (g' :=s.gens) (d' :=s.drawn) (ch:=[it]) (λb l=>?_) (λb o _ _ a e _=>k b o (λz=>a (by simp[z])) e) (λb o _ _ a e _=>⟨o.slots,k b o (λz=>a (by simp[z])) e⟩) (λ_ _ _ _ n=>n)
  (λb o a e=>⟨o,k b o (λz=>a (by simp[z])) e⟩) (λ_ _ e=>e) (λ_ _ _ e=>e) (λb ps e=>⟨#[],by rw[e];simp⟩) (λm t=>?_) (λb u e=>?_) I.bare
 ·have e:b=it:=by simpa using l
  subst e;exact⟨h,f,i,j⟩
 ·obtain⟨o,es,ep,ho,r⟩:=t;exact⟨o,es,ep,k _ o (aGd f) ho,r⟩
 ·refine(I.bG b u e).vK (λc v a q=>k c v ?_ q) (λ_ q=>q) λ_ _ q=>q;rcases a with z | z
  ·rw[z];exact d b u e
  ·exact d c _ z
theorem Inv.tok(I:Inv X pins σ H s)(t:Nat):Inv X pins σ H {s with toks:=t}:=I.un (h' :=s.heap) (t' :=t) Un.refl I.bG
theorem Inv.kept(I:Inv X pins σ H s)(k:∀b u,s.heap.get? b=some u->h'.get? b=some u):Inv X pins σ H {s with heap:=h',toks:=t'}:=I.un (Un.kept k) (I.bG.kept k)
theorem Inv.laid{o:HO}(I:Inv X pins σ H s)(k:∀b u,s.heap.get? b=some u->h'.get? b=some u)(c:s.heap.objs.size<=a)(new:cA X.prog X.w (upd H a o) h' a o):
  Inv X pins σ (upd H a o) {s with heap:=h',toks:=t'}:=I.un (Un.laid k c (I.bG.fresh c)) (I.bG.laid k c new)
theorem Inv.write{x e:Addr}{o:HO}(I:Inv X pins σ H s)(c:EN (H x))(he:e=x\/H e=some (.own x))(k:∀b u,b≠e->s.heap.get? b=some u->h'.get? b=some u)(a:∃u,h'.get? e=some u)
  (new:cA X.prog X.w (upd H x o) h' x o):Inv X pins σ (upd H x o) {s with heap:=h',toks:=t'}:=I.un (Un.write c he k a) (I.bG.write c he k a new)
theorem Inv.weak{a :List (Option V)}(I:Inv X pins σ H s)(b:a.length=σ.length)(w:∀(i:Nat) v,a[i]? =some (some v)->σ[i]? =some (some v)):Inv X pins a H s:=
 ⟨I.ok,I.os,I.bare,I.base,let ⟨m,hn,hl'⟩:=I.loc;⟨m,hn,λi x v c d e=>hl' i x v c (w i v d) e⟩,I.cell,I.free,I.j2,I.pin,I.bG,b.trans I.len⟩
theorem Inv.FP{a :List (Addr×Obj)}(I:Inv X pins σ H s)(h:∀p∈a,s.heap.get? p.1=some p.2/\H p.1=none/\p.1≠X.env.locals/\p.1∉X.fs/\∀v,p.2.data≠ .cell v):Inv X a σ H s:=
 ⟨I.ok,I.os,I.bare,I.base,I.loc,I.cell,I.free,I.j2,λp b=>(aG5.mp b).elim (λz=>I.pin p (aI0 _ z)) (h p),I.bG,I.len⟩
theorem BA{N:List Str}(hN:N.Nodup){i j:Nat}{x:Str}(a:N[i]? =some x)(b:N[j]? =some x):i=j:=by
 obtain⟨e,c⟩:=aFp.mp a;obtain⟨f,d⟩:=aFp.mp b;exact(List.getElem_inj hN).mp (c.trans d.symm)
variable{Q:Unit->Shared->Prop}
theorem qD{M:Model}{A:Around}{E:aJo}{i:Nat}{x:Str}{v:V}{u:Value}(I:Inv X pins σ H s)(hN:X.N.Nodup)(hi:X.N[i]? =some x)(t:Loc X.env.scope x)(r:RelV v u)
  (h:∀S,Inv X pins (σ.set i (some v)) H S ->(∃a,Heap.SameBut a s.heap S.heap/\(a=X.env.locals\/X.env.cells.lookup x=some a))->Q () S) (hf:X.fn x=true\/X.env.scope.names.lookup x=some .local:=by first | exact .inl rfl | exact .inr rfl | assumption):wpAny M A (storeName X.env x u) Q E s:=by
 obtain⟨m,T,hl⟩:=id I.loc;have K:(X.env.scope.kind== .class || (X.env.scope.kind== .module && X.env.locals !=X.env.globals))=false:=by rw[I.ok.kind];rfl
 have D:i<σ.length:=by rw[I.len];exact(aFp.mp hi).1
 have YJ:=I.YJ
 have g:∀{a:Addr} {h' :Heap},(∃o,s.heap.get? a=some o/\H a=none)->Heap.SameBut a s.heap h' ->p9 X.prog X.w H h' :=λ{a h'} ha f b ob e=>by
  obtain⟨_,_,B⟩:=ha;refine(I.bG b ob e).vK (λc w' hc q=>(f.2 c ?_).trans q) (λ_ q=>q) λ_ _ q=>q;rintro rfl;rcases hc with rfl | hc
  ·rw[B]at e;cases e
  ·rw[B]at hc;cases hc
 rcases t with hk | hk
 ·refine wpAny_storeName_local hk T (λh' U f=>?_) K;obtain⟨oL,_,_,W,_⟩:=id T;refine h _ ⟨I.ok,I.os,I.bare,⟨λb o e n F t=>?_,λb o e n F t=>?_,I.base.free,λb o e t=>?_,I.base.yA,I.base.uJ,I.base.yC⟩,⟨_,U,λj y Y l C Z=>?_⟩,λy c e=>?_,I.free,I.j2,λp hp=>?_,g ⟨oL,W,I.free⟩ f,by simpa using I.len⟩ ⟨_,f,.inl rfl⟩
  ·exact(f.2 b (aFz (aG4 (aFu e) I.ok.above))).trans (I.base.keep b o e n F t)
  ·obtain⟨sl,l⟩:=I.base.slot b o e n F t;exact⟨sl,(f.2 b (aFz (aG4 (aFu e) I.ok.above))).trans l⟩
  ·obtain⟨o',l⟩:=I.base.there b o e t;exact⟨o',(f.2 b (aFz (aG4 (aFu e) I.ok.above))).trans l⟩
  ·by_cases G:j=i
   ·subst G;rw[hi]at l;cases l;rw[List.getElem?_set_self D]at C;cases C;exact⟨u,r,.inl ⟨hk,by simp⟩⟩
   ·rw[List.getElem?_set_ne (Ne.symm G)]at C;obtain⟨u',r',q⟩:=hl j y Y l C Z;refine⟨u',r',?_⟩
    rcases q with ⟨k,e⟩ | ⟨k,c,e,z⟩
    ·refine .inl ⟨k,?_⟩;have:y≠x:=λe=>G (BA hN l (e▸hi));simp[this,e]
    ·exact .inr ⟨k,c,e,z.sameBut f (YJ y c e)⟩
  ·obtain⟨w',z⟩:=I.cell y c e;exact⟨w',z.sameBut f (YJ y c e)⟩
  ·obtain⟨e,n,ne,nf,d⟩:=I.pin p hp;exact⟨(f.2 p.1 ne).trans e,n,ne,nf,d⟩
 ·have J:X.fn x=true:=by
   rcases hf with z | z
   ·exact z
   ·rw[z]at hk;cases hk
  obtain⟨c,hc⟩:=I.ok.has x (.inl hk);obtain⟨w',z⟩:=I.cell x c hc;refine wpAny_storeName_cell I.ok.kind hk hc z (λh' L f=>?_);obtain⟨oc,O,P⟩:=id z;refine h {s with heap:=h'} ⟨I.ok,I.os,I.bare,⟨λb o e n F t=>?_,λb o e n F t=>?_,I.base.free,λb o e t=>?_,I.base.yA,I.base.uJ,I.base.yC⟩,⟨m,T.sameBut f (aGd (YJ x c hc)),λj y Y l C Z=>?_⟩,λy c' e=>?_,I.free,I.j2,λp hp=>?_,g ⟨oc,O,I.j2 x c hc⟩ f,by simpa using I.len⟩ ⟨c,f,.inr hc⟩
  ·exact(f.2 b (aFz (aG4 (aFu e) (I.ok.cab x c J hc)))).trans (I.base.keep b o e n F t)
  ·obtain⟨sl,l⟩:=I.base.slot b o e n F t;exact⟨sl,(f.2 b (aFz (aG4 (aFu e) (I.ok.cab x c J hc)))).trans l⟩
  ·obtain⟨o',l⟩:=I.base.there b o e t;exact⟨o',(f.2 b (aFz (aG4 (aFu e) (I.ok.cab x c J hc)))).trans l⟩
  ·by_cases G:j=i
   ·subst G;rw[hi]at l;cases l;rw[List.getElem?_set_self D]at C;cases C;exact⟨u,r,.inr ⟨.inl hk,c,hc,L⟩⟩
   ·rw[List.getElem?_set_ne (Ne.symm G)]at C;obtain⟨u',r',q⟩:=hl j y Y l C Z;refine⟨u',r',?_⟩;rcases q with q | ⟨k,c',e,z'⟩
    ·exact .inl q
    ·refine .inr ⟨k,c',e,z'.sameBut f ?_⟩;rintro rfl;exact G (BA hN l (I.ok.inj _ _ _ e hc▸hi))
  ·by_cases R:c' =c
   ·subst R;exact⟨_,L⟩
   ·obtain⟨w2,z2⟩:=I.cell y c' e;exact⟨w2,z2.sameBut f R⟩
  ·obtain⟨e,n,ne,nf,d⟩:=I.pin p hp;refine⟨(f.2 p.1 ?_).trans e,n,ne,nf,d⟩;intro q;rw[q,O]at e;have q' :oc=p.2:=aGe e;exact d w' (by rw[<-q'];exact P)
theorem pE{M:Model}{A:Around}{E:aJo}{i:Nat}{x:Str}{v:V}{u:Value}(I:Inv X pins σ H s)(hN:X.N.Nodup)(hi:X.N[i]? =some x)(b:Loc X.env.scope x)(r:RelV v u)
  (h:∀a,Inv X pins (σ.set i (some v)) H a ->Q () a) (c:X.fn x=true\/X.env.scope.names.lookup x=some .local:=by first | exact .inl rfl | exact .inr rfl | assumption):wpAny M A (storeName X.env x u) Q E s:=
 qD I hN hi b r (λa d _=>h a d) c
theorem Inv.aCd{a :Shared}(I:Inv X pins σ H s)(ho:a.os=s.os)(u:Un (NC X.stack) ch H H' s.heap a.heap)(bG:p9 X.prog X.w H' a.heap)(hg:AllBare a.gens)
  (d:∀b∈ch,(b∈X.ex\/X.s₀.heap.objs.size<=b)/\b≠X.env.locals/\(∀x c,X.env.cells.lookup x=some c->c≠b)/\∀p∈X.pn++pins,p.1≠b):Inv X pins σ H' a :=by
 obtain⟨h',g',d',t',o'⟩:=a;have e:o' =s.os:=ho;subst e;exact I.call (g' :=g') (t' :=t') (d' :=d') u bG hg d
end
abbrev XK:=Value->Option Addr->Hp->Prop
abbrev St:=List (Option V)
abbrev VK:=V->Hp->Prop
abbrev TE:=St->Hp->VK->Prop
abbrev TT:=St->Hp->(Bool->Hp->Prop)->Prop
abbrev TA:=St->Hp->(List V->Hp->Prop)->Prop
structure Ends where
 nx:St->Hp->Prop
 rt:VK
 bk:St->Hp->Prop:=λ_ _=>False
 ct:St->Hp->Prop:=λ_ _=>False
abbrev TS:=Ends->St->Hp->Prop
def EP(X:Cx)(pins:List (Addr×Obj))(σ:St)(Q:VK)(u:Value)(a :Shared):Prop:=∃v H',Inv X pins σ H' a /\RelV v u/\Q v H'
def TP(X:Cx)(pins:List (Addr×Obj))(σ:St)(Q:Bool->Hp->Prop)(b:Bool)(a :Shared):Prop:=∃H',Inv X pins σ H' a /\Q b H'
def AP(X:Cx)(pins:List (Addr×Obj))(σ:St)(Q:List V->Hp->Prop)(us:List Value)(a :Shared):Prop:=∃vs H',Inv X pins σ H' a /\Vals vs us/\Q vs H'
def SP(X:Cx)(pins:List (Addr×Obj))(D:Ends)(f:Flow)(b :Shared):Prop:=
 match f with
 | .next=>∃a H',Inv X pins a H' b /\D.nx a H'
 | .brk=>∃a H',Inv X pins a H' b /\D.bk a H'
 | .cont=>∃a H',Inv X pins a H' b /\D.ct a H'
 | .ret u=>∃v a H',Inv X pins a H' b /\RelV v u/\D.rt v H'
def PE(X:Cx)(e:Expr)(t:TE):Prop:=
 ∀(pins:List (Addr×Obj)) (s:Shared) (σ:St) (H:Hp) (Q:VK),Inv X pins σ H s->t σ H Q->wpAny (model X.prog X.w) X.A (eval e X.env) (EP X pins σ Q) X.xe s
def PT(X:Cx)(e:Expr)(t:TT):Prop:=
 ∀(pins:List (Addr×Obj)) (s:Shared) (σ:St) (H:Hp) (Q:Bool->Hp->Prop),Inv X pins σ H s->t σ H Q->wpAny (model X.prog X.w) X.A (isTrue e X.env (eval e X.env)) (TP X pins σ Q) X.xe s
def PW(X:Cx)(e:Expr)(t:TT):Prop:=
 ∀(a:Sem Value) (pins:List (Addr×Obj)) (s:Shared) (σ:St) (H:Hp) (Q:Bool->Hp->Prop),Inv X pins σ H s->t σ H Q->wpAny (model X.prog X.w) X.A (isTrue e X.env a) (TP X pins σ Q) X.xe s
variable{e:Expr}
theorem PW.pt{X:Cx}{t:TT}(h:PW X e t):PT X e t:=h _
def PA(X:Cx)(es:List Expr)(t:TA):Prop:=
 ∀(pos:Pos) (pins:List (Addr×Obj)) (s:Shared) (σ:St) (H:Hp) (Q:List V->Hp->Prop),Inv X pins σ H s->t σ H Q->wpAny (model X.prog X.w) X.A (spliced (backTo pos (starEach es X.env))) (AP X pins σ Q) X.xe s
def PS(X:Cx)(st:Stmt)(t:TS):Prop:=
 ∀(pins:List (Addr×Obj)) (s:Shared) (σ:St) (H:Hp) (D:Ends),Inv X pins σ H s->t D σ H->wpAny (model X.prog X.w) X.A (exec st X.env) (SP X pins D) X.xe s
def AE(X:Cx)(st:List Stmt)(t:TS):Prop:=
 ∀(pins:List (Addr×Obj)) (s:Shared) (σ:St) (H:Hp) (D:Ends),Inv X pins σ H s->t D σ H->wpAny (model X.prog X.w) X.A (execs st X.env) (SP X pins D) X.xe s
variable{A:Around}{E:aJo}{s:Shared}
theorem bV{α:Type}{t:Sem α}{Q b :α->Shared->Prop}{M:Model}(h:wpAny M A t Q E s)(c:∀a s,Q a s->b a s):wpAny M A t b E s:=aGa h c λ_ _ x=>x
section
variable {X:Cx}
def aDn(i:Nat):TE:=λσ H Q=>∃v,σ[i]? =some (some v)/\Q v H
def tC(v:V):TE:=λ_ H Q=>Q v H
variable{x:Str}{pos:Pos}
theorem VP{i:Nat}(hN:X.N[i]? =some x)(hv:Vis X.env.scope x)(hd:(x==("__debug__":Str))=false:=by decide)(d:(x==("__classdict__":Str))=false:=by decide):PE X (.Name x pos) (aDn i):=by
 intro pins s σ H Q I h;obtain⟨v,e,h⟩:=h;obtain⟨m,g,j⟩:=I.loc;obtain⟨u,r,l⟩:=j i x v hN e hv
 have b:EP X pins σ Q u s:=⟨v,H,I,r,h⟩
 rcases l with ⟨hk,k⟩ | ⟨hk,c,f,a⟩
 ·exact wpAny_Name (wpAny_loadName_local I.ok.kind hk g k b) hd
 ·rcases hk with hk | hk
  ·exact wpAny_Name (wpAny_loadName_cell I.ok.kind hk f a b) hd
  ·exact wpAny_Name (wpAny_loadName_free I.ok.kind hk f a b d) hd
theorem VX{i j pos}:PE X (.Constant (.int i) j pos) (tC (.int i)):=λ_ _ _ H _ I h=>wpAny_Constant_int ⟨.int i,H,I.tok _,⟨_,rfl⟩,h⟩
theorem aAo{b j pos}:PE X (.Constant (.bool b) j pos) (tC (.bl b)):=λ_ _ _ H _ I h=>Constant_bool ⟨.bl b,H,I,rfl,h⟩
theorem VT{j pos}:PE X (.Constant .none j pos) (tC .bU):=λ_ _ _ H _ I h=>Constant_none ⟨.bU,H,I,rfl,h⟩
theorem VQ{x j pos}:PE X (.Constant (.str x) j pos) (tC (.str x)):=λ_ _ _ H _ I h=>Calls.Constant_str ⟨.str x,H,I.tok _,⟨_,rfl⟩,h⟩
def Gl(X:Cx)(x:Str):Prop:=X.env.kindOf x=some .globalImplicit
variable{pins:List (Addr×Obj)}{u:Value}
theorem RV{σ:St}{Q:aJo}(I:Inv X pins σ H s)(hg:Gl X x)(a:X.mg x=some u)(h:Q u s)
  (hd:(x==("__debug__":Str))=false:=by decide):wpAny (model X.prog X.w) X.A (eval (.Name x pos) X.env) Q E s:=
 Calls.Name_function_global I.ok.kind hg (Calls.loadGlobal_global (by rw[I.ok.glob];exact I.mod.glob.keeps I.bk) a h) hd
theorem jE{σ:St}{Q:aJo}(I:Inv X pins σ H s)(hg:Gl X x)(a:X.mg x=none)(hv:bootBuiltins x=some u)(h:Q u s)
  (b:x≠ "__name__":=by decide) (hd:(x==("__debug__":Str))=false:=by decide):wpAny (model X.prog X.w) X.A (eval (.Name x pos) X.env) Q E s:=by
 obtain⟨mb,c,d⟩:=I.mod.blt;exact Calls.Name_function_global I.ok.kind hg (Calls.loadGlobal_builtin (by rw[I.ok.glob];exact I.mod.glob.keeps I.bk) a (by rw[I.ok.blt];exact c.keeps I.bk) ((d x b).trans hv) h) hd
theorem QP{v:V}(hg:Gl X x)(a:X.mg x=none)(hv:bootBuiltins x=some u)(r:RelV v u)(b:x≠ "__name__":=by decide)(hd:(x==("__debug__":Str))=false:=by decide):PE X (.Name x pos) (tC v):=
 λ_ _ _ H _ I h=>jE I hg a hv ⟨v,H,I,r,h⟩ b hd
variable {a b:Expr}{ta tb:TE}{pos:Pos}
theorem K6(b:Expr){a:CmpOp}(h:a≠ .In)(c:a≠ .NotIn):behindInMarks a b=false:=by
 have d:(a==CmpOp.In)=false:=by cases a <;> first | rfl | exact absurd rfl h
 have e:(a==CmpOp.NotIn)=false:=by cases a <;> first | rfl | exact absurd rfl c
 cases b <;> simp[behindInMarks,d,e]
variable {tA tB' :TT}{rest:List Expr}
def aDw(t u:TT):TT:=λσ H Q=>t σ H λc a=>if c=true then u σ a Q else Q false a
def tOr(t u:TT):TT:=λσ H Q=>t σ H λc a=>if c=true then Q true a else u σ a Q
def aDr(t:TT):TT:=λσ H Q=>t σ H λc a=>Q (!c) a
theorem PX(b:PT X a tA):PW X (.BoolOp .And [a] pos) tA:=by
 intro d pins s σ H Q I h;refine isTrue_and (bV (b pins s σ H Q I h) λc s1 e=>?_)
 cases c with
 | true=>exact isTrue_and_nil e
 | false=>exact e
theorem VD(b:PT X a tA):PW X (.BoolOp .Or [a] pos) tA:=by
 intro d pins s σ H Q I h;refine isTrue_or (bV (b pins s σ H Q I h) λc s1 e=>?_)
 cases c with
 | false=>exact isTrue_or_nil e
 | true=>exact e
theorem VE(g:PT X a tA)(i:PW X (.BoolOp .And (b::rest) pos) tB'):PW X (.BoolOp .And (a::b::rest) pos) (aDw tA tB'):=by
 intro j pins s σ H Q I h;refine isTrue_and (bV (g pins s σ H _ I h) λc s1 d=>?_);obtain⟨e,f,q1⟩:=d
 cases c with
 | true=>exact i j pins s1 σ e Q f q1
 | false=>exact⟨e,f,q1⟩
theorem aAf(g:PT X a tA)(i:PW X (.BoolOp .Or (b::rest) pos) tB'):PW X (.BoolOp .Or (a::b::rest) pos) (tOr tA tB'):=by
 intro j pins s σ H Q I h;refine isTrue_or (bV (g pins s σ H _ I h) λc s1 d=>?_);obtain⟨e,f,q1⟩:=d
 cases c with
 | true=>exact⟨e,f,q1⟩
 | false=>exact i j pins s1 σ e Q f q1
theorem VF(b:PT X a tA):PT X (.UnaryOp .Not a pos) (aDr tA):=by
 intro pins s σ H Q I h;exact isTrue_not (b pins s σ H (λc d=>Q (!c) d) I h)
def Z5(ta tb:TE):TE:=λσ H Q=>ta σ H λx a=>∃c,x= .bl c/\if c=true then tb σ a Q else Q (.bl false) a
def ZW(ta:TE):TE:=λσ H Q=>ta σ H λx a=>∃c,x= .bl c/\Q (.bl (!c)) a
theorem VR{op}{t:TE}(h:PE X a t):PE X (.BoolOp op [a] pos) t:=λpins s σ H Q I b=>BoolOp_one (h pins s σ H Q I b)
theorem VY(g:PE X a ta)(i:PE X (.BoolOp .And (b::rest) pos) tb):PE X (.BoolOp .And (a::b::rest) pos) (Z5 ta tb):=by
 intro pins s σ H Q I h;refine BoolOp_and (bV (g pins s σ H _ I h) λv s1 d=>?_);obtain⟨x,e,f,r1,q1⟩:=d;obtain⟨c,rfl,q1⟩:=q1;cases r1;refine aH7 ?_
 cases c with
 | true=>exact i pins s1 σ e Q f q1
 | false=>exact⟨.bl false,e,f,rfl,q1⟩
theorem VS(d:PE X a ta):PE X (.UnaryOp .Not a pos) (ZW ta):=by
 intro pins s σ H Q I h;refine UnaryOp_ (bV (d pins s σ H _ I h) λv s1 b=>?_);obtain⟨x,e,f,r1,q1⟩:=b;obtain⟨c,rfl,q1⟩:=q1;cases r1;exact not_of (aH7 ⟨.bl (!c),e,f,rfl,q1⟩)
end
def p7(K:aJn)(H:Hp)(a:Addr)(xs:List V):Prop:=
 Rd H a (.lst xs)\/
  ∃(o:Obj) (aN:Array Value) (n:Nat),K.lookup a=some o/\o.cls= .type "list"/\o.dict=none/\o.data= .seq aN n/\aN.size<=sizeLine/\Vals xs aN.toList
def sX(K:aJn)(H:Hp)(a:Addr)(xs:List V):Prop:=
 Rd H a (.tup xs)\/
  ∃(o:Obj) (aN:Array Value) (n:Nat),K.lookup a=some o/\o.cls= .type "tuple"/\o.dict=none/\o.data= .seq aN n/\aN.size<=sizeLine/\Vals xs aN.toList
def aFf:Value->Option V
 | .none=>some .bU
 | .bool b=>some (.bl b)
 | .int i _=>some (.int i)
 | .str x _=>some (.str x)
 | .bytes b _=>some (.byt b)
 | .float b _=>some (.flt b)
 | .ref a=>some (.ref a)
 | .type n=>some (.ty n)
 | _=>none
variable{u:Value}
theorem RelV.abs{x:V}(r:RelV x u):aFf u=some x:=by
 cases x with
 | bU=>cases r;rfl
 | bl _=>cases r;rfl
 | int _=>obtain⟨t,rfl⟩:=r;rfl
 | str _=>obtain⟨t,rfl⟩:=r;rfl
 | byt _=>obtain⟨t,rfl⟩:=r;rfl
 | flt _=>obtain⟨t,rfl⟩:=r;rfl
 | ref _=>cases r;rfl
 | ty _=>cases r;rfl
theorem RelV.inj{x y:V}(r:RelV x u)(q:RelV y u):x=y:=aGe (r.abs.symm.trans q.abs)
theorem Vals.inj:∀{xs a:List V} {us:List Value},Vals xs us->Vals a us->xs=a
 | _,_,_,.nil,.nil=>rfl
 | _,_,_,.cons r t,.cons r' t' =>by rw[r.inj r',Vals.inj t t']
section
variable {X:Cx}{pins:List (Addr×Obj)}{σ:St}{H:Hp}{s:Shared}{a:Addr}{xs ys:List V}
theorem p7.of{K:aJn}(h:H a=some (.lst xs)):p7 K H a xs:= .inl (.inl h)
theorem Inv.list(I:Inv X pins σ H s)(h:p7 X.K H a xs):∃aN:List Value,Vals xs aN/\PlainL s.heap a aN.toArray/\xs.length<=sizeLine:=by
 rcases h with h | ⟨o,aN,n,hk,b,hd,c,hz,r⟩
 ·obtain⟨z,aN,n,r,e⟩:=h.ok I.bG;exact⟨aN,r,⟨_,n,e,rfl,rfl,rfl⟩,z⟩
 ·refine⟨aN.toList,r,⟨o,n,I.XX a o hk,b,hd,by simpa using c⟩,?_⟩;have e:=r.length;simp only[Array.length_toList]at e
  lia
theorem Inv.tuple(I:Inv X pins σ H s)(h:sX X.K H a xs):∃aN:List Value,Vals xs aN/\IsTup s.heap a aN.toArray/\xs.length<=sizeLine:=by
 rcases h with h | ⟨o,aN,n,hk,b,_,c,hz,r⟩
 ·obtain⟨z,aN,r,p,_⟩:=h.ok I.bG;exact⟨aN,r,p,z⟩
 ·refine⟨aN.toList,r,⟨o,I.XX a o hk,b,n,by simpa using c⟩,?_⟩;have e:=r.length;simp only[Array.length_toList]at e
  lia
theorem Inv.UQ(I:Inv X pins σ H s)(h:sX X.K H a xs):∃ob,s.heap.get? a=some ob/\ob.cls= .type "tuple"/\ob.dict=none:=by
 rcases h with h | ⟨o,aN,n,hk,b,hd,d,hz,r⟩
 ·obtain⟨z,aN,r,⟨o,e,c,_⟩,nd⟩:=h.ok I.bG;exact⟨o,e,c,nd o e⟩
 ·exact⟨o,I.XX a o hk,b,hd⟩
theorem Inv.BF(I:Inv X pins σ H s)(h:p7 X.K H a xs)(h' :p7 X.K H a ys):xs=ys:=by
 obtain⟨aN,r,⟨o,n,e,_,_,d⟩,_⟩:=I.list h;obtain⟨its',c,⟨o',g,b,_,_,d'⟩,_⟩:=I.list h';rw[e]at b;cases b;rw[d]at d';injection d' with f _;have:aN=its' :=by simpa using aGx Array.toList f
 subst this;exact r.inj c
theorem Inv.wM(I:Inv X pins σ H s)(h:sX X.K H a xs)(h' :sX X.K H a ys):xs=ys:=by
 obtain⟨aN,r,⟨o,e,_,n,d⟩,_⟩:=I.tuple h;obtain⟨its',c,⟨o',b,_,g,d'⟩,_⟩:=I.tuple h';rw[e]at b;cases b;rw[d]at d';injection d' with f _;have:aN=its' :=by simpa using aGx Array.toList f
 subst this;exact r.inj c
end
abbrev Cx.vH(X:Cx)(E:aJo):Cx:={X with xe:=E}
abbrev Cx.Q2(X:Cx):Cx:=X.vH λ_ _=>False
theorem Cx.Ok.vH{X:Cx}(ok:X.Ok)(E:aJo):(X.vH E).Ok:=
 ⟨ok.mod,ok.kind,ok.glob,ok.blt,ok.above,ok.inj,ok.has,ok.cab,ok.hd,ok.frames,ok.stk,ok.exf,ok.bs,ok.S1,ok.K5,ok.NF,ok.uI,ok.ZH⟩
theorem Cx.Ok.mG{X:Cx}(ok:(X.vH E).Ok):X.Ok:=
 ⟨ok.mod,ok.kind,ok.glob,ok.blt,ok.above,ok.inj,ok.has,ok.cab,ok.hd,ok.frames,ok.stk,ok.exf,ok.bs,ok.S1,ok.K5,ok.NF,ok.uI,ok.ZH⟩
section
variable {X:Cx}{pins:List (Addr×Obj)}{σ:St}{H:Hp}{s:Shared}{E:aJo}
theorem Inv.vH(I:Inv X pins σ H s)(E:aJo):Inv (X.vH E) pins σ H s:=⟨I.ok.vH E,I.os,I.bare,I.base,I.loc,I.cell,I.free,I.j2,I.pin,I.bG,I.len⟩
theorem Inv.mG(I:Inv (X.vH E) pins σ H s):Inv X pins σ H s:=⟨I.ok.mG,I.os,I.bare,I.base,I.loc,I.cell,I.free,I.j2,I.pin,I.bG,I.len⟩
theorem SP.mG{D:Ends}{f:Flow}{b :Shared}(h:SP (X.vH E) pins D f b):SP X pins D f b :=by
 cases f with
 | next=>obtain⟨a,H',I,q⟩:=h;exact⟨a,H',I.mG,q⟩
 | brk=>obtain⟨a,H',I,q⟩:=h;exact⟨a,H',I.mG,q⟩
 | cont=>obtain⟨a,H',I,q⟩:=h;exact⟨a,H',I.mG,q⟩
 | ret u=>obtain⟨v,a,H',I,r,q⟩:=h;exact⟨v,a,H',I.mG,r,q⟩
theorem AE.Q2{st:List Stmt}{t:TS}(h:AE X.Q2 st t):AE X st t:=λpins s σ H D I a=>
 aGa (h pins s σ H D (I.vH _) a) (λ_ _ q=>q.mG) λ_ _ z=>False.elim z
end
section
variable {X:Cx}{st:Stmt}{rest:List Stmt}{t u:TS}{e:Expr}{te:TE}{pos:Pos}
def ZY:TS:=λD σ H=>D.nx σ H
def aDo(t u:TS):TS:=λD σ H=>t {D with nx:=u D} σ H
theorem QA:AE X [] ZY:=λ_ _ σ H _ I h=>aJ5 ⟨σ,H,I,h⟩
theorem KL(b:PS X st t)(c:AE X rest u):AE X (st::rest) (aDo t u):=by
 intro pins s σ H D I h;refine wpAny_execs_cons (bV (b pins s σ H {D with nx:=u D} I h) λf s1 q=>?_)
 cases f with
 | next=>
  obtain⟨a,H',d,q⟩:=q;exact c pins s1 a H' D d q
 | ret v=>exact q
 | brk=>exact q
 | cont=>exact q
theorem P7(a:PS X st t):AE X [st] t:=by
 intro pins s σ H D I h;refine wpAny_execs_cons (bV (a pins s σ H D I h) λf s1 q=>?_)
 cases f with
 | next=>exact aJ5 q
 | ret v=>exact q
 | brk=>exact q
 | cont=>exact q
theorem Inv.quiet{pins:List (Addr×Obj)}{σ:St}(I:Inv X pins σ H s):interactive X.env=false:=by simp[interactive,I.ok.kind]
def ZZ(te:TE):TS:=λD σ H=>te σ H λ_ a=>D.nx σ a
theorem QB(he:PE X e te)(b:swapsWith e none pos.line X.env=pure false:=by rfl):PS X (.Expr e pos) (ZZ te):=by
 intro pins s σ H D I h;exact wpAny_Expr_any (bV (he pins s σ H _ I h) λv s1 a=>by obtain⟨x,c,d,r1,q1⟩:=a;exact⟨σ,c,d,q1⟩) I.quiet b
def aDp(te:TE):TS:=λD σ H=>te σ H D.rt
theorem VH(he:PE X e te):PS X (.Return (some e) pos) (aDp te):=by
 intro pins s σ H D I h;exact wpAny_Return_some (bV (he pins s σ H _ I h) λv s1 a=>by obtain⟨x,b,c,r1,q1⟩:=a;exact⟨x,σ,b,c,r1,q1⟩)
def aDu(c:TT)(t u:TS):TS:=λD σ H=>c σ H λb a=>if b=true then t D σ a else u D σ a
theorem aAg{c:Expr}{a b:List Stmt}{f:TT}(j:PT X c f)(k:AE X a t)(l:AE X b u):PS X (.If c a b pos) (aDu f t u):=by
 intro pins s σ H D I h;refine wpAny_If (bV (j pins s σ H _ I h) λd s1 e=>?_);obtain⟨g,i,q1⟩:=e
 cases d with
 | true=>exact k pins s1 σ g D i q1
 | false=>exact l pins s1 σ g D i q1
end
abbrev TG:=V->St->Hp->(St->Hp->Prop)->Prop
abbrev GR:=List V->St->Hp->(St->Hp->Prop)->Prop
def PG(X:Cx)(a:Expr)(t:TG):Prop:=
 ∀(pins:List (Addr×Obj)) (s:Shared) (σ:St) (H:Hp) (v:V) (u:Value) (Q:St->Hp->Prop),Inv X pins σ H s->RelV v u->t v σ H Q->
  wpAny (model X.prog X.w) X.A (assign a X.env u) (λ_ c =>∃b H',Inv X pins b H' c /\Q b H') X.xe s
def Y7(X:Cx)(b:List Expr)(t:GR):Prop:=
 ∀(pins:List (Addr×Obj)) (s:Shared) (σ:St) (H:Hp) (vs:List V) (us:List Value) (Q:St->Hp->Prop),Inv X pins σ H s->Vals vs us->t vs σ H Q->
  wpAny (model X.prog X.w) X.A (assignInOrder ((assignEach b X.env).map (·.2)) us) (λ_ c =>∃a H',Inv X pins a H' c /\Q a H') X.xe s
abbrev Y6:=V->V->V->Hp->(Hp->Prop)->Prop
def aCk(X:Cx)(t:Y6):Prop:=
 ∀(pins:List (Addr×Obj)) (s:Shared) (σ:St) (H:Hp) (o i v:V) (a b u:Value) (Q:Hp->Prop),Inv X pins σ H s->RelV o a->RelV i b->RelV v u->t o i v H Q->
  wpAny (model X.prog X.w) X.A (setItem a b u) (λ_ c =>∃H',Inv X pins σ H' c /\Q H') X.xe s
section
variable {X:Cx}{pos:Pos}
def oD(i:Nat):TG:=λv σ H Q=>Q (σ.set i (some v)) H
theorem QI{i:Nat}{x:Str}(hN:X.N.Nodup)(hi:X.N[i]? =some x)(a:Loc X.env.scope x)(b:X.fn x=true\/X.env.scope.names.lookup x=some .local:=by first | exact .inl rfl | exact .inr rfl | assumption):PG X (.Name x pos) (oD i):=by
 intro pins s σ H v u Q I r h;exact wpAny_assign_Name (pE I hN hi a r (λd c =>⟨_,H,c,h⟩) b)
def NB:GR:=λvs σ H Q=>vs=[]/\Q σ H
def BV(t:TG)(u:GR):GR:=λvs σ H Q=>∃v r,vs=v::r/\t v σ H λa H' =>u r a H' Q
theorem QH:Y7 X [] NB:=by
 intro pins s σ H vs us Q I r h;obtain⟨e,h⟩:=h;subst e;cases r;exact assignInOrder_nil ⟨σ,H,I,h⟩
theorem KU{es:List Expr}{t:TG}{u:GR}(c:PG X e t)(d:Y7 X es u)
  (f:(assignEach (e::es) X.env).map (·.2)=assign e X.env::(assignEach es X.env).map (·.2):=by rfl):Y7 X (e::es) (BV t u):=by
 intro pins s σ H vs us Q I r h;obtain⟨v,l,g,h⟩:=h;subst g
 cases r with
 | cons r i=>
  rw[f];refine assignInOrder_cons (bV (c pins s σ H _ _ _ I r h) λ_ s1 a=>?_);obtain⟨b,j,k,q1⟩:=a;exact d pins s1 b j _ _ Q k i q1
def YB(K:aJn)(n:Nat)(t:GR):TG:=λv σ H Q=>∃a xs,v= .ref a/\sX K H a xs/\xs.length=n/\t xs σ H Q
theorem VN{es:List Expr}{k:Nat}{t:GR}{n:Nat}(g:X.calm=true)(h:Y7 X es t)
  (i:(assignEach es X.env).length=n:=by rfl) (c:(assignEach es X.env).findIdx? (·.1)=none:=by rfl):PG X (.Tuple es k pos) (YB X.K n t):=by
 intro pins s σ H v u Q I r d;obtain⟨a,xs,j,l,m,d⟩:=d;subst j;cases r;obtain⟨aN,f,ht,hz⟩:=I.tuple l;refine assign_Tuple_tuple (I.ok.hd g) ht (by simp[i,<-m,f.length]) c λh' p=>?_;have q:Inv X pins σ H {s with heap:=h'}:=I.kept (t' :=s.toks) λb o e=>p b o (aFz (aFu e)) e;exact h pins _ σ H xs _ Q q (by simpa using f) d
def aF9(to a:TE)(t:Y6):TG:=λv σ H Q=>to σ H λo b=>a σ b λi c=>t o i v c λd=>Q σ d
theorem VO{o i:Expr}{to f:TE}{t:Y6}(ho:PE X o to)(hi:PE X i f)(g:aCk X t)
  (j:∀v,assign (.Subscript o i pos) X.env v=(do
   let a<-holding [v] (eval o X.env)
   let b<-holding [v,a] (eval i X.env)
   standAt pos
   holding [v,a,b] (setItem a b v)
   release [v,a,b] []):=by intro _;rfl):PG X (.Subscript o i pos) (aF9 to f t):=by
 intro pins s σ H v u Q I r h;rw[j];refine aFm (aGf (bV (ho pins s σ H _ I h) λa s1 c=>?_));obtain⟨x,k,l,r1,q1⟩:=c;refine aFm (aGf (bV (hi pins s1 σ k _ l q1) λb s2 d=>?_));obtain⟨y,m,n,r2,q2⟩:=d;refine aFm (aH1 (aFm (aGf (bV (g pins s2 σ m x y v a b u _ n r1 r2 r q2) λ_ w e=>?_))));obtain⟨p,q,q3⟩:=e;exact wpAny_release ⟨σ,p,q,q3⟩
def JV(te:TE)(g:TG):TS:=λD σ H=>te σ H λx a=>g x σ a D.nx
theorem KQ{tg e:Expr}{te:TE}{g:TG}(he:PE X e te)(hg:PG X tg g)(a:swapsWithSole [tg] e pos.line X.env=pure false:=by rfl)(b:swappedStores [tg] e X.env=pure none:=by rfl)
  (c:(assignEach [tg] X.env).map (·.2)=[assign tg X.env]:=by rfl):PS X (.Assign [tg] e pos) (JV te g):=by
 intro pins s σ H D I h;refine wpAny_Assign_stores (bV (he pins s σ H _ I h) λv s1 ⟨x,d,f,r1,q1⟩=>?_) a b;rw[c];exact bV (hg pins s1 σ d x v _ f r1 q1) λ_ s2 q=>q
theorem VG{i:Nat}{x:Str}{te:TE}{a :Pos}(hN:X.N.Nodup)(hi:X.N[i]? =some x)(b:Loc X.env.scope x)(he:PE X e te)(c:swapsWith e (some (.Name x a)) pos.line X.env=pure false:=by rfl)(d:X.fn x=true\/X.env.scope.names.lookup x=some .local:=by first | exact .inl rfl | exact .inr rfl | assumption):
  PS X (.Assign [.Name x a] e pos) (JV te (oD i)):=by
 intro pins s σ H D I h;refine wpAny_Assign_Name (bV (he pins s σ H _ I h) λv s1 ⟨y,f,g,r1,q1⟩=>?_) c;exact pE g hN hi b r1 (λs2 j=>⟨_,f,j,q1⟩) d
def aDq(i j:Nat)(a:TA):TS:=λD σ H=>a σ H λvs b=>∃v w,vs=[v,w]/\D.nx ((σ.set i (some v)).set j (some w)) b
theorem VI{i j:Nat}{x y:Str}{a b:Expr}{r:TA}{g k pt:Pos}{kt k2 pt2}(C:X.calm=true)(hN:X.N.Nodup)(hi:X.N[i]? =some x)(E:X.N[j]? =some y)(l:i≠j)
  (t:X.env.scope.names.lookup x=some .local) (u:X.env.scope.names.lookup y=some .local) (F:PA X [a,b] r)
  (G:swappedStores [.Tuple [.Name x g,.Name y k] kt pt] (.Tuple [a,b] k2 pt2) X.env=pure (some [x,y]))
  (J:swapsWithSole [.Tuple [.Name x g,.Name y k] kt pt] (.Tuple [a,b] k2 pt2) pos.line X.env=pure false:=by rfl):
  PS X (.Assign [.Tuple [.Name x g,.Name y k] kt pt] (.Tuple [a,b] k2 pt2) pos) (aDq i j r):=by
 intro pins s σ H D I h;rw[exec_Assign_arm];refine aFm (aH1 ?_);rw[J];refine aFm (aFo ?_);rw[if_neg (by decide)];refine aFm (Tuple_ (bV (F _ pins s σ H _ I h) λus s1 f=>?_));obtain⟨vs,z,K,r1,q1⟩:=f;obtain⟨v,w,L,q1⟩:=q1;subst L
 obtain⟨c,d,rfl,M,m⟩:∃c d,us=[c,d]/\RelV v c/\RelV w d:=by
  cases r1 with
  | cons p q=>
   cases q with
   | cons O P =>
    cases P;exact⟨_,_,rfl,p,O⟩
 refine aG6 ?_ (by show 2<=sizeLine;decide);have Q:Inv X pins σ z {s1 with heap:=s1.heap.push {cls:= .type "tuple",data:= .seq [c,d].toArray}}:=K.kept (t' :=s1.toks) λb o e=>aFn _ e;rw[G];refine aFm (aFo ?_);show wpAny (model X.prog X.w) X.A (do rule "assign.swapped-stores";let items<-unpackItems (.ref s1.heap.objs.size) 2 none;assignInOrder [λv=>bindName X.env y v,λv=>bindName X.env x v] items.reverse;pure Flow.next) _ _ _;refine aFm (aGt (aFm (unpackItems_tuple (items:= #[c,d]) (I.ok.hd C) (IsTup.new s1.heap _) λh' n =>?_)));have R:=Q.kept (h' :=h') (t' :=s1.toks) λb o e=>n b o (aFz (aFu e)) e;show wpAny _ _ (assignInOrder [λv=>bindName X.env y v,λv=>bindName X.env x v] [d,c] >>=λ_=>pure Flow.next) _ _ _;refine aFm (assignInOrder_cons (wpAny_bindName (pE R hN E (.inl u) m (λs2 S=>?_) (.inr u))));refine assignInOrder_cons (wpAny_bindName (pE S hN hi (.inl t) M (λT B=>assignInOrder_nil (aFo ?_)) (.inr t)));rw[List.set_comm _ _ (Ne.symm l)]at B;exact⟨_,z,B,q1⟩
end
section
variable {X:Cx}{pos:Pos}
def UW(c:TT)(tb:TS):TS:=λD σ H=>∃W:Nat->St->Hp->Prop,(∃m,W m σ H)/\∀m σ H,W m σ H->
 c σ H λb d=>if b=true then ∃N:St->Hp->Prop,(∀a H',N a H' ->∃e,e<m/\W e a H')/\tb {D with nx:=N,ct:=N,bk:=D.nx} σ d else D.nx σ d
theorem KN{c:Expr}{body:List Stmt}{p:TT}{tb:TS}(q:PassesOwn (model X.prog X.w) X.A X.env X.xe)(x:PT X c p)(y:AE X body tb):PS X (.While c body [] pos) (UW p tb):=by
 intro pins s σ H D I h;obtain⟨W,⟨m0,z⟩,e⟩:=h;refine wpAny_While (codeAny_whileLoop (λn B =>∃g H',Inv X pins g H' B /\W n g H') ?_ m0 ⟨σ,H,I,z⟩);rintro n s1 ⟨d,r,C,E⟩;refine aHk q (bV (x pins s1 d r _ C (e n d r E)) λb s2 i=>?_);obtain⟨t,u,q2⟩:=i
 cases b with
 | true=>
  obtain⟨N,hN,q2⟩:=q2;rw[if_pos rfl];refine aHk q (bV (y pins s2 d t _ u q2) λf F q3=>?_)
  cases f with
  | next=>
   obtain⟨a,j,k,n3⟩:=q3;obtain⟨l,m,o⟩:=hN a j n3;exact⟨l,m,a,j,k,o⟩
  | cont=>
   obtain⟨a,j,k,n3⟩:=q3;obtain⟨l,m,o⟩:=hN a j n3;exact⟨l,m,a,j,k,o⟩
  | brk=>exact q3
  | ret v=>exact q3
 | false=>
  rw[if_neg Bool.false_ne_true];exact aJ5 ⟨d,t,u,q2⟩
end
structure It where
 go:Nat->Hp->Prop
 OL:Nat->Hp->V->Hp->Prop
 stop:Nat->Hp->Prop
def qA(X:Cx)(pins:List (Addr×Obj))(H:Hp)(b:Addr):Prop:=
 H b=none/\b≠X.env.locals/\b∉X.fs/\(b∈X.ex\/X.s₀.heap.objs.size<=b)/\(∀x c,X.env.cells.lookup x=some c->c≠b)/\∀p∈X.pn++pins,p.1≠b
variable{pins:List (Addr×Obj)}{σ:St}
theorem Inv.D0{X:Cx}{H H' :Hp}(I:Inv X pins σ H s)(a:s.heap.objs.size<=b)(d:H' b=none):qA X pins H' b:=by
 refine⟨d,aGp (aG4 I.lt a),I.aEv a,.inr (aG2 I.sz a),λx c e z=>?_,λp f z=>?_⟩
 ·obtain⟨v,q⟩:=I.cell x c e;exact absurd (aG4 q.lt (by rw[z];exact a)) (aH6 _)
 ·exact absurd (aG4 (aFu (I.pin p f).1) (by rw[z];exact a)) (aH6 _)
structure Turn(P:Program)(w:World)(K:aJn)(tg:Expr)(J:It)(fp:List Addr)(it:Addr)(tn:Nat->Heap->Prop):Prop where
 mem:it∈fp
 obj:∀i h,tn i h->∀b∈fp,∃o,h.get? b=some o/\∀v,o.data≠ .cell v
 keep:∀i h h',tn i h->(∀b∈fp,∀o,h.get? b=some o->h'.get? b=some o)->tn i h'
 item:∀(X:Cx),X.prog=P->X.w=w->X.K=K->X.calm=true->∀(i:Nat) (pins:List (Addr×Obj)) (s:Shared) (σ:St) (H:Hp) (E:aJo),Inv X pins σ H s->(∀b∈fp,qA X pins H b)->tn i s.heap->J.go i H->
  wpAny (model P w) X.A (pyNext (.ref it)) (λr s1=>∃u,r=some u/\
   wpAny (model P w) X.A (letOwnedTupleGo tg (.ref it) u) (λ_ s2=>∃x H',Inv X pins σ H' s2/\RelV x u/\J.OL i H x H' /\tn (i+1) s2.heap/\∀b∈fp,H' b=none) E s1) E s
 done:∀(X:Cx),X.prog=P->X.w=w->X.K=K->X.calm=true->∀(i:Nat) (pins:List (Addr×Obj)) (s:Shared) (σ:St) (H:Hp) (E:aJo),Inv X pins σ H s->(∀b∈fp,qA X pins H b)->tn i s.heap->J.stop i H->
  wpAny (model P w) X.A (pyNext (.ref it)) (λr s1=>r=none/\Inv X pins σ H s1) E s
 self:∀(A:Around) (i:Nat) (s:Shared) (Q:aJo) (E:aJo),tn i s.heap->Q (.ref it) s->wpAny (model P w) A (pyIter (.ref it)) Q E s
abbrev TI:=St->Hp->(It->Hp->Prop)->Prop
def PIE(X:Cx)(pins:List (Addr×Obj))(σ:St)(tg:Expr)(R:It->Hp->Prop)(a:Value)(s2:Shared):Prop:=
 ∃(it:Addr) (fp:List Addr) (tn:Nat->Heap->Prop) (J:It) (H' :Hp),a= .ref it/\Inv X pins σ H' s2/\Turn X.prog X.w X.K tg J fp it tn/\tn 0 s2.heap/\(∀b∈fp,qA X pins H' b)/\R J H'
def PI(X:Cx)(tg iter:Expr)(wi:TI):Prop:=
 ∀(pins:List (Addr×Obj)) (s:Shared) (σ:St) (H:Hp) (R:It->Hp->Prop),Inv X pins σ H s->wi σ H R->
  wpAny (model X.prog X.w) X.A (eval iter X.env) (λv s1=>wpAny (model X.prog X.w) X.A (pyIter v) (PIE X pins σ tg R) X.xe s1) X.xe s
variable{tg:Expr}
theorem GC{M:Model}{it:Addr}{n:String}{vs:Array Value}{Q:Unit->Shared->Prop}(ho:s.heap.get? it=some o)(b:o.cls= .type n)(hd:o.data= .fields vs)
    (c:["enumerate","zip","dict_itemiterator","dict_reverseitemiterator","odict_iterator","itertools.zip_longest","itertools.pairwise"].contains n=false) (a:Q () s):wpAny M A (letOwnedTupleGo tg (.ref it) u) Q E s:=by
  unfold letOwnedTupleGo
  cases tg <;> first
    | exact aFo a
    | (cases u <;> first
        | exact aFo a
        | (refine aFm (aJ9 ho ?_)
           rw[b,hd];show wpAny M A (if (["enumerate","zip","dict_itemiterator","dict_reverseitemiterator","odict_iterator","itertools.zip_longest","itertools.pairwise"].contains n && vs[0]? ==some (rawInt _))=true then _ else _) Q E s;rw[if_neg (by intro h;rw[c,Bool.false_and]at h;cases h)]
           exact aFo a))
def Itl(K:aJn)(a:Addr):It:=
 ⟨λi H=>∃xs x,p7 K H a xs/\xs[i]? =some x,λi H x H' =>H' =H/\∀xs,p7 K H a xs->xs[i]? =some x,λi H=>∃xs,p7 K H a xs/\xs.length<=i⟩
def Itt(K:aJn)(a:Addr):It:=
 ⟨λi H=>∃xs x,sX K H a xs/\xs[i]? =some x,λi H x H' =>H' =H/\∀xs,sX K H a xs->xs[i]? =some x,λi H=>∃xs,sX K H a xs/\xs.length<=i⟩
def Itr(lo:Int)(n:Nat):It:=⟨λi _=>i<n,λi H x H' =>H' =H/\x= .int (lo+i),λi _=>n<=i⟩
variable{K:aJn}
theorem GY(a it:Addr):Turn P w K tg (Itl K a) [it] it (λi h=>h.IsListIter it a i) where
 mem:=by simp
 obj:=λi h st b f=>by
  have e:b=it:=by simpa using f
  subst e;obtain⟨o,e,c,d⟩:=st;exact⟨o,e,λv z=>by rw[d]at z;cases z⟩
 keep:=λi h h' st k=>st.at λo e=>k it (by simp) o e
 item:=by
  intro X m n q C i pins s σ H E I j st hg;subst m n q;obtain⟨xs,x,l,r⟩:=hg;obtain⟨aN,t,p,hz⟩:=I.list l;obtain⟨u,D,F⟩:=t.get r;obtain⟨f0,f1,G,y,A,B⟩:=j it (by simp);refine wpAny_pyNext_list_item st p.isList (x:=u) (by simpa using D) λh' g J=>?_;have L:Inv X pins σ H {s with heap:=h'}:=I.turned (t' :=s.toks) (λb o f e=>(J.2 b f).trans e) f0 f1 y A B;obtain⟨o,e,c,d⟩:=id g;exact⟨u,rfl,GC (s:={s with heap:=h'}) e c d (by decide) ⟨x,H,L,F,⟨rfl,λO M=>by rw[I.BF M l];exact r⟩,g,λb f=>(j b f).1⟩⟩
 done:=by
  intro X m n q C i pins s σ H E I j st hg;subst m n q;obtain⟨xs,l,r⟩:=hg;obtain⟨aN,t,p,hz⟩:=I.list l;obtain⟨f0,f1,G,y,A,B⟩:=j it (by simp);have Q:=t.length
  exact wpAny_pyNext_list_end (I.ok.hd C) st p.isList (by simp;lia) λh' N=>⟨rfl,I.turned (t' :=s.toks) (λb o f e=>N b o f e) f0 f1 y A B⟩
 self:=λ_ _ _ _ _ st h=>wpAny_pyIter_listiter st h
theorem CW(a it:Addr):Turn P w K tg (Itt K a) [it] it (λi h=>h.IsTupleIter it a i) where
 mem:=by simp
 obj:=λi h st b f=>by
  have e:b=it:=by simpa using f
  subst e;obtain⟨o,e,c,d⟩:=st;exact⟨o,e,λv z=>by rw[d]at z;cases z⟩
 keep:=λi h h' st k=>st.at λo e=>k it (by simp) o e
 item:=by
  intro X m n q C i pins s σ H E I j st hg;subst m n q;obtain⟨xs,x,l,r⟩:=hg;obtain⟨aN,t,p,hz⟩:=I.tuple l;obtain⟨u,D,F⟩:=t.get r;obtain⟨f0,f1,G,y,A,B⟩:=j it (by simp);refine wpAny_pyNext_tuple_item st (show s.heap.IsTuple a aN.toArray from p) (x:=u) (by simpa using D) λh' g J=>?_;have L:Inv X pins σ H {s with heap:=h'}:=I.turned (t' :=s.toks) (λb o f e=>(J.2 b f).trans e) f0 f1 y A B;obtain⟨o,e,c,d⟩:=id g;exact⟨u,rfl,GC (s:={s with heap:=h'}) e c d (by decide) ⟨x,H,L,F,⟨rfl,λO M=>by rw[I.wM M l];exact r⟩,g,λb f=>(j b f).1⟩⟩
 done:=by
  intro X m n q C i pins s σ H E I j st hg;subst m n q;obtain⟨xs,l,r⟩:=hg;obtain⟨aN,t,p,hz⟩:=I.tuple l;obtain⟨f0,f1,G,y,A,B⟩:=j it (by simp);have Q:=t.length
  exact wpAny_pyNext_tuple_end (I.ok.hd C) st (show s.heap.IsTuple a aN.toArray from p) (by simp;lia) λh' N=>⟨rfl,I.turned (t' :=s.toks) (λb o f e=>N b o f e) f0 f1 y A B⟩
 self:=λ_ _ _ _ _ st h=>wpAny_pyIter_tupleiter st h
theorem CY(it:Addr)(lo:Int)(n:Nat):Turn P w K tg (Itr lo n) [it] it (λi h=>IsRangeIter h it (lo+(i:Nat)*1) ((n:Int)-(i:Nat)) 1) where
 mem:=by simp
 obj:=λi h st b a=>by
  have e:b=it:=by simpa using a
  subst e
  exact⟨_,st,λv z=>by
   have r :Data.fields _=Data.cell v:=z
   cases r⟩
 keep:=λi h h' st k=>k it (by simp) _ st
 item:=by
  intro X f g j l i pins s σ H E I d st hg;subst f g j;obtain⟨f0,f1,u,m,p,q⟩:=d it (by simp);have W:=Walks.range (prog:=X.prog) (w:=X.w) (I.ok.hd l) it lo 1 n;refine W.item i s _ _ hg st λv h' tk hv c kk=>?_;obtain⟨t,rfl⟩:=hv;have x:Inv X pins σ H {s with heap:=h',toks:=tk}:=I.turned (λb o a e=>kk b o (by simpa using a) e) f0 f1 m p q;refine⟨_,rfl,GC (s:={s with heap:=h',toks:=tk}) (n:= "range_iterator") c rfl rfl (by decide) ⟨.int (lo+i),H,x,⟨t,?_⟩,⟨rfl,rfl⟩,c,λb a=>(d b a).1⟩⟩;rw[Int.mul_one]
 done:=by
  intro X f g j l i pins s σ H E I d st hg;subst f g j;obtain⟨f0,f1,u,m,p,q⟩:=d it (by simp)
  exact wpAny_pyNext_range_end (I.ok.hd l) st (by have:n<=i:=hg;lia) λh' y=>⟨rfl,I.turned (t' :=s.toks) (λb o a e=>y b o a e) f0 f1 m p q⟩
 self:=λ_ _ _ _ _ st h=>wpAny_pyIter_rangeiter st h
section
variable {X:Cx}{tg:Expr}
theorem A4{R:It->Hp->Prop}{lo hi:Int}{t u v:Tok}{tk:Nat}(I:Inv X pins σ H s)(c: -(2^62)<=lo)(d:lo<2^62)(f: -(2^62)<=hi)(g:hi<2^62)
  (q:R (Itr lo (hi-lo).toNat) H):wpAny (model X.prog X.w) X.A (pyIter (.ref s.heap.objs.size)) (PIE X pins σ tg R) E {s with heap:=s.heap.push {cls:= .type "range",data:= .fields #[.int lo t,.int hi u,.int 1 v]},toks:=tk}:=by
 refine wpAny_pyIter_range (IsRange.new ..) (small_one c d f g) ?_;have a:Inv X pins σ H {s with heap:=s.heap.push {cls:= .type "range",data:= .fields #[.int lo t,.int hi u,.int 1 v]},toks:=tk}:=I.kept λb o e=>aFn _ e
 refine⟨(s.heap.push {cls:= .type "range",data:= .fields #[.int lo t,.int hi u,.int 1 v]}).objs.size,[(s.heap.push {cls:= .type "range",data:= .fields #[.int lo t,.int hi u,.int 1 v]}).objs.size],_,_,H,rfl,
  a.kept (t' :=tk) λb o e=>aFn _ e,CY _ lo (hi-lo).toNat,?_,λb h=>?_,q⟩
 ·have i:lo+((0:Nat):Int)*1=lo:=by simp
  have j:(((hi-lo).toNat:Nat):Int)-((0:Nat):Int)=Builtin.Range.rangeSize lo hi 1:=by rw[rangeSize_one];split <;> lia
  show IsRangeIter _ _ (lo+((0:Nat):Int)*1) ((((hi-lo).toNat:Nat):Int)-((0:Nat):Int)) 1;rw[i,j];exact aFs _ rfl
 ·have e:b=(s.heap.push {cls:= .type "range",data:= .fields #[.int lo t,.int hi u,.int 1 v]}).objs.size:=by simpa using h
  subst e;exact a.D0 (aFq _) (a.bG.fresh (aFq _))
def aBp(a:TA):TI:=λσ H R=>a σ H λvs b=>∃j:Int,vs=[.int j]/\ -(2^62)<=j/\j<2^62/\R (Itr 0 j.toNat) b
def aBo(a:TA):TI:=λσ H R=>a σ H λvs b=>∃i j:Int,vs=[.int i,.int j]/\(-(2^62)<=i/\i<2^62/\ -(2^62)<=j/\j<2^62)/\R (Itr i (j-i).toNat) b
theorem G9{a:Expr}{b:TA}{p pos:Pos}(hg:Gl X "range")(c:X.mg "range"=none)(d:PA X [a] b)(f:starEach [a] X.env=[(false,eval a X.env)]:=by rfl):PI X tg (.Call (.Name "range" p) [a] [] pos) (aBp b):=by
 intro pins s σ H R I h;refine Call_ (jE I hg c boot_range (aGj (bV (d pos pins s σ H _ I h) λus s1 ⟨vs,k,g,r1,q1⟩=>?_) f rfl));obtain⟨j,e,q1,q2,q⟩:=q1;subst e
 cases r1 with
 | cons r i=>
  cases i;obtain⟨t,rfl⟩:=r;exact call_range_1 (A4 g (by lia) (by lia) q1 q2 (by simpa using q))
theorem G8{a b:Expr}{f:TA}{p pos:Pos}(hg:Gl X "range")(g:X.mg "range"=none)(k:PA X [a,b] f)(l:starEach [a,b] X.env=[(false,eval a X.env),(false,eval b X.env)]:=by rfl)(c:starEach [b] X.env=[(false,eval b X.env)]:=by rfl):
  PI X tg (.Call (.Name "range" p) [a,b] [] pos) (aBo f):=by
 intro pins s σ H R I h;refine Call_ (jE I hg g boot_range (aGj (bV (k pos pins s σ H _ I h) λus s1 ⟨vs,u,m,r1,q1⟩=>?_) (by rw[l,c]) (by rw[c];rfl)));obtain⟨i,j,e,⟨q1,q2,q3,n⟩,q⟩:=q1;subst e
 cases r1 with
 | cons r d=>
  cases d with
  | cons o d=>
   cases d;obtain⟨t,rfl⟩:=r;obtain⟨t',rfl⟩:=o;exact call_range_2 (A4 m q1 q2 q3 n q)
def aDv(wi:TI)(g:TG)(tb:TS):TS:=λD σ H=>wi σ H λJ d=>∃W:Nat->Nat->St->Hp->Prop,(∃m,W 0 m σ d)/\∀i m σ H,W i m σ H->
 (J.stop i H/\D.nx σ H)\/(J.go i H/\∃N:St->Hp->Prop,(∀a H',N a H' ->∃c,c<m/\W (i+1) c a H')/\∀x H',J.OL i H x H' ->g x σ H' λb e=>tb {D with nx:=N,ct:=N,bk:=D.nx} b e)
def qE(fp:List Addr)(h:Heap):List (Addr×Obj):=fp.filterMap λb=>(h.get? b).map λo=>(b,o)
variable{fp:List Addr}
theorem fB(a:b∈fp)(e:h.get? b=some o):(b,o)∈qE fp h:=aJa.mpr ⟨b,a,by rw[e];rfl⟩
theorem HD{p:Addr×Obj}(a:p∈qE fp h):p.1∈fp/\h.get? p.1=some p.2:=by
 obtain⟨b,c,e⟩:=aJa.mp a
 cases q:h.get? b with
 | none=>rw[q]at e;cases e
 | some o=>
  rw[q]at e;have d :(b,o)=p:=aGe e;subst d;exact⟨c,q⟩
theorem Inv.pinned(I:Inv X pins σ H s)(f:∀b∈fp,qA X pins H b)(ho:∀b∈fp,∃o,s.heap.get? b=some o/\∀v,o.data≠ .cell v):Inv X (pins++qE fp s.heap) σ H s:=
 I.FP λp g=>(aG5.mp g).elim (λz=>I.pin p (aG8 _ z)) λz=>by
  obtain⟨a,e⟩:=HD z;obtain⟨f0,f1,h,_⟩:=f p.1 a;obtain⟨o,c,d⟩:=ho p.1 a;rw[e]at c;cases c;exact⟨e,f0,f1,h,d⟩
theorem Inv.mH{pins a:List (Addr×Obj)}(I:Inv X (pins++a) σ H s):Inv X pins σ H s:=I.FP λp b=>I.pin p (aG8 _ (aI0 _ b))
theorem VJ{iter:Expr}{body:List Stmt}{wi:TI}{g:TG}{tb:TS}{pos:Pos}(z:PassesOwn (model X.prog X.w) X.A X.env X.xe)(Y:X.calm=true)(hi:PI X tg iter wi)(hg:PG X tg g)(c:AE X body tb)
  (hs:∀x,foldedSetIterable iter X.env x=pure x:=by intro _;rfl):PS X (.For tg iter body [] pos) (aDv wi g tb):=by
 intro pins s σ H D I h;refine wpAny_For (bV (hi pins s σ H _ I h) λv s1 h1=>bV h1 λitv s2 h2=>?_) hs;obtain⟨it,fp,tn,J,H2,e,I2,T,P,Z,W,⟨m0,w0⟩,B⟩:=h2;subst e
 have j:∀{H' :Hp},(∀b∈fp,H' b=none)->∀b∈fp,qA X pins H' b:=λhn b c=>⟨hn b c,(Z b c).2⟩
 refine codeAny_forLoop_any (λn s' =>∃i k H',Inv X pins k H' s' /\tn i s'.heap/\(∀b∈fp,H' b=none)/\W i n k H') ?_ m0 ⟨0,σ,H2,I2,P,λb c=>(Z b c).1,w0⟩;rintro n s3 ⟨i,l,O,I3,C,E,w3⟩
 rcases B i n l O w3 with ⟨stop,qn⟩ | ⟨go,N,hN,step⟩
 ·refine aHk z (bV (T.done X rfl rfl rfl Y i pins s3 l O X.xe I3 (j E) C stop) λr s4 F=>?_);obtain⟨Q,I4⟩:=F;subst Q;exact aJ5 ⟨l,O,I4,qn⟩
 ·refine aHk z (bV (T.item X rfl rfl rfl Y i pins s3 l O X.xe I3 (j E) C go) λr s4 G=>?_);obtain⟨u,Q,h4⟩:=G;subst Q;refine aHk z (bV h4 λ_ s5 K=>?_);obtain⟨x,H5,I5,r5,y5,y,R⟩:=K;have S :=I5.pinned (j R) (T.obj _ _ y);refine aHk z (bV (hg _ s5 l H5 x u _ S r5 (step x H5 y5)) λ_ s6 L=>?_);obtain⟨U,H6,I6,q6⟩:=L;refine aHk z (bV (c _ s6 U H6 _ I6 q6) λf V t=>?_)
  have again:∀{a:St} {p:Hp},Inv X (pins++qE fp s5.heap) a p V->N a p->∃m,m<n/\∃i k H',Inv X pins k H' V/\tn i V.heap/\(∀b∈fp,H' b=none)/\W i m k H' :=λ{a p} q M=>by
   obtain⟨m',hm,w7⟩:=hN a p M;refine⟨m',hm,i+1,a,p,q.mH,T.keep _ _ _ y λb c o e=>(q.pin (b,o) (aG8 _ (aG8 _ (fB c e)))).1,λb c=>?_,w7⟩;obtain⟨o,e,d⟩:=T.obj _ _ y b c;exact(q.pin (b,o) (aG8 _ (aG8 _ (fB c e)))).2.1
  cases f with
  | next=>obtain⟨a,p,q,M⟩:=t;exact again q M
  | cont=>obtain⟨a,p,q,M⟩:=t;exact again q M
  | brk=>obtain⟨a,p,q,t⟩:=t;exact⟨a,p,q.mH,t⟩
  | ret v=>obtain⟨x7,a,p,q,r7,t⟩:=t;exact⟨x7,a,p,q.mH,r7,t⟩
end
abbrev R2:=V->V->Hp->VK->Prop
def dP(X:Cx)(f:Value->Value->Sem Value)(r:R2):Prop:=
 ∀(pins:List (Addr×Obj)) (s:Shared) (σ:St) (H:Hp) (x y:V) (v u:Value) (Q:VK),Inv X pins σ H s->RelV x v->RelV y u->r x y H Q->
  wpAny (model X.prog X.w) X.A (f v u) (EP X pins σ Q) X.xe s
def ZK(X:Cx)(f:Value->Sem Value)(r:V->Hp->VK->Prop):Prop:=
 ∀(pins:List (Addr×Obj)) (s:Shared) (σ:St) (H:Hp) (x:V) (v:Value) (Q:VK),Inv X pins σ H s->RelV x v->r x H Q->
  wpAny (model X.prog X.w) X.A (f v) (EP X pins σ Q) X.xe s
def cB(X:Cx)(f:Value)(r:List V->Hp->VK->Prop):Prop:=
 ∀(pins:List (Addr×Obj)) (s:Shared) (σ:St) (H:Hp) (xs:List V) (us:List Value) (Q:VK),Inv X pins σ H s->Vals xs us->r xs H Q->
  wpAny (model X.prog X.w) X.A (call f us) (EP X pins σ Q) X.xe s
def aFh(X:Cx)(r:V->Hp->(Bool->Hp->Prop)->Prop):Prop:=
 ∀(pins:List (Addr×Obj)) (s:Shared) (σ:St) (H:Hp) (x:V) (v:Value) (Q:Bool->Hp->Prop),Inv X pins σ H s->RelV x v->r x H Q->
  wpAny (model X.prog X.w) X.A (truthy v) (TP X pins σ Q) X.xe s
def ZV(r:R2)(a tb:TE):TE:=λσ H Q=>a σ H λx b=>tb σ b λy c=>r x y c Q
def tUn(r:V->Hp->VK->Prop)(a:TE):TE:=λσ H Q=>a σ H λx b=>r x b Q
def rI(C:Int->Int->Prop)(g:Int->Int->V):R2:=λx y H Q=>∃i j,x= .int i/\y= .int j/\C i j/\Q (g i j) H
def T4(g:Int->Int->V):R2:=λx y H Q=>∃i j,x= .int i/\y= .int j/\Q (g i j) H
def rU(g:Int->V):V->Hp->VK->Prop:=λx H Q=>∃i,x= .int i/\Q (g i) H
section
variable {X:Cx}{a b c:Expr}{ta tb tc:TE}{pos:Pos}
variable{f:Value->Value->Sem Value}
theorem Y0(k:PE X a ta)(l:PE X b tb){R:V->V->Hp->Prop}(I:Inv X pins σ H s)
  (h:ta σ H λx j=>tb σ j λy c=>R x y c) {Q:aJo} 
  (m:∀v u s2 x y c,Inv X pins σ c s2->RelV x v->RelV y u->R x y c->wpAny (model X.prog X.w) X.A (f v u) Q X.xe s2):
  wpAny (model X.prog X.w) X.A (eval a X.env) (λv d=>wpAny (model X.prog X.w) X.A (eval b X.env) (λu e=>wpAny (model X.prog X.w) X.A (f v u) Q X.xe e) X.xe d) X.xe s:=by
 refine bV (k pins s σ H _ I h) λv s1 g=>?_;obtain⟨x,j,n,r1,q1⟩:=g;refine bV (l pins s1 σ j _ n q1) λu s2 i=>?_;obtain⟨y,c,o,r2,q2⟩:=i;exact m v u s2 x y c o r1 r2 q2
theorem aAj{c:Operator}{r:R2}(ho:dP X (binaryOp c) r)(d:PE X a ta)(e:PE X b tb):PE X (.BinOp a c b pos) (ZV r ta tb):=by
 intro pins s σ H Q I h;exact wpAny_BinOp (Y0 d e I h λv u s2 x y f g i j q=>ho pins s2 σ f x y v u Q g i j q)
theorem aAi{c:UnaryOp}{r:V->Hp->VK->Prop}(ho:ZK X (unaryOp c) r)(d:PE X a ta):PE X (.UnaryOp c a pos) (tUn r ta):=by
 intro pins s σ H Q I h;exact UnaryOp_ (bV (d pins s σ H _ I h) λv s1 b=>by obtain⟨x,e,f,r1,q1⟩:=b;exact ho pins s1 σ e x v Q f r1 q1)
variable{g:Int->Int->Int}
theorem opI{C:Int->Int->Prop}
  (rule:∀(i j:Int) (t u:Tok) (s:Shared) (Q:aJo) (E:aJo),C i j->Q (.int (g i j) s.toks) {s with toks:=s.toks+1}->wpAny (model X.prog X.w) X.A (f (.int i t) (.int j u)) Q E s):
  dP X f (rI C λi j=>.int (g i j)):=by
 intro pins s σ H x y v u Q I a b h;obtain⟨i,j,rfl,rfl,c,q⟩:=h;obtain⟨t,rfl⟩:=a;obtain⟨t',rfl⟩:=b;exact rule i j t t' s _ _ c ⟨.int (g i j),H,I.tok _,⟨_,rfl⟩,q⟩
theorem aAt
  (rule:∀(i j:Int) (t u:Tok) (s:Shared) (Q:aJo) (E:aJo),Q (.int (g i j) s.toks) {s with toks:=s.toks+1}->wpAny (model X.prog X.w) X.A (f (.int i t) (.int j u)) Q E s):
  dP X f (T4 λi j=>.int (g i j)):=by
 intro pins s σ H x y v u Q I a b h;obtain⟨i,j,rfl,rfl,q⟩:=h;obtain⟨t,rfl⟩:=a;obtain⟨t',rfl⟩:=b;exact rule i j t t' s _ _ ⟨.int (g i j),H,I.tok _,⟨_,rfl⟩,q⟩
theorem V5{g:Int->Int->Bool}
  (rule:∀(i j:Int) (t u:Tok) (s:Shared) (Q:aJo) (E:aJo),Q (.bool (g i j)) s->wpAny (model X.prog X.w) X.A (f (.int i t) (.int j u)) Q E s):
  dP X f (T4 λi j=>.bl (g i j)):=by
 intro pins s σ H x y v u Q I a b h;obtain⟨i,j,rfl,rfl,q⟩:=h;obtain⟨t,rfl⟩:=a;obtain⟨t',rfl⟩:=b;exact rule i j t t' s _ _ ⟨.bl (g i j),H,I,rfl,q⟩
def aCq(i j:Int):Prop:=0<j/\j<1073741824
def Y9(i j:Int):Prop:=0<=j/\j<=1000000/\i.natAbs<2^64
def JA(i j:Int):Prop:=(-(2^64)<i/\i<2^64)\/(-(2^64)<j/\j<2^64)
theorem JA.ok{i j:Int}(h:JA i j):IntMulOk i j:=by
 rcases h with ⟨a,b⟩ | ⟨a,b⟩
 ·exact .of_left (intBits_le_64 a b)
 ·exact .of_right (intBits_le_64 a b)
theorem V4:dP X (binaryOp .Add) (T4 λi j=>.int (i+j)):=aAt λ_ _ _ _ _ _ _ q=>add_int q
theorem VZ:dP X (binaryOp .Sub) (T4 λi j=>.int (i-j)):=aAt λ_ _ _ _ _ _ _ q=>sub_int q
theorem V1:dP X (binaryOp .Mult) (rI JA λi j=>.int (i*j)):=opI λ_ _ _ _ _ _ _ a q=>mul_int q a.ok
theorem QV:dP X (binaryOp .FloorDiv) (rI aCq λi j=>.int (i / j)):=opI λi j _ _ _ _ _ a q=>by
 have b:(0:Int)<j:=a.1;have c:j<1073741824:=a.2;exact floordiv_int (by lia) (by rw[Int.fdiv_eq_ediv_of_nonneg i (by lia)];exact q) (.inl (PyProof.noPylong_small (by lia)))
theorem V2:dP X (binaryOp .Mod) (rI (λ_ j=>0<j) λi j=>.int (i % j)):=opI λi j _ _ _ _ _ a q=>by
 have b:(0:Int)<j:=a;exact mod_int' (by lia) (by rw[Int.fmod_eq_emod_of_nonneg i (by lia)];exact q)
theorem V0:dP X (binaryOp .Pow) (rI Y9 λi j=>.int (i^j.toNat)):=opI λ_ _ _ _ _ _ _ a q=>pow_int_small a.1 a.2.1 a.2.2 q
theorem unI{f:Value->Sem Value}{g:Int->Int}
  (rule:∀(i:Int) (t:Tok) (s:Shared) (Q:aJo) (E:aJo),Q (.int (g i) s.toks) {s with toks:=s.toks+1}->wpAny (model X.prog X.w) X.A (f (.int i t)) Q E s):
  ZK X f (rU λi=>.int (g i)):=by
 intro pins s σ H x v Q I a h;obtain⟨i,rfl,q⟩:=h;obtain⟨t,rfl⟩:=a;exact rule i t s _ _ ⟨.int (g i),H,I.tok _,⟨_,rfl⟩,q⟩
theorem UN:ZK X (unaryOp .USub) (rU λi=>.int (-i)):=unI λ_ _ _ _ _ q=>neg_int q
end
section
variable {X:Cx}{a b c:Expr}{ta tb tc:TE}{pos:Pos}
theorem D1{Q:VK}{k a :Bool}(I:Inv X pins σ H s)(q:Q (.bl k) H)(e:k=a):EP X pins σ Q (.bool a) s:=by
 subst e;exact⟨.bl k,H,I,rfl,q⟩
theorem aAq:dP X (compareOp .Lt) (T4 λi j=>.bl (decide (i<j))):=V5 λ_ _ _ _ _ _ _ q=>lt_int q
theorem aAr:dP X (compareOp .LtE) (T4 λi j=>.bl (decide (i<=j))):=V5 λ_ _ _ _ _ _ _ q=>le_int q
theorem aAs:dP X (compareOp .Gt) (T4 λi j=>.bl (decide (j<i))):=V5 λ_ _ _ _ _ _ _ q=>gt_int q
theorem HA:dP X (compareOp .Lt) (λx y H Q=>∃i j,x= .str i/\y= .str j/\Q (.bl (decide (i.cps.toList<j.cps.toList))) H):=by
 intro pins s σ H x y v u Q I a b h;obtain⟨i,j,rfl,rfl,q⟩:=h;obtain⟨t,rfl⟩:=a;obtain⟨t',rfl⟩:=b;exact lt_str (D1 I q rfl)
theorem HB:dP X (compareOp .In) (λx y H Q=>∃i j,x= .str i/\y= .str j/\Q (.bl (!(Builtin.Str.occurrences j i 0 j.length 1).isEmpty)) H):=by
 intro pins s σ H x y v u Q I a b h;obtain⟨i,j,rfl,rfl,q⟩:=h;obtain⟨t,rfl⟩:=a;obtain⟨t',rfl⟩:=b;exact in_str (D1 I q rfl)
theorem QU:dP X (compareOp .IsNot) (λx y H Q=>y= .bU/\Q (.bl (!decide (x= .bU))) H):=by
 intro pins s σ H x y v u Q I a b h;obtain⟨rfl,q⟩:=h;cases b;refine isnot_none_gen (D1 I q ?_)
 cases x <;> first
  | (cases a;rfl)
  | (obtain⟨t,rfl⟩:=a;rfl)
variable{op:CmpOp}
theorem QM{r:R2}(ho:dP X (compareOp op) r)(c:PE X a ta)(d:PE X b tb)(e:behindInMarks op b=false):PE X (.Compare a [op] [b] pos) (ZV r ta tb):=by
 intro pins s σ H Q I h;exact wpAny_Compare1 (Y0 c d I h λv u s2 x y f g i j q=>ho pins s2 σ f x y v u Q g i j q) e
def JQ(t:TE):TT:=λσ H Q=>t σ H λx H' =>∃k,x= .bl k/\Q k H'
theorem P0{r:R2}(ho:dP X (compareOp op) r)(d:PE X a ta)(f:PE X b tb)(g:behindInMarks op b=false):PT X (.Compare a [op] [b] pos) (JQ (ZV r ta tb)):=by
 intro pins s σ H Q I h
 refine wpAny_isTrue_Compare1 (bV (d pins s σ H _ I h) λv s1 ⟨x,i,j,r1,q1⟩=>bV (f pins s1 σ i _ j q1) λu s2 ⟨y,l,m,r2,q2⟩=>
  bV (ho pins s2 σ l x y v u _ m r1 r2 q2) λc p ⟨z,n,o,r3,k,e,q3⟩=>?_) g
 subst e;cases r3;exact aH7 ⟨n,o,q3⟩
def JU(r b :R2)(ta tb tc:TE):TE:=λσ H Q=>ta σ H λx c=>tb σ c λy d=>r x y d λz a=>∃k,z= .bl k/\
 (if k=true then tc σ a λw' e=>b y w' e Q else Q (.bl false) a)
theorem KJ{op f :CmpOp}{r j :R2}(ho:dP X (compareOp op) r)(i :dP X (compareOp f) j)(n:PE X a ta)(o:PE X b tb)(p:PE X c tc)
  (q:lastMarks [op,f] [b,c]=false:=by with_unfolding_all rfl):PT X (.Compare a [op,f] [b,c] pos) (JQ (JU r j ta tb tc)):=by
 intro pins s σ H Q I h
 refine isTrue_chain (bV (n pins s σ H _ I h) λv s1 ⟨x,t,w,r1,q1⟩=>test_link (bV (o pins s1 σ t _ w q1) λu s2 ⟨y,A,B,r2,q2⟩=>
  bV (ho pins s2 σ A x y v u _ B r1 r2 q2) λd C ⟨z,l,m,r3,k,e,q3⟩=>?_)) q
 subst e;cases r3;refine aH7 ?_
 cases k with
 | false=>
  obtain⟨T,D,E⟩:=q3;cases D;exact ite_ff ⟨l,m,E⟩
 | true=>
  refine ite_tt (test_last (bV (p pins C σ l _ m q3) λw' F ⟨G,J,K,L,M⟩=>bV (i pins F σ J y G u w' _ K r2 L M) λd' U g=>?_));obtain⟨V,N,O,P,W,R,S⟩:=g;subst R;cases P;exact aH7 ⟨N,O,S⟩
def Y5(K:aJn)(x:V)(H:Hp)(k:Bool):Prop:=
 match x with
 | .bU=>k=false
 | .bl b=>k=b
 | .int i=>k=(i !=0)
 | .str y=>y.length<=sizeLine/\k=((y.length:Int) !=0)
 | .byt y=>y.size<=sizeLine/\k=((y.size:Int) !=0)
 | .ref p=>(∃xs,p7 K H p xs/\k= !xs.isEmpty)\/(∃xs,sX K H p xs/\k= !xs.isEmpty)\/∃kvs,H p=some (.dK kvs)/\k= !kvs.isEmpty
 | _=>False
theorem DV{κ:Type}{kvs:List (κ×V)}{vs:List (κ×Value)}(r:KV kvs vs):(!vs.isEmpty)= !kvs.isEmpty:=by
 cases r <;> rfl
theorem uF{xs:List V}{aN:List Value}(r:Vals xs aN):(!aN.toArray.isEmpty)= !xs.isEmpty:=by
 cases r <;> simp
theorem mR:(sizeLine:Nat)<2^63:=by rw[sizeLine_eq];decide
theorem UR:aFh X (λx H Q=>∃k,Y5 X.K x H k/\Q k H):=by
 intro pins s σ H x v Q I d h;obtain⟨k,e,q⟩:=h;have n:=mR;have o:sizeLine=16777216:=aGb
 cases x with
 | bU=>
  cases d;have a :k=false:=e;subst a;exact truthy_none ⟨H,I,q⟩
 | bl b=>
  cases d;have a :k=b:=e;subst a;exact aH7 ⟨H,I,q⟩
 | int i=>
  obtain⟨t,rfl⟩:=d;have a :k=(i !=0):=e;subst a;exact PySem.P.truthy_int ⟨H,I,q⟩
 | str y=>
  obtain⟨t,rfl⟩:=d;obtain⟨j,a⟩:y.length<=sizeLine/\k=((y.length:Int) !=0):=e;subst a;exact PySem.P.truthy_str (by lia) ⟨H,I.tok _,q⟩
 | byt y=>
  obtain⟨t,rfl⟩:=d;obtain⟨j,a⟩:y.size<=sizeLine/\k=((y.size:Int) !=0):=e;subst a;exact PySem.W.truthy_bytes (by lia) ⟨H,I.tok _,q⟩
 | ref p=>
  cases d;have a :(∃xs,p7 X.K H p xs/\k= !xs.isEmpty)\/(∃xs,sX X.K H p xs/\k= !xs.isEmpty)\/∃kvs,H p=some (.dK kvs)/\k= !kvs.isEmpty:=e
  rcases a with ⟨xs,f,a⟩ | ⟨xs,f,a⟩ | ⟨kvs,f,a⟩
  ·subst a;obtain⟨aN,r,g,hz⟩:=I.list f;have c:=r.length;exact wpAny_truthy_list g.isList (by simp only[List.size_toArray];lia) ⟨H,I.tok _,by rw[uF r];exact q⟩
  ·subst a;obtain⟨aN,r,g,hz⟩:=I.tuple f;have c:=r.length;exact truthy_tuple g (by simp only[List.size_toArray];lia) ⟨H,I.tok _,by rw[uF r];exact q⟩
  ·subst a;obtain⟨hz,l,vs,r,m⟩:kvs.length<=sizeLine/\(p==sysModules)=false/\∃vs,KV kvs vs/\s.heap.DictOf (aR X.prog X.w) p vs:=I.bG p _ f;have c:kvs.length=vs.length:=Paired.length r;exact wpAny_truthy_dict l m (by lia) ⟨H,I.tok _,by rw[DV r];exact q⟩
 | _=>exact(show False from e).elim
theorem KI(d:PE X a ta)(he:∀b,isTrue a X.env b=(do let v<-b;standAt a.pos;holding [v] (truthy v))):
  PT X a (λσ H Q=>ta σ H λx H' =>∃k,Y5 X.K x H' k/\Q k H'):=by
 intro pins s σ H Q I h;exact isTrue_plain (bV (d pins s σ H _ I h) λv s1 c=>by obtain⟨x,e,f,r1,q1⟩:=c;exact UR pins s1 σ e x v Q f r1 q1) (he _)
theorem DD:dP X (binaryOp .Add) (λx y H Q=>∃i j,x= .str i/\y= .str j/\i.length+j.length<=sizeLine/\Q (.str (i++j)) H):=by
 intro pins s σ H x y v u Q I a b h;obtain⟨i,j,rfl,rfl,hz,q⟩:=h;obtain⟨t,rfl⟩:=a;obtain⟨t',rfl⟩:=b;exact add_str (λt' tk=>⟨.str (i++j),H,I.tok _,⟨_,rfl⟩,q⟩) hz
theorem vals1{x:V}(r:Vals [x] us):∃u,us=[u]/\RelV x u:=by
 cases r with
 | cons r1 r2=>cases r2;exact⟨_,rfl,r1⟩
theorem vals2{x y:V}(r:Vals [x,y] us):∃u w',us=[u,w']/\RelV x u/\RelV y w' :=by
 cases r with
 | cons r1 r2=>
  cases r2 with
  | cons r3 a=>cases a;exact⟨_,_,rfl,r1,r3⟩
theorem NU:cB X (.builtin "abs") (λxs H Q=>∃i,xs=[.int i]/\Q (.int (if i<0 then -i else i)) H):=by
 intro pins s σ H xs us Q I r h;obtain⟨i,rfl,q⟩:=h;obtain⟨u,rfl,t,rfl⟩:=vals1 r
 exact call_abs_int λu tk=>⟨.int (if i<0 then -i else i),H,I.tok _,⟨_,rfl⟩,q⟩
theorem IV(b:X.calm=true):cB X (.builtin "min") (λxs H Q=>∃i j,xs=[.int i,.int j]/\Q (.int (if j<i then j else i)) H):=by
 intro pins s σ H xs us Q I r h;obtain⟨i,j,rfl,q⟩:=h;obtain⟨u,w',rfl,⟨t,rfl⟩,⟨t',rfl⟩⟩:=vals2 r
 refine min_two_ints (I.ok.hd b) λh' tk k=>⟨_,H,I.kept k,?_,q⟩
 by_cases a:j<i
 ·rw[if_pos a,if_pos a];exact⟨_,rfl⟩
 ·rw[if_neg a,if_neg a];exact⟨_,rfl⟩
end
theorem vC.some_of{v:V}{o:Option Value}(r:vC (some v) o):∃u,o=some u/\RelV v u:=by
 cases o with
 | none=>exact(show False from r).elim
 | some u=>exact⟨u,rfl,r⟩
structure f9(k:Nat)(A:Around):Prop where
 hd:A.handled=none
 dp:A.depth+3*k+5<recursionLimit
 un:A.units+16*k+200<cLine
theorem f9.mono{j k:Nat}(r:f9 k A)(h:j<=k):f9 j A:=⟨r.hd,by have:=r.dp;lia,by have:=r.un;lia⟩
theorem f9.deeper{k:Nat}(r:f9 (k+1) A)(env:Env):f9 k (A.deeper env):=
 ⟨r.hd,by have:=r.dp;show A.depth+1+3*k+5<_;lia,by have:=r.un;show A.units+3+16*k+200<_;lia⟩
theorem f9.depth{k:Nat}(r:f9 k A):A.depth<recursionLimit:=by have:=r.dp;lia
theorem f9.units{k:Nat}(r:f9 k A):A.units+64<cLine:=by have:=r.un;lia
def ZX:TA:=λ_ H Q=>Q [] H
def TU(a:TE)(tr:TA):TA:=λσ H Q=>a σ H λx b=>tr σ b λxs c=>Q (x::xs) c
section
variable {X:Cx}{e:Expr}{es:List Expr}{te:TE}{t:TA}{pos:Pos}
theorem qG:PA X [] ZX:=λ_ _ _ _ H Q I h=>aIj ⟨[],H,I,.nil,h⟩
theorem pM(c:PE X e te)(d:PA X es t)(f:starEach (e::es) X.env=(false,eval e X.env)::starEach es X.env:=by rfl):PA X (e::es) (TU te t):=by
 intro pos pins s σ H Q I h;rw[f];show wpAny _ _ (spliced ((false,eval e X.env)::backTo pos (starEach es X.env))) _ _ s;refine aHg (bV (c pins s σ H _ I h) λu s1 a=>?_);obtain⟨x,g,i,r1,q1⟩:=a;exact bV (d pos pins s1 σ g _ i q1) λus s2 b=>by obtain⟨xs,j,k,r2,q2⟩:=b;exact⟨x::xs,j,k,.cons r1 r2,q2⟩
def ZS(t:TA):TE:=λσ H Q=>t σ H λxs a=>xs.length<=sizeLine/\∀p,a p=none->Q (.ref p) (upd a p (.tup xs))
def aDs(t:TA):TE:=λσ H Q=>t σ H λxs a=>xs.length<=sizeLine/\∀p,a p=none->Q (.ref p) (upd a p (.lst xs))
theorem KW{x1}(h:PA X es t):PE X (.Tuple es x1 pos) (ZS t):=by
 intro pins s σ H Q I d;refine wpAny_Tuple_spliced (bV (h pos pins s σ H _ I d) λus s1 ⟨xs,a,c,r,z,q⟩=>⟨by rw[<-r.length];exact z,?_⟩);have f:a s1.heap.objs.size=none:=c.bG.fresh (aFq _);refine⟨.ref s1.heap.objs.size,upd a s1.heap.objs.size (.tup xs),c.laid (t' :=s1.toks) (λb u e=>aFn _ e) (aFq _) ?_,rfl,q _ f⟩;exact⟨z,us,r,⟨_,aFs _ rfl,rfl,_,rfl⟩,tH _ _⟩
theorem VU(h:PA X es t):PE X (.List es pos) (aDs t):=by
 intro pins s σ H Q I d;refine wpAny_List_spliced (bV (h pos pins s σ H _ I d) λus s1 ⟨xs,a,c,r,z,q⟩=>⟨by rw[<-r.length];exact z,?_⟩);have f:a s1.heap.objs.size=none:=c.bG.fresh (aFq _);refine⟨.ref s1.heap.objs.size,upd a s1.heap.objs.size (.lst xs),c.laid (t' :=s1.toks) (λb u e=>aFn _ e) (aFq _) ?_,rfl,q _ f⟩;exact⟨z,us,0,r,aFs _ rfl⟩
end
abbrev Sp:=List V->Hp->VK->XK->Prop
abbrev JC:=List Env->Hp->Shared->XK->aJo
structure TF(P:Program)(w:World)(K:aJn)(mg:aJq)(base:Heap)(A:Around)(outer:List Env)(s:Shared)(H:Hp):Prop where
 frames:A.frames=some outer
 mod:Mod K mg base
 bs:∀b o,base.get? b=some o->s.heap.get? b=some o/\H b=none
 S1:base.objs.size<=s.heap.objs.size
 uI:s.heap.FunFrames base outer
 ZH:∀b∈NC outer,H b=none
 bG:p9 P w H s.heap
 bare:AllBare s.gens
def CE(outer:List Env)(P:Program)(w:World)(H:Hp)(s:Shared)(Q:VK)(u:Value)(a :Shared):Prop:=
 ∃v H',a.os=s.os/\AllBare a.gens/\Un (NC outer) [] H H' s.heap a.heap/\p9 P w H' a.heap/\RelV v u/\Q v H'
def CR(CX:JC)(outer:List Env)(P:Program)(w:World)(H:Hp)(s:Shared)(Q:VK)(E:XK)(r:Result)(a :Shared):Prop:=
 match r with
 | .ok (.ret u)=>CE outer P w H s Q u a
 | .ok _=>False
 | .error e=>CX outer H s E e a
structure j8(P:Program)(w:World)(K:aJn)(mg:aJq)(base:Heap)(CX:JC)(k:Nat)(f:Addr)(fd:FuncData)(ps:List Str)(sp:Sp):Prop where
 len:∀vs H Q E,sp vs H Q E->vs.length=ps.length
 run:∀(A:Around) (outer:List Env) (s:Shared) (H:Hp) (args:Args) (us:List Value) (vs:List V) (Q:VK) (E:XK),f9 k A->TF P w K mg base A outer s H->BindsTo s fd args (ps.zip us)->Vals vs us->sp vs H Q E->
  codeAny (model P w) A (.call (.ref f) args) (CR CX outer P w H s Q E) s
variable{mg:aJq}{base:Heap}{f:Addr}{fd:FuncData}{ps:List Str}
theorem j8.mono{CX:JC}{j k:Nat}{sp:Sp}(F:j8 P w K mg base CX j f fd ps sp)(h:j<=k):
  j8 P w K mg base CX k f fd ps sp:=⟨F.len,λA outer s H args us vs Q E a=>F.run A outer s H args us vs Q E (a.mono h)⟩
theorem j8.imp{CX:JC}{k:Nat}{sp a :Sp}(F:j8 P w K mg base CX k f fd ps sp)
  (h:∀vs H Q E,a vs H Q E->sp vs H Q E):j8 P w K mg base CX k f fd ps a :=
 ⟨λvs H Q E q=>F.len vs H Q E (h _ _ _ _ q),λA outer s H args us vs Q E b he c hv d=>F.run A outer s H args us vs Q E b he c hv (h _ _ _ _ d)⟩
section
variable {X:Cx}{pins:List (Addr×Obj)}{σ:St}{H:Hp}{s s' :Shared}
theorem Inv.aFa(I:Inv X pins σ H s):TF X.prog X.w X.K X.mg X.base X.A X.stack s H:=
 ⟨I.ok.frames,I.ok.mod,I.bs,aG2 I.ok.S1 I.sz,I.stack,I.FF,I.bG,I.bare⟩
theorem Inv.after{Q:VK}(I:Inv X pins σ H s)(h:CE X.stack X.prog X.w H s Q u s'):EP X pins σ Q u s' :=by
 obtain⟨v,H',os,bare,un,bG,r,q⟩:=h;obtain⟨c,g,d,t,a⟩:=s';obtain rfl:a =s.os:=os;exact⟨v,H',I.call (h' :=c) (g' :=g) (d' :=d) (t' :=t) (ch:=[]) un bG bare (λb z=>absurd z (by simp)),r,q⟩
end
def Z4(sp:Sp)(a:List V)(E:XK)(t:TA):TE:=λσ H Q=>t σ H λvs b=>sp (vs++a) b Q E
def Binds(K:aJn)(fd:FuncData)(ps:List Str)(ds:List Value):Prop:=
 ∀(s:Shared) (us:List Value),K.In s.heap->(us++ds).length=ps.length->BindsTo s fd ⟨us,[]⟩ (ps.zip (us++ds))
theorem Binds.all(h:∀us:List Value,us.length=ps.length->bindArgs fd ⟨us,[]⟩=pure (ps.zip us)):Binds K fd ps []:=λs us _ a=>by
 rw[List.append_nil]at a⊢;exact .of_eq (h us a)
def Passes(CX:JC)(X:Cx)(E:XK):Prop:=∀(pins:List (Addr×Obj)) (σ:St) (H:Hp) (s:Shared) (e:Value) (a :Shared),Inv X pins σ H s->CX X.stack H s E e a ->X.xe e a
section
variable {X:Cx}{CX:JC}{k:Nat}{f C:Addr}{fd:FuncData}{ps:List Str}{sp:Sp}{dvs:List V}{ds:List Value}{E:XK}{x m:Str}{p pos apos:Pos}{e o:Expr}{es:List Expr}{ta:TE}{t:TA}
theorem U7{Q:VK}{vs:List V}(F:j8 X.prog X.w X.K X.mg X.base CX k f fd ps sp)(b:f9 k X.A)(c:Binds X.K fd ps ds)(hd:Vals dvs ds)(d:Passes CX X E)
  (I:Inv X pins σ H s) (r:Vals vs us) (h:sp (vs++dvs) H Q E):wpAny (model X.prog X.w) X.A (call (.ref f) us) (EP X pins σ Q) X.xe s:=by
 have r2:Vals (vs++dvs) (us++ds):=r.append hd;have g:(us++ds).length=ps.length:=by rw[<-r2.length];exact F.len _ _ _ _ h
 refine wpAny_call (aHl (F.run X.A X.stack s H ⟨us,[]⟩ (us++ds) (vs++dvs) Q E b I.aFa (c s us I.XX g) r2 h) λr i a=>?_)
 cases r with
 | error e=>exact d pins σ H s e i I a
 | ok fl=>
  cases fl with
  | ret u=>exact I.after a
  | next=>exact False.elim a
  | brk=>exact False.elim a
  | cont=>exact False.elim a
theorem QO(F:j8 X.prog X.w X.K X.mg X.base CX k f fd ps sp)(d:f9 k X.A)(hg:Gl X x)(g:X.mg x=some (.ref f))(hk:PySem.W.keepIn X.K (.ref f)=true)(i:Binds X.K fd ps ds)(hd:Vals dvs ds)(j:Passes CX X E)
  (l:PA X (e::es) t) (a:(x==("__debug__":Str))=false:=by decide) (he:starEach (e::es) X.env=(false,eval e X.env)::starEach es X.env:=by rfl) (b:(backTo pos (starEach es X.env)).any (·.1)=false:=by rfl):
  PE X (.Call (.Name x p) (e::es) [] pos) (Z4 sp dvs E t):=by
 intro pins s σ H Q I h;refine aH9 (RV I hg g ?_ a);refine PySem.W.callWith_K (h₀:=X.base) I.ok.mod.kin hk (bV (l pos pins s σ H _ I h) λus s1 ⟨vs,m,c,r,q⟩=>⟨c.XX,?_⟩) he b;exact U7 F d i hd j c r q
end
structure bC(N P:List Str)(sc:Scope):Prop where
 kind:sc.kind= .function
 co:sc.isCoroutine=false
 gen:sc.isGenerator=false
 nd:N.Nodup
 pre:N.take P.length=P
 par:∀x∈P,sc.names.lookup x=some .local\/sc.names.lookup x=some .cell
 WJ:∀y∈sc.names,y.2≠ .free
theorem xS{kindOf:Str->Option NameKind}{x:Str}:∀{binds:List (Str×Value)} {m:aJq},(∀v,(x,v)∉binds)->bindL kindOf binds m x=m x
 | [],_,_=>rfl
 | (n,v)::r,m,h=>by
  unfold bindL;rw[xS λw a=>h w (List.mem_cons_of_mem _ a)];split
  ·have:x≠n:=by rintro rfl;exact h v aFr
   simp[this]
  ·rfl
theorem xU{kindOf:Str->Option NameKind}{x:Str}:∀{binds:List (Str×Value)} {m:aJq},(∀v,(x,v)∉binds)->bindC kindOf binds m x=m x
 | [],_,_=>rfl
 | (n,v)::r,m,h=>by
  unfold bindC;rw[xU λw a=>h w (List.mem_cons_of_mem _ a)];split
  ·rfl
  ·have:x≠n:=by rintro rfl;exact h v aFr
   simp[this]
theorem xT{kindOf:Str->Option NameKind}{x:Str}{v:Value}:∀{P:List Str} {vs:List Value} {i:Nat} {m:aJq},P.Nodup->P[i]? =some x->vs[i]? =some v->kindOf x=some .local->
  bindL kindOf (P.zip vs) m x=some v
 | [],_,_,_,_,h,_,_=>by simp at h
 | _::_,[],_,_,_,_,h,_=>by simp at h
 | p::P,w::vs,0,m,nd,h1,h2,hk=>by
  simp at h1 h2;subst h1;subst h2;show bindL kindOf ((p,w)::P.zip vs) m p=_;unfold bindL;rw[xS λv hv=>(List.nodup_cons.mp nd).1 (List.of_mem_zip hv).1,if_pos hk];simp
 | p::P,w::vs,i+1,m,nd,h1,h2,hk=>by
  show bindL kindOf ((p,w)::P.zip vs) m x=_;unfold bindL;exact xT (i:=i) (aIe.mp nd).2 (by simpa using h1) (by simpa using h2) hk
theorem xV{kindOf:Str->Option NameKind}{x:Str}{v:Value}:∀{P:List Str} {vs:List Value} {i:Nat} {m:aJq},P.Nodup->P[i]? =some x->vs[i]? =some v->kindOf x≠some .local->
  bindC kindOf (P.zip vs) m x=some v
 | [],_,_,_,_,h,_,_=>by simp at h
 | _::_,[],_,_,_,_,h,_=>by simp at h
 | p::P,w::vs,0,m,nd,h1,h2,hk=>by
  simp at h1 h2;subst h1;subst h2;show bindC kindOf ((p,w)::P.zip vs) m p=_;unfold bindC;rw[xU λv hv=>(List.nodup_cons.mp nd).1 (List.of_mem_zip hv).1,if_neg hk];simp
 | p::P,w::vs,i+1,m,nd,h1,h2,hk=>by
  show bindC kindOf ((p,w)::P.zip vs) m x=_;unfold bindC;exact xV (i:=i) (aIe.mp nd).2 (by simpa using h1) (by simpa using h2) hk
def start(N:List Str)(vs:List V):St:=vs.map some++List.replicate (N.length-vs.length) none
def uW(CX:JC)(P:Program)(w:World)(K:aJn)(mg:aJq)(base:Heap)(N:List Str)(qual:Str)(scope:Scope)(f:Addr)(b:Value)(A:Around)(outer:List Env)(s:Shared)(H:Hp)(E:XK):Cx where
 prog:=P
 w:=w
 K:=K
 mg:=mg
 base:=base
 A:=A.deeper (envOfC qual scope s.heap.objs.size f b)
 N:=N
 s₀:=s
 H₀:=H
 env:=envOfC qual scope s.heap.objs.size f b
 outer:=outer
 stack:=envOfC qual scope s.heap.objs.size f b::outer
 ex:=[]
 calm:=true
 fn:=λ_=>true
 pn:=[]
 xe:=λe c =>wpAny (model P w) (A.deeper (envOfC qual scope s.heap.objs.size f b)) (leaving (envOfC qual scope s.heap.objs.size f b) e) (λ_ a =>CX outer H s E e a) (λd a =>CX outer H s E d a) c
theorem CA{sc:Scope}{n:Nat}{x:Str}(h:sc.names.lookup x=some .cell):∃c,(cellsFrom n sc.names []).lookup x=some c:=by
 have q:=PySem.W.cellsFrom_some sc.names n [] (.inl h);exact Option.isSome_iff_exists.mp q
theorem HY{CX:JC}{N ps:List Str}{qual:Str}{scope:Scope}{o:Value}{outer:List Env}{s s1:Shared}{E:XK}{vs:List V}
  (S:bC N ps scope) (hd:A.handled=none) (g:TF P w K mg base A outer s H) (G:vs.length=ps.length) (r:Vals vs us)
  (x:InCallC s s.heap.objs.size (bindL (envOfC qual scope s.heap.objs.size f o).kindOf (ps.zip us) λ_=>none) (cellsFrom (s.heap.objs.size+1) scope.names []) (bindC (envOfC qual scope s.heap.objs.size f o).kindOf (ps.zip us) λ_=>none) s1):
  Inv (uW CX P w K mg base N qual scope f o A outer s H E) [] (start N vs) H s1:=by
 have C:ps.length<=N.length:=by have:=aGx List.length S.pre;rw[List.length_take]at this;lia
 obtain⟨t,tk,rfl,hk⟩:=x.done;have j:∀b:Addr,b∉(uW CX P w K mg base N qual scope f o A outer s H E).ex:=λb z=>absurd (show b∈([]:List Addr) from z) (by simp)
 refine⟨⟨g.mod,S.kind,rfl,rfl,aFq _,λy z c t d=>?_,λy hy=>?_,λy c _ h=>?_,λ_=>hd,Around.frames_deeper g.frames,.inr ⟨rfl,rfl⟩,λb z=>absurd z (j b),g.bs,g.S1,λb _ _=>j b,λb z=>absurd z (j b),g.uI,g.ZH⟩,
  rfl,g.bare,Un.kept hk,⟨_,x.toInCall.ns,λi y v t d I=>?_⟩,λy c h=>⟨_,x.cell y c h⟩,g.bG.fresh (aFq _),λy c h=>?_,λp l=>absurd (show p∈([]:List (Addr×Obj)) from l) (by simp),g.bG.kept hk,?_⟩
 ·exact name_of_addr x.apart (aGh t) (aGh d)
 ·have hy:scope.names.lookup y=some .cell\/scope.names.lookup y=some .free:=hy;rcases hy with hy | hy
  ·exact CA hy
  ·exact absurd rfl (S.WJ _ (aGh hy))
 ·exact aGs (x.above y c (aGh h))
 ·have hi:i<vs.length:=by
   unfold start at d;by_cases hi:i<vs.length
   ·exact hi
   ·rw[List.getElem?_append_right (by simpa using hi)]at d;rw[List.getElem?_replicate]at d;split at d <;> cases d
  have D:vs[i]? =some v:=by
   unfold start at d;rw[List.getElem?_append_left (by simpa using hi),List.getElem?_map]at d
   cases e:vs[i]? with
   | none=>rw[e]at d;cases d
   | some a=>rw[e]at d;cases d;rfl
  obtain⟨u,B,F⟩:=r.get D
  have l:ps[i]? =some y:=by
   rw[<-S.pre,List.getElem?_take_of_lt (by lia)];exact t
  have m:ps.Nodup:=by rw[<-S.pre];exact S.nd.sublist (aHm _ _)
  refine⟨u,F,?_⟩;rcases S.par y (aFx l) with k | k
  ·exact .inl ⟨k,xT m l B k⟩
  ·obtain⟨c,e⟩:=CA (n:=s.heap.objs.size+1) k;refine .inr ⟨.inl k,c,e,?_⟩;have q:=x.cell y c e;rw[xV m l B (by show scope.names.lookup y≠_;rw[k];decide)]at q;exact q
 ·exact g.bG.fresh (aGs (x.above y c (aGh h)))
 ·unfold start;show _=N.length;rw[List.length_append,List.length_map,List.length_replicate]
  lia
theorem aC9{CX:JC}{k:Nat}{name qual:Str}{a:Arguments}{body:List Stmt}{scope:Scope}{F kV doc pm cdv ct oc:Value}{an od:Option Addr}
  {osl:Array (Option Value)} {N ps:List Str} {sp:Sp} (G:K.lookup f=some ⟨oc,od,.func (PySem.W.fnOf name qual a body scope F kV doc pm an cdv ct),osl⟩) (p:PySem.W.codeIn K cdv qual=true) (S:bC N ps scope)
  (len:∀vs H Q E,sp vs H Q E->vs.length=ps.length)
  (d:∀(A:Around) (outer:List Env) (s:Shared) (H:Hp) (vs:List V) (Q:VK) (E:XK),f9 k (A.deeper (envOfC qual scope s.heap.objs.size f cdv))->sp vs H Q E->
   ∃t,AE (uW CX P w K mg base N qual scope f cdv A outer s H E) body t/\t {nx:=λ_ H' =>Q .bU H',rt:=Q} (start N vs) H):
  j8 P w K mg base CX (k+1) f (PySem.W.fnOf name qual a body scope F kV doc pm an cdv ct) ps sp:=by
 refine⟨len,λA outer s H args us vs Q E z i L r j=>?_⟩;have M:=len _ _ _ _ j;have KX:K.In s.heap:=i.mod.kin.keeps λb o e=>(i.bs b o e).1;have B:s.heap.NoLimit:=i.mod.nolimit.keeps λb o e=>(i.bs b o e).1
 have g:∀y∈ps.zip us,scope.names.lookup y.1=some .local\/(scope.names.lookup y.1=some .cell/\((cellsFrom (s.heap.objs.size+1) scope.names []).lookup y.1).isSome=true):=λl O=>by
  obtain⟨n,v⟩:=l;rcases S.par n (List.of_mem_zip O).1 with q | q
  ·exact .inl q
  ·exact .inr ⟨q,PySem.W.cellsFrom_some _ _ _ (.inl q)⟩
 refine codeAny_call_function z.depth (KX _ _ G) rfl S.co S.gen rfl (PySem.W.codeRec_of KX p) (L _ _ _ _ ?_);refine wpAny_newFunctionEnv_cells S.kind g λenv he s1 x=>?_;subst he;refine⟨B.keeps x.toInCall.keep,codeAny_func ?_⟩;obtain⟨t,ht,R⟩:=d A outer s H vs Q E (z.deeper _) j;have I:Inv (uW CX P w K mg base N qual scope f cdv A outer s H E) [] (start N vs) H s1:=HY S z.hd i M r x;refine aGa (ht [] s1 (start N vs) H _ I R) (λfl C h=>?_) λe C h=>h
 have m:∀{c :St} {H' :Hp} {v:V} {u:Value},Inv (uW CX P w K mg base N qual scope f cdv A outer s H E) [] c H' C ->RelV v u->Q v H' ->CE outer P w H s Q u C :=
  λ{c H' v u} J D q=>⟨v,H',J.os,J.bare,J.base,J.bG,D,q⟩
 cases fl with
 | ret u=>
  obtain⟨v,c,H',J,D,q⟩:=h;exact m J D q
 | next=>
  obtain⟨c,H',J,q⟩:=h;exact m (v:=V.bU) (u:=Value.none) J rfl q
 | brk=>
  obtain⟨_,_,_,q⟩:=h;exact False.elim q
 | cont=>
  obtain⟨_,_,_,q⟩:=h;exact False.elim q
section
variable {X:Cx}{x:Str}{p pos:Pos}{e:Expr}{es:List Expr}{t:TA}{id T:String}{r:List V->Hp->VK->Prop}
def tCB(r:List V->Hp->VK->Prop)(t:TA):TE:=λσ H Q=>t σ H λvs a=>r vs a Q
theorem tV(d:cB X (.builtin id) r)(hg:Gl X x)(f:X.mg x=none)(hv:bootBuiltins x=some (.builtin id))(g:PA X (e::es) t)(i:x≠ "__name__":=by decide)(b:(x==("__debug__":Str))=false:=by decide)
  (he:starEach (e::es) X.env=(false,eval e X.env)::starEach es X.env:=by rfl) (c:(backTo pos (starEach es X.env)).any (·.1)=false:=by rfl):PE X (.Call (.Name x p) (e::es) [] pos) (tCB r t):=by
 intro pins s σ H Q I h;refine aH9 (jE I hg f hv ?_ i b);exact PyProof.Rows.callWith_builtin1 (bV (g pos pins s σ H _ I h) λus s1 a=>by obtain⟨vs,j,k,r1,q1⟩:=a;exact d pins s1 σ j vs us Q k r1 q1) he c
theorem qF(d:cB X (.type T) r)(hg:Gl X x)(f:X.mg x=none)(hv:bootBuiltins x=some (.type T))(g:PA X (e::es) t)(i:x≠ "__name__":=by decide)(b:(x==("__debug__":Str))=false:=by decide)
  (he:starEach (e::es) X.env=(false,eval e X.env)::starEach es X.env:=by rfl) (c:(backTo pos (starEach es X.env)).any (·.1)=false:=by rfl):PE X (.Call (.Name x p) (e::es) [] pos) (tCB r t):=by
 intro pins s σ H Q I h;refine aH9 (jE I hg f hv ?_ i b);exact aGj (bV (g pos pins s σ H _ I h) λus s1 a=>by obtain⟨vs,j,k,r1,q1⟩:=a;exact d pins s1 σ j vs us Q k r1 q1) he c
end
end L2
namespace HT
open PySem PyProof.Rows
section
open PySem.SeqAt
open PySem.AutoSeq1 (wpAny_loadPart')
open PySem.MeetsSeq PySem.MeetsSeq2 PySem.MeetsSeq3
end
section
variable {prog:Program}{w:World}{A:Around}{E:aJo}{s:Shared}
theorem SW{t b:Addr}{vs a:List Value}{Q:aJo}(ht:IsTup s.heap t vs.toArray)(m:IsTup s.heap b a.toArray)(hv:vs≠[])
  (o:a=[]->Q (.ref t) s) (p:a≠[]->Q (.ref s.heap.objs.size) {s with heap:=s.heap.push {cls:= .type "tuple",data:= .seq (vs++a).toArray}})
  (hsz:vs.length+a.length<=sizeLine):wpAny (model prog w) A (binaryOp .Add (.ref t) (.ref b)) Q E s:=by
 obtain⟨⟨cls,j,data,sl⟩,ho,k,n,hd⟩:=id ht;obtain⟨⟨l,d,data2,f⟩,c,g,n2,h⟩:=id m;simp only at k hd g h;subst k hd g h;have e:vs.toArray++a.toArray=(vs++a).toArray:=by simp
 by_cases i:a=[]
 ·exact concat_meets ⟨_,ho,rfl⟩ ⟨_,c,rfl⟩ noFill_tuple_add seq_tuple_add aIk aIh (aIa _ _)
   (tuple_addW1 t b vs.toArray a.toArray n n2 j d sl f (by simpa using hv) (by simp[i])) ⟨ho,c,o i⟩
 ·refine concat_meets ⟨_,ho,rfl⟩ ⟨_,c,rfl⟩ noFill_tuple_add seq_tuple_add aIk aIh (aIa _ _)
   (tuple_addW2 t b vs.toArray a.toArray n n2 j d sl f (by simpa using hv) (by simpa using i) (by rw[List.size_toArray,List.size_toArray];exact hsz)) ⟨ho,c,?_⟩
  rw[e];exact p i
def c6(n d:Nat):Option Int->Nat
 | none=>d
 | some v=>if v<0 then (v+(n:Int)).toNat else min v.toNat n
theorem U6(n d:Nat)(hd:d<=n)(o:Option Int):c6 n d o<=n:=by
 cases o with
 | none=>exact hd
 | some v=>
  show (if v<0 then (v+(n:Int)).toNat else min v.toNat n)<=n;by_cases hv:v<0
  ·rw[if_pos hv];lia
  ·rw[if_neg hv];exact Nat.min_le_right _ _
theorem GO(v:Int)(n d:Nat):(if v<0 then max (v+(n:Int)) 0 else min v (n:Int))=((c6 n d (some v):Nat):Int):=by
 show (if v<0 then max (v+(n:Int)) 0 else min v (n:Int))=(((if v<0 then (v+(n:Int)).toNat else min v.toNat n):Nat):Int);by_cases hv:v<0
 ·simp only[if_pos hv];lia
 ·simp only[if_neg hv];lia
theorem EG(lo hi:Option Int)(n:Nat):Builtin.Slice.sliceAdjust lo hi 1 (n:Int)=(((c6 n 0 lo:Nat):Int),((c6 n n hi:Nat):Int)):=by
 have a:¬((1:Int)<0):=by lia
 unfold Builtin.Slice.sliceAdjust;simp only[a,if_false];refine Prod.ext ?_ ?_
 ·cases lo with
  | none=>rfl
  | some v=>exact GO v n 0
 ·cases hi with
  | none=>rfl
  | some v=>exact GO v n n
theorem DB(i j:Nat):Builtin.Slice.slicePlaces (i:Int) (j:Int) 1=j-i:=by
 unfold Builtin.Slice.slicePlaces;have a:(1:Int) > 0:=by lia
 simp only[a,if_true,Int.ediv_one];split <;> lia
theorem tP{v:Value}{o:Option Int}{Q:Option Int->Shared->Prop}(p:IsPart v o)(h:Q o s):wpAny (model prog w) A (Builtin.Slice.slicePartIndex v) Q E s:=by
 cases p with
 | none=>exact slicePart_none h
 | int i t=>exact slicePart_int h
theorem jY{sl:Addr}{c d:Value}{lo hi:Option Int}{n:Nat}{Q:Int×Int×Nat->Shared->Prop}(e:s.heap.IsSliceOf sl c d .none)(f:IsPart c lo)(g:IsPart d hi)
  (h:Q (((c6 n 0 lo:Nat):Int),1,c6 n n hi-c6 n 0 lo) s):wpAny (model prog w) A (Builtin.Slice.sliceApplied (.ref sl) (pure (n:Int))) Q E s:=by
 obtain⟨os,a,i,b⟩:=id e;unfold Builtin.Slice.sliceApplied Builtin.Slice.sliceFields;refine aFm (aFm (aG7 a b (x:=c) rfl (aFm (aG7 a b (x:=d) rfl (aFm (aG7 a b (x:= .none) rfl (aFo ?_)))))));refine aFm (slicePart_none ?_);show wpAny _ _ (if ((1:Int)==0)=true then _ else _) _ _ s;rw[if_neg (by decide)];refine aFm (tP f (aFm (tP g (aFm (aFo ?_)))));show wpAny _ _ (match Builtin.Slice.sliceAdjust lo hi 1 (n:Int) with | (lo,hi)=>pure (lo,(1:Int),Builtin.Slice.slicePlaces lo hi 1)) _ _ s;rw[EG lo hi n];show wpAny _ _ (pure (((c6 n 0 lo:Nat):Int),(1:Int),Builtin.Slice.slicePlaces ((c6 n 0 lo:Nat):Int) ((c6 n n hi:Nat):Int) 1)) _ _ s;rw[DB];exact aFo h
theorem KS(xs:Array Value)(i k:Nat):((List.range k).filterMap λ(m:Nat)=>xs[((i:Int)+(m:Int)*1).toNat]?).toArray=((xs.toList.drop i).take k).toArray:=by
 have e:(λ(m:Nat)=>xs[((i:Int)+(m:Int)*1).toNat]?)=λm=>xs[i+m]? :=by
  funext m;have:((i:Int)+(m:Int)*1).toNat=i+m:=by lia
  rw[this]
 rw[e];have:=pick_run xs i k;rw[List.filterMap_map]at this;have a:((λx=>xs[x]?) ∘ λx=>i+x)=λm=>xs[i+m]? :=rfl;rw[a]at this;rw[this]
theorem pS{t sl:Addr}{items:Array Value}{f g:Value}{lo hi:Option Int}{Q:aJo}(ht:IsTup s.heap t items)(i:s.heap.IsSliceOf sl f g .none)(j:IsPart f lo)(k:IsPart g hi)
  (l:¬(c6 items.size 0 lo=0/\c6 items.size items.size hi=items.size))
  (h:Q (.ref s.heap.objs.size) {s with heap:=s.heap.push {cls:= .type "tuple",data:= .seq ((items.toList.drop (c6 items.size 0 lo)).take (c6 items.size items.size hi-c6 items.size 0 lo)).toArray}})
  (hsz:items.size<=sizeLine):wpAny (model prog w) A (getItem (.ref t) (.ref sl)) Q E s:=by
 have a:sizeOk (.seq ((items.toList.drop (c6 items.size 0 lo)).take (c6 items.size items.size hi-c6 items.size 0 lo)).toArray):=by
  show ((items.toList.drop (c6 items.size 0 lo)).take (c6 items.size items.size hi-c6 items.size 0 lo)).toArray.size<=sizeLine;rw[List.size_toArray,List.length_take,List.length_drop,Array.length_toList]
  lia
 have o:c6 items.size items.size hi<=items.size:=U6 _ _ (aFq _) hi;obtain⟨os,b,c,n⟩:=id i
 have d:s.TypeIs (.ref sl) "slice":=⟨os,b,c⟩
 unfold getItem
 try with_reducible refine aGf ?_
 first | refine aFm (aFo ?_) | skip
 refine aFm (wpAny_sequenceKey ht.typeIs (by decide) ?_)
 refine aFm (aG3 (name:=Str.ofString "__getitem__") ht.typeIs aGn
  (aG1 aGn ht.typeIs entry_tuple_getitem ?_ (args_tuple_getitem _ _)))
 show wpAny _ _ (Builtin.Tuple.tupleItemsOf (.ref t) >>=_) _ _ s;refine aFm (tupleItemsOf_ ht ?_);refine aFm (aIl d ?_);rw[if_pos (by decide)];refine aFm (jY i j k ?_)
 have e:¬((((c6 items.size 0 lo:Nat):Int)==0 && (1:Int)==1 && (c6 items.size items.size hi-c6 items.size 0 lo)==items.size)=true):=by
  intro q;rw[Bool.and_eq_true,Bool.and_eq_true]at q;have q1:((c6 items.size 0 lo:Nat):Int)=0:=eq_of_beq q.1.1;have q2:c6 items.size items.size hi-c6 items.size 0 lo=items.size:=eq_of_beq q.2;exact l ⟨by lia,by lia⟩
 show wpAny _ _ (if (((c6 items.size 0 lo:Nat):Int)==0 && (1:Int)==1 && (c6 items.size items.size hi-c6 items.size 0 lo)==items.size)=true then _ else _) _ _ s;rw[if_neg e,KS]
 first
  | exact aFm (m:=Builtin.Tuple.tupleExact _) (aG6 (aFo ⟨_,rfl,aFo h⟩) a)
  | exact aFm (m:=Builtin.Tuple.tupleExact _) (aG6 (aFm (aFo (aFo ⟨_,rfl,aFo h⟩))) a)
  | exact aFm (aFm (m:=Builtin.Tuple.tupleExact _) (aG6 (aFo (aFo ⟨_,rfl,aFo h⟩)) a))
  | exact aFm (aFm (m:=Builtin.Tuple.tupleExact _) (aG6 (aFo ⟨_,rfl,aFo h⟩) a))
end
end HT
namespace L2
open PySem PySem.Spec PyProof.Rows
abbrev TO:=St->Hp->(Option Int->Hp->Prop)->Prop
def PO(X:Cx)(e:Option Expr)(t:TO):Prop:=
 ∀(pins:List (Addr×Obj)) (s:Shared) (σ:St) (H:Hp) (Q:Option Int->Hp->Prop),Inv X pins σ H s->t σ H Q->
  wpAny (model X.prog X.w) X.A (evalPart e X.env) (λu a =>∃o H',Inv X pins σ H' a /\IsPart u o/\Q o H') X.xe s
def O0:TO:=λ_ H Q=>Q none H
def ZU(t:TE):TO:=λσ H Q=>t σ H λx a=>∃i,x= .int i/\Q (some i) a
section
variable {X:Cx}{e:Expr}{te:TE}{lo hi:Option Expr}{tl th:TO}{pos p2:Pos}
theorem QG:PO X none O0:=by
 intro pins s σ H Q I h;rw[evalPart_none];exact aFo ⟨none,H,I,.none,h⟩
theorem QF(h:PE X e te):PO X (some e) (ZU te):=by
 intro pins s σ H Q I b;rw[evalPart_some];refine bV (h pins s σ H _ I b) λu s1 a=>?_;obtain⟨x,c,d,r1,q1⟩:=a;obtain⟨i,rfl,q⟩:=q1;obtain⟨t,rfl⟩:=r1;exact⟨some i,c,d,.int i t,q⟩
def ZL(X:Cx)(r:V->Option Int->Option Int->Hp->VK->Prop):Prop:=
 ∀(pins:List (Addr×Obj)) (s:Shared) (σ:St) (H:Hp) (x:V) (v a b:Value) (lo hi:Option Int) (sl:Addr) (Q:VK),Inv X pins σ H s->RelV x v->s.heap.IsSliceOf sl a b .none->IsPart a lo->IsPart b hi->r x lo hi H Q->
  ∃T id,typeLookup (.type T) "__getitem__"=pure (some (.builtin id))/\s.TypeIs v T/\wpAny (model X.prog X.w) X.A (getItem v (.ref sl)) (EP X pins σ Q) X.xe s
def tSl(r:V->Option Int->Option Int->Hp->VK->Prop)(te:TE)(tl th:TO):TE:=λσ H Q=>te σ H λx a=>tl σ a λl b=>th σ b λu c=>r x l u c Q
theorem KY{r:V->Option Int->Option Int->Hp->VK->Prop}(j:ZL X r)(he:PE X e te)(k:PO X lo tl)(m:PO X hi th):PE X (.Subscript e (.Slice lo hi none p2) pos) (tSl r te tl th):=by
 intro pins s σ H Q I h;refine Subscript_ (bV (he pins s σ H _ I h) λv s1 c=>?_);obtain⟨x,n,o,r1,q1⟩:=c;refine wpAny_Slice (bV (k pins s1 σ n _ o q1) λf s2 ⟨l,p,t,y,q2⟩=>bV (m pins s2 σ p _ t q2) λg a d=>?_);obtain⟨u,i,z,B,q3⟩:=d;rw[evalPart_none];refine aFo ?_;have C:Inv X pins σ i {a with heap:=a.heap.push {cls:= .type "slice",data:= .fields #[f,g,.none]}}:=z.kept (t' :=a.toks) λb ob q=>aFn _ q;obtain⟨T,id,D,ht,hg⟩:=j pins {a with heap:=a.heap.push {cls:= .type "slice",data:= .fields #[f,g,.none]}} σ i x v f g l u a.heap.objs.size Q C r1 (Heap.IsSliceOf.new ..) y B q3;show wpAny (model X.prog X.w) X.A (subscriptTail e (.Slice lo hi none p2) v (.ref a.heap.objs.size)) (EP X pins σ Q) X.xe {a with heap:=a.heap.push {cls:= .type "slice",data:= .fields #[f,g,.none]}};exact tail_any (ops:=[.ref a.heap.objs.size,v]) ht D hg (by with_unfolding_all rfl)
def zN(xs:List V)(lo hi:Option Int):List V:=(xs.drop (HT.c6 xs.length 0 lo)).take (HT.c6 xs.length xs.length hi-HT.c6 xs.length 0 lo)
theorem rN(xs:List V)(lo hi:Option Int):(zN xs lo hi).length<=xs.length:=by
 unfold zN;rw[List.length_take,List.length_drop]
 lia
def aEo(K:aJn):V->Option Int->Option Int->Hp->VK->Prop:=λx lo hi H Q=>∃a xs,x= .ref a/\sX K H a xs/\
 ¬(HT.c6 xs.length 0 lo=0/\HT.c6 xs.length xs.length hi=xs.length)/\∀p,H p=none->Q (.ref p) (upd H p (.tup (zN xs lo hi)))
theorem U1:ZL X (aEo X.K):=by
 intro pins s σ H x v k l lo hi sl Q I d e f g h;obtain⟨a,xs,rfl,i,j,q⟩:=h;cases d;obtain⟨aN,r,ht,hz⟩:=I.tuple i;have c:aN.toArray.size=xs.length:=by rw[List.size_toArray];exact r.length.symm
 refine⟨"tuple",_,aGn.lookup,ht.typeIs,?_⟩;refine HT.pS ht e f g (by rw[c];exact j) ?_ (by rw[c];exact hz);rw[c];refine⟨.ref s.heap.objs.size,_,I.laid (t' :=s.toks) (o:= .tup (zN xs lo hi)) (λb ob q=>aFn _ q) (aFq _) ?_,rfl,q _ (I.bG.fresh (aFq _))⟩;exact⟨aG2 (rN xs lo hi) hz,_,(r.drop (HT.c6 xs.length 0 lo)).take (HT.c6 xs.length xs.length hi-HT.c6 xs.length 0 lo),IsTup.new _ _,tH _ _⟩
def aAe(K:aJn):R2:=λx y H Q=>∃a b xs c,x= .ref a/\y= .ref b/\sX K H a xs/\sX K H b c/\xs≠[]/\xs.length+c.length<=sizeLine/\
 (c=[]->Q (.ref a) H)/\(c≠[]->∀p,H p=none->Q (.ref p) (upd H p (.tup (xs++c))))
theorem Vals.yL{xs:List V}{us:List Value}(r:Vals xs us):us=[]↔xs=[]:=by
 cases r with
 | nil=>simp
 | cons _ _=>simp
theorem QW:dP X (binaryOp .Add) (aAe X.K):=by
 intro pins s σ H x y v u Q I d e h;obtain⟨a,b,xs,f,rfl,rfl,g,i,j,hz,q1,q2⟩:=h;cases d;cases e;obtain⟨aN,r1,k,_⟩:=I.tuple g;obtain⟨c,r2,p2,_⟩:=I.tuple i;refine HT.SW k p2 (λz=>j (r1.yL.mp z)) (λz=>⟨.ref a,H,I,rfl,q1 (r2.yL.mp z)⟩) (λz=>?_) (by rw[<-r1.length,<-r2.length];exact hz);refine⟨.ref s.heap.objs.size,_,I.laid (t' :=s.toks) (o:= .tup (xs++f)) (λb ob q=>aFn _ q) (aFq _) ?_,rfl,q2 (λw=>z (r2.yL.mpr w)) _ (I.bG.fresh (aFq _))⟩;exact⟨by rw[List.length_append];exact hz,_,r1.append r2,IsTup.new _ _,tH _ _⟩
end
def HW(n:Nat)(i:Int):Option Nat:=if 0<=i then (if i<n then some i.toNat else none) else if -(n:Int)<=i then some (i+n).toNat else none
def oS{α:Type}(xs:List α)(i:Int):Option α:=(HW xs.length i).bind λj=>xs[j]?
variable{n:Nat}
theorem F6{i:Int}{j:Nat}(h:HW n i=some j):seqIndex? i n=some j/\j<n/\ -(n:Int)<=i/\i<n:=by
 unfold HW at h;by_cases h0:0<=i
 ·rw[if_pos h0]at h;by_cases a:i<n
  ·rw[if_pos a]at h;have e:i.toNat=j:=aGe h;exact⟨by rw[seqIndex_of h0 a,e],by lia,by lia,a⟩
  ·rw[if_neg a]at h;cases h
 ·rw[if_neg h0]at h;by_cases a: -(n:Int)<=i
  ·rw[if_pos a]at h;have e:(i+n).toNat=j:=aGe h;exact⟨by rw[seqIndex_neg (by lia) a,e],by lia,a,by lia⟩
  ·rw[if_neg a]at h;cases h
theorem zY{α:Type}{xs:List α}{i:Int}{v:α}(h:oS xs i=some v):∃j,seqIndex? i xs.length=some j/\xs[j]? =some v/\j<xs.length/\ -(xs.length:Int)<=i/\i<xs.length:=by
 unfold oS at h
 cases e:HW xs.length i with
 | none=>rw[e]at h;cases h
 | some j=>
  rw[e]at h;obtain⟨a,b,c,d⟩:=F6 e;exact⟨j,a,h,b,c,d⟩
theorem sW{α:Type}{xs:List α}{j:Nat}{v:α}(h:xs[j]? =some v):oS xs (j:Int)=some v:=by
 have a:j<xs.length:=(aFp.mp h).1
 have e:HW xs.length (j:Int)=some j:=by
  unfold HW;rw[if_pos (by lia),if_pos (by lia)];simp
 unfold oS;rw[e];exact h
def GS(b:Expr):Prop:=∀o i,subscripted b false o i=operate [o,i] (getItem o i)
def OI(X:Cx)(r:R2):Prop:=
 ∀(b a:Expr) (pins:List (Addr×Obj)) (s:Shared) (σ:St) (H:Hp) (x y:V) (v u:Value) (Q:VK),Inv X pins σ H s->RelV x v->RelV y u->r x y H Q->
  subscripted a false v u=operate [v,u] (getItem v u)->wpAny (model X.prog X.w) X.A (subscriptTail b a v u) (EP X pins σ Q) X.xe s
def MtR(X:Cx)(id:String)(r:V->List V->Hp->VK->Prop):Prop:=
 ∀(pins:List (Addr×Obj)) (s:Shared) (σ:St) (H:Hp) (x:V) (xs:List V) (v:Value) (us:List Value) (Q:VK),Inv X pins σ H s->RelV x v->Vals xs us->r x xs H Q->
  wpAny (model X.prog X.w) X.A (call (.builtin id) (v::us)) (EP X pins σ Q) X.xe s
section
variable {X:Cx}{a b:Expr}{ta tb:TE}{pos:Pos}
theorem aAl{r:R2}(c:OI X r)(d:PE X a ta)(e:PE X b tb)(f:GS b):PE X (.Subscript a b pos) (ZV r ta tb):=by
 intro pins s σ H Q I h;exact Subscript_ (Y0 d e I h λv u s2 x y g i j k q=>c a b pins s2 σ g x y v u Q i j k q (f _ _))
def aEs(K:aJn):R2:=λx y H Q=>∃p xs i v,x= .ref p/\y= .int i/\p7 K H p xs/\oS xs i=some v/\Q v H
def aEq(K:aJn):R2:=λx y H Q=>∃p xs i v,x= .ref p/\y= .int i/\sX K H p xs/\oS xs i=some v/\Q v H
def aEr:R2:=λx y H Q=>∃z i c,x= .str z/\y= .int i/\z.length<=sizeLine/\oS z.cps.toList i=some c/\Q (.str ⟨#[c]⟩) H
theorem RZ:OI X (aEs X.K):=by
 intro c d pins s σ H x y v u Q I m n h k;obtain⟨p,xs,i,z,rfl,rfl,o,he,q⟩:=h;cases m;obtain⟨t,rfl⟩:=n;obtain⟨aN,r,e,hz⟩:=I.list o;obtain⟨j,b,A,F,B,C⟩:=zY he;obtain⟨w,l,f⟩:=r.get A;have D:=r.length;have G:=mR
 have a:EP X pins σ Q w s:=⟨z,H,I,f,q⟩
 by_cases h0:0<=i
 ·have g:i.toNat=j:=by
   rw[seqIndex_of h0 C]at b;exact aGe b
  exact item_listR e.isList h0 (by lia) (by rw[g];simpa using l) a k
 ·have g:(i+(aN.toArray.size:Int)).toNat=j:=by
   rw[seqIndex_neg (by lia) B]at b;rw[List.size_toArray,<-D];exact aGe b
  exact subscriptTail_builtinR (x:=w) e.isList.typeIs slot_list_getitem.lookup
   (wpAny_getItem_list_neg (Q:=λr E =>r=w/\EP X pins σ Q r E) e.isList (by lia) (by rw[List.size_toArray] <;> lia) (by lia) (by rw[g];simpa using l) ⟨rfl,a⟩) k
theorem XY:OI X (aEq X.K):=by
 intro a b pins s σ H x y v u Q I f g h k;obtain⟨p,xs,i,z,rfl,rfl,l,he,q⟩:=h;cases f;obtain⟨t,rfl⟩:=g;obtain⟨aN,r,e,hz⟩:=I.tuple l;obtain⟨j,m,n,C,D,E⟩:=zY he;obtain⟨w,o,c⟩:=r.get n;have A:=r.length;have F:=mR
 have d:EP X pins σ Q w s:=⟨z,H,I,c,q⟩
 exact subscriptTail_builtinR (x:=w) e.typeIs slot_tuple_getitem.lookup
  (getItem_tuple (j:=j) (Q:=λr B =>r=w/\EP X pins σ Q r B) e (by lia) (by lia) (by rw[List.size_toArray,<-A];exact m) (by simpa using o) ⟨rfl,d⟩) k
theorem XZ:OI X aEr:=by
 intro a b pins s σ H x y v u Q I e f h g;obtain⟨z,i,c,rfl,rfl,hz,he,q⟩:=h;obtain⟨t,rfl⟩:=e;obtain⟨t',rfl⟩:=f;obtain⟨j,d,k,r,l,m⟩:=zY he;have n:z.cps.toList.length=z.length:=by simp[Str.length]
 rw[n]at d l m;have w:=mR
 exact tail_any (typeIs_str s z t) slot_str_getitem.lookup (getItem_str (c:=c) (by
  have o:decide (i < -(2^63:Int))=false:=aHj (by lia);have p:decide (i>=2^63)=false:=aHj (by lia)
  rw[o,p,Bool.or_false]) (by rw[d];simpa using k) ⟨.str ⟨#[c]⟩,H,I.tok _,⟨_,rfl⟩,q⟩) g
theorem DI(aN:List Value)(n j:Nat)(u:Value):Obj.mapSeq (·.setIfInBounds j u) {cls:= .type "list",data:= .seq aN.toArray n}={cls:= .type "list",data:= .seq (aN.set j u).toArray n}:=by
 simp[Obj.mapSeq]
variable{pins:List (Addr×Obj)}{s:Shared}
theorem Inv.lst{σ:St}{H:Hp}{p:Addr}{xs:List V}(I:Inv X pins σ H s)(h:H p=some (.lst xs)):
  ∃(aN:List Value) (n:Nat),Vals xs aN/\s.heap.get? p=some {cls:= .type "list",data:= .seq aN.toArray n}/\xs.length<=sizeLine:=by
 obtain⟨z,aN,n,r,e⟩:=I.bG p _ h;exact⟨aN,n,r,e,z⟩
theorem Inv.WU{σ:St}{H:Hp}{p:Addr}{xs a:List V}{aN its' :List Value}{n c :Nat}{f:Obj->Obj}(I:Inv X pins σ H s)(h:H p=some (.lst xs))
  (ho:s.heap.get? p=some {cls:= .type "list",data:= .seq aN.toArray n}) (d:f {cls:= .type "list",data:= .seq aN.toArray n}={cls:= .type "list",data:= .seq its'.toArray c}) (r:Vals a its') (hz:a.length<=sizeLine) (t:Nat):
  Inv X pins σ (upd H p (.lst a)) {s with heap:=s.heap.update p f,toks:=t}:=by
 have e:(s.heap.update p f).get? p=some {cls:= .type "list",data:= .seq its'.toArray c}:=by
  rw[Heap.get?_update_self f ho (by rw[d] <;> rfl),d]
 refine I.write (x:=p) (e:=p) (by rw[h];trivial) (.inl rfl) (λb u g q=>(aH8 _ _ (aGd g)).trans q) ⟨_,e⟩ ?_;exact⟨hz,its',c,r,e⟩
def aAc:V->V->V->Hp->(Hp->Prop)->Prop:=λo i v H Q=>∃p xs k j,o= .ref p/\i= .int k/\H p=some (.lst xs)/\HW xs.length k=some j/\Q (upd H p (.lst (xs.set j v)))
theorem set_list:aCk X aAc:=by
 intro pins s σ H o i v x y u Q I g l m h;obtain⟨p,xs,k,j,rfl,rfl,c,w,q⟩:=h;cases g;obtain⟨t,rfl⟩:=l;obtain⟨aN,n,r,ho,hz⟩:=I.lst c;obtain⟨a,z,d,e⟩:=F6 w;have b:=r.length;have A:=mR
 have f :Inv X pins σ (upd H p (.lst (xs.set j v))) {s with heap:=s.heap.update p (Obj.mapSeq (·.setIfInBounds j u))}:=
  I.WU c ho (DI aN n j u) (r.set m j) (by rw[List.length_set];exact hz) s.toks
 by_cases h0:0<=k
 ·have hk:k.toNat=j:=by
   rw[seqIndex_of h0 e]at a;exact aGe a
  exact PySem.W.ki_setAt ho h0 (by lia) (by rw[List.size_toArray,<-b];exact e) (by rw[hk];exact⟨_,f,q⟩)
 ·have hk:(k+(aN.toArray.size:Int)).toNat=j:=by
   rw[seqIndex_neg (by lia) d]at a;rw[List.size_toArray,<-b];exact aGe a
  exact PySem.W.ki_setBack ho (by lia) (by rw[List.size_toArray,<-b];exact d) (by lia) (by rw[hk];exact⟨_,f,q⟩)
theorem yD(lo hi:Option Int)(n:Nat):(sliceBounds lo hi none n).1=((HT.c6 n 0 lo:Nat):Int)/\(sliceBounds lo hi none n).2.1=((HT.c6 n n hi:Nat):Int)/\(sliceBounds lo hi none n).2.2=1:=by
 refine⟨?_,?_,rfl⟩
 ·cases lo with
  | none=>simp[sliceBounds,HT.c6]
  | some i=>
   simp only[sliceBounds,HT.c6,Option.getD_none,show (1:Int) > 0 by decide,if_true];by_cases h:i<0
   ·simp only[h,if_true] <;> lia
   ·simp only[h,if_false] <;> lia
 ·cases hi with
  | none=>simp[sliceBounds,HT.c6]
  | some i=>
   simp only[sliceBounds,HT.c6,Option.getD_none,show (1:Int) > 0 by decide,if_true];by_cases h:i<0
   ·simp only[h,if_true] <;> lia
   ·simp only[h,if_false] <;> lia
theorem vM(aN:List Value)(lo hi:Option Int):slicePick aN.toArray lo hi none=((aN.drop (HT.c6 aN.length 0 lo)).take (HT.c6 aN.length aN.length hi-HT.c6 aN.length 0 lo)).toArray:=by
 obtain⟨a,b,c⟩:=yD lo hi aN.toArray.size;unfold slicePick;rw[a,b,c];simp only[sliceRange_one,pick_run,List.size_toArray] <;> rfl
def aEp(K:aJn):V->Option Int->Option Int->Hp->VK->Prop:=λx lo hi H Q=>∃a xs,x= .ref a/\p7 K H a xs/\∀p,H p=none->Q (.ref p) (upd H p (.lst (zN xs lo hi)))
theorem O5:ZL X (aEp X.K):=by
 intro pins s σ H x v j k lo hi sl Q I d e f g h;obtain⟨a,xs,rfl,i,q⟩:=h;cases d;obtain⟨aN,r,ht,hz⟩:=I.list i;have c:=r.length;refine⟨"list",_,slot_list_getitem.lookup,ht.isList.typeIs,?_⟩;refine wpAny_getItem_list_slice ht.isList e f g .none (by simp) ?_ (by rw[List.size_toArray] <;> lia);rw[vM,<-c];refine⟨.ref s.heap.objs.size,_,I.laid (t' :=s.toks) (o:= .lst (zN xs lo hi)) (λb ob q=>aFn _ q) (aFq _) ?_,rfl,q _ (I.bG.fresh (aFq _))⟩;exact⟨aG2 (rN xs lo hi) hz,_,0,(r.drop (HT.c6 xs.length 0 lo)).take (HT.c6 xs.length xs.length hi-HT.c6 xs.length 0 lo),aFs _ rfl⟩
theorem yI:dP X (compareOp .NotIn) (λx y H Q=>∃i j,x= .str i/\y= .str j/\Q (.bl (!(!(Builtin.Str.occurrences j i 0 j.length 1).isEmpty))) H):=by
 intro pins s σ H x y v u Q I a b h;obtain⟨i,j,rfl,rfl,q⟩:=h;obtain⟨t,rfl⟩:=a;obtain⟨t',rfl⟩:=b;exact notIn_str ⟨.bl _,H,I,rfl,q⟩
theorem zV:cB X (.builtin "len") (λxs H Q=>∃p b,xs=[.ref p]/\(p7 X.K H p b\/sX X.K H p b)/\Q (.int b.length) H):=by
 intro pins s σ H xs us Q I r h;obtain⟨p,b,rfl,hq,q⟩:=h;obtain⟨u,rfl,e⟩:=vals1 r;cases e;have f:=mR;rcases hq with hq | hq
 ·obtain⟨aN,c,d,hz⟩:=I.list hq;have a:=c.length;exact Calls.call_len_list d.isList (by simp only[List.size_toArray] <;> lia) ⟨.int b.length,H,I.tok _,⟨s.toks+1,by rw[List.size_toArray,a]⟩,q⟩
 ·obtain⟨aN,c,d,hz⟩:=I.tuple hq;have a:=c.length;exact len_tuple d (by simp only[List.size_toArray] <;> lia) ⟨.int b.length,H,I.tok _,⟨s.toks+1,by rw[List.size_toArray,a]⟩,q⟩
theorem zU:cB X (.builtin "len") (λxs H Q=>∃z,xs=[.str z]/\z.length<=sizeLine/\Q (.int z.length) H):=by
 intro pins s σ H xs us Q I r h;obtain⟨z,rfl,hz,q⟩:=h;obtain⟨u,rfl,t,rfl⟩:=vals1 r;have a:=mR;exact len_str (by lia) ⟨.int z.length,H,I.tok _,⟨_,rfl⟩,q⟩
theorem jI:cB X (.type "tuple") (λxs H Q=>∃p a,xs=[.ref p]/\((p7 X.K H p a/\∀l,H l=none->Q (.ref l) (upd H l (.tup a)))\/(sX X.K H p a/\Q (.ref p) H))):=by
 intro pins s σ H xs us Q I r h;obtain⟨p,a,rfl,h⟩:=h;obtain⟨u,rfl,j⟩:=vals1 r;cases j
 rcases h with ⟨c,q⟩ | ⟨c,q⟩
 ·obtain⟨aN,d,f,hz⟩:=I.list c;have g:=d.length;refine call_tuple_list f.isList (λh' kp=>?_) (by simp only[List.size_toArray] <;> lia);have i:Inv X pins σ H {s with heap:=h'}:=I.kept (t' :=s.toks) kp
  have k:Inv X pins σ (upd H h'.objs.size (.tup a)) {s with heap:=h'.push {cls:= .type "tuple",data:= .seq aN.toArray}}:=
   i.laid (t' :=s.toks) (λb o e=>aFn _ e) (aFq _) (show cA X.prog X.w _ _ _ (.tup a) from ⟨hz,aN,d,IsTup.new _ _,tH _ _⟩)
  exact⟨.ref h'.objs.size,_,k,rfl,q _ (i.bG.fresh (aFq _))⟩
 ·obtain⟨aN,d,f,hz⟩:=I.tuple c;exact call_tuple_same f ⟨.ref p,H,I,rfl,q⟩
def tyV(K:aJn)(T:String)(x:V)(H:Hp):Prop:=match x with
 | .str _=>T= "str"
 | .int _=>T= "int"
 | .ref p=>(T= "list"/\∃xs,p7 K H p xs)\/(T= "tuple"/\∃xs,sX K H p xs)\/
   (T= "dict"/\((∃kvs,H p=some (.dK kvs))\/∃kvs,H p=some (.dT kvs)))\/(T= "set"/\∃S n,H p=some (.set S n))
 | _=>False
theorem UP{σ:St}{H:Hp}{T:String}{x:V}{v:Value}(I:Inv X pins σ H s)(r:RelV x v)(ty:tyV X.K T x H):
  s.TypeIs v T/\∀a,v= .ref a->∃ob,s.heap.get? a=some ob/\ob.dict=none:=by
 cases x with
 | str z=>
  obtain⟨t,rfl⟩:=r;cases (show T= "str" from ty);exact⟨typeIs_str s z t,λ_ e=>nomatch e⟩
 | int i=>
  obtain⟨t,rfl⟩:=r;cases (show T= "int" from ty);exact⟨typeIs_int s i t,λ_ e=>nomatch e⟩
 | ref p=>
  cases r
  rcases ty with ⟨rfl,xs,d⟩ | ⟨rfl,xs,d⟩ | ⟨rfl,hk⟩ | ⟨rfl,S,n,hk⟩
  ·obtain⟨aN,_,f,_⟩:=I.list d;refine⟨f.isList.typeIs,λa e=>?_⟩;cases e;obtain⟨o,n,e,c,hd,_⟩:=f;exact⟨o,e,hd⟩
  ·obtain⟨o,g,b,h⟩:=I.UQ d;refine⟨⟨o,g,b⟩,λa e=>?_⟩;cases e;exact⟨o,g,h⟩
  ·have z:∃o,s.heap.get? p=some o/\o.ExactDict:=by
    rcases hk with ⟨kvs,hk⟩ | ⟨kvs,hk⟩
    ·obtain⟨_,_,_,_,o,_,_,e,ex,_⟩:=I.bG p _ hk;exact⟨o,e,ex⟩
    ·obtain⟨_,_,_,_,o,_,_,e,ex,_⟩:=I.bG p _ hk;exact⟨o,e,ex⟩
   obtain⟨o,e,ex⟩:=z;refine⟨⟨o,e,ex.1⟩,λa b=>?_⟩;cases b;exact⟨o,e,ex.2.1⟩
  ·obtain⟨o,_,_,_,e,ex,_⟩:=I.bG p _ hk;refine⟨⟨o,e,ex.1⟩,λa b=>?_⟩;cases b;exact⟨o,e,ex.2.1⟩
 | _=>exact False.elim ty
def tBM(K:aJn)(T:String)(r:V->List V->Hp->VK->Prop)(to:TE)(t:TA):TE:=λσ H Q=>to σ H λx a=>tyV K T x a/\t σ a λxs b=>r x xs b Q
variable {o e:Expr}{es:List Expr}{to:TE}{t:TA}{name:Str}{apos cZ:Pos}{T id:String}{r:V->List V->Hp->VK->Prop}
theorem aAn(l:PlainAttrs T)(slot:Slot T name id)(i:typeOf (.builtin id)=pure (.type "method_descriptor"))(m:MtR X id r)(ho:PE X o to)(n:PA X (e::es) t)
  (b:attributeBase o name X.env (eval o X.env)=eval o X.env:=by rfl)
  (d:((backTo cZ (starEach (e::es) X.env)).all (λx=>!x.1) && (backToKw cZ (keywordEach [] X.env)).all (λx=>x.1.isSome)
   && decide ((e::es).length+([]:List Keyword).length+(if ([]:List Keyword).isEmpty then 0 else 1)<30))=true:=by rfl)
  (c:(apos.endLine==cZ.line)=true:=by rfl) (p:starEach (e::es) X.env=(false,eval e X.env)::starEach es X.env:=by rfl) (a:(backTo cZ (starEach es X.env)).any (·.1)=false:=by rfl):
  PE X (.Call (.Attribute o name apos) (e::es) [] cZ) (tBM X.K T r to t):=by
 intro pins s σ H Q I h;refine wpAny_Call_method_late b d c rfl (bV (ho pins s σ H _ I h) λv s1 f=>?_);obtain⟨x,q,j,r1,ty,q1⟩:=f;obtain⟨u,w⟩:=UP j r1 ty;refine⟨T,id,l,slot,i,u,w,?_⟩;have k:=n cZ pins s1 σ q _ j q1;rw[p]at k⊢;refine aIm (by show (false || (backTo cZ (starEach es X.env)).any (·.1))=false;rw[a] <;> rfl) (aJ0 ?_);exact bV k λus s2 g=>by obtain⟨vs,y,z,r2,q2⟩:=g;exact m pins s2 σ y x vs v us Q z r1 r2 q2
end
def MtM(X:Cx)(id:String)(r:V->List V->Hp->VK->Prop):Prop:=
 ∀(pins:List (Addr×Obj)) (s:Shared) (σ:St) (H:Hp) (x:V) (xs:List V) (v:Value) (us:List Value) (Q:VK),Inv X pins σ H s->RelV x v->Vals xs us->r x xs H Q->
  wpAny (model X.prog X.w) X.A (call (.builtin id) (v::us)) (EP X pins σ Q) X.xe s
theorem Vals.one:∀{x:V} {us:List Value},Vals [x] us->∃u,us=[u]/\RelV x u
 | _,_,.cons r .nil=>⟨_,rfl,r⟩
section
variable {X:Cx}{pins:List (Addr×Obj)}{σ:St}{H:Hp}{s:Shared}{l b:Addr}{xs ys zs:List V}
theorem Inv.aB6{aN its' :List Value}{f:Array Value->Array Value}{t' :Nat}(I:Inv X pins σ H s)(a:H l=some (.lst xs))
  (e:s.heap.get? l=some {cls:= .type "list",data:= .seq aN.toArray n}) (b:f aN.toArray=its'.toArray) (hv:Vals ys its') (hz:ys.length<=sizeLine):
  Inv X pins σ (upd H l (.lst ys)) {s with heap:=s.heap.update l (Obj.mapSeq f),toks:=t'}:=by
 have q:=PySem.IsL.update e f;rw[b]at q;refine I.write (x:=l) (e:=l) (by rw[a];exact trivial) (.inl rfl) (λg u c d=>(aH8 s.heap (Obj.mapSeq f) (aGd c)).trans d) ⟨_,q⟩ ?_;exact⟨hz,its',_,hv,q⟩
theorem Inv.aF2{aN:List Value}{t' :Nat}(I:Inv X pins σ H s)(hv:Vals ys aN)(hz:ys.length<=sizeLine):
  Inv X pins σ (upd H s.heap.objs.size (.lst ys)) {s with heap:=s.heap.push {cls:= .type "list",data:= .seq aN.toArray},toks:=t'}:=
 I.laid (λ_ _ q=>aFn _ q) (aFq _) ⟨hz,aN,0,hv,aFs _ rfl⟩
theorem Inv.fresh(I:Inv X pins σ H s):H s.heap.objs.size=none:=I.bG.fresh (aFq _)
theorem Inv.LK(I:Inv X pins σ H s)(a:H l=some (.lst xs)):xs.length<=sizeLine/\∃(aN:List Value) (n:Nat),Vals xs aN/\xs.length=aN.length/\s.heap.get? l=some {cls:= .type "list",data:= .seq aN.toArray n}:=by
 obtain⟨z,aN,n,r,e⟩:=I.bG l _ a;exact⟨z,aN,n,r,r.length,e⟩
theorem K4(h:n<=sizeLine):Builtin.List.listTooLong n=false:=by
 unfold Builtin.List.listTooLong;exact aHj (by lia)
end
section
variable {X:Cx}
def PV:V->List V->Hp->VK->Prop:=λx vs H Q=>∃l xs y,x= .ref l/\vs=[y]/\H l=some (.lst xs)/\xs.length<sizeLine/\Q .bU (upd H l (.lst (xs++[y])))
theorem qH:MtM X "list.append" PV:=by
 intro pins s σ H x vs v us Q I b c h;obtain⟨l,xs,y,rfl,rfl,a,hz,q⟩:=h;cases b;obtain⟨u,rfl,d⟩:=c.one;obtain⟨z,aN,n,r,f,e⟩:=I.LK a;refine call_meets F.slot_list_append ⟨_,e,rfl⟩ F.entry_list_append (F.args_list_append_2 _ _) (PySem.list_append l aN.toArray n u (by rw[List.size_toArray];lia)) ⟨e,?_⟩;refine⟨.bU,_,I.aB6 (its' :=aN++[u]) a e (by simp) (r.append (.cons d .nil)) ?_,rfl,q⟩;rw[List.length_append,List.length_singleton]
 lia
def PU:V->List V->Hp->VK->Prop:=λx vs H Q=>∃l b xs a,x= .ref l/\vs=[.ref b]/\H l=some (.lst xs)/\H b=some (.lst a)/\xs.length+a.length<=sizeLine/\Q .bU (upd H l (.lst (xs++a)))
theorem ZG:MtM X "list.extend" PU:=by
 intro pins s σ H x vs v us Q I f g h;obtain⟨l,b,xs,o,rfl,rfl,d,i,hz,q⟩:=h;cases f;obtain⟨u,rfl,j⟩:=g.one;cases j;obtain⟨z,aN,n,r,p,e⟩:=I.LK d;obtain⟨t,a,n2,r2,k,m⟩:=I.LK i;have hsz:aN.toArray.size+a.toArray.size<=sizeLine:=by rw[List.size_toArray,List.size_toArray];lia
 have c:¬(!aN.toArray.isEmpty && Builtin.List.listTooLong (aN.toArray.size+a.toArray.size))=true:=by
  rw[K4 hsz,Bool.and_false];exact Bool.false_ne_true
 refine call_meets F.slot_list_extend ⟨_,e,rfl⟩ F.entry_list_extend (F.args_list_extend_2 _ _)
  (AutoSeq1.list_extend_list_list_0 l aN.toArray n b a.toArray n2 c (by rw[List.size_toArray];lia) (by lia)) ⟨e,m,?_⟩
 refine⟨.bU,_,I.aB6 (its' :=aN++a) d e (by simp) (r.append r2) ?_,rfl,q⟩;rw[List.length_append]
 lia
def aEt:R2:=λx y H Q=>∃l b xs a,x= .ref l/\y= .ref b/\H l=some (.lst xs)/\H b=some (.lst a)/\xs.length+a.length<=sizeLine/\∀p,H p=none->Q (.ref p) (upd H p (.lst (xs++a)))
theorem V3:dP X (binaryOp .Add) aEt:=by
 intro pins s σ H x y v u Q I c d h;obtain⟨l,b,xs,m,rfl,rfl,f,g,hz,q⟩:=h;cases c;cases d;obtain⟨z,aN,n,r,o,e⟩:=I.LK f;obtain⟨p,a,n2,r2,i,j⟩:=I.LK g;refine PySem.P.add_list e j ?_ (by rw[List.size_toArray,List.size_toArray];lia);have k:aN.toArray++a.toArray=(aN++a).toArray:=by simp
 rw[k];exact⟨.ref _,_,I.aF2 (t' :=s.toks) (r.append r2) (by rw[List.length_append];lia),rfl,q _ I.fresh⟩
end
end L2
namespace Att
open PySem PySem.W PySem.Calls PyProof.Rows
theorem rX{P:Params}{h:Heap}:∀(ns:List Int) (vs:List Value),WellAll P h vs (ns.map WData.int)->IntsAre vs ns:=by
 intro ns
 induction ns with
 | nil=>
  intro vs w;rw[List.map_nil]at w;cases w;exact .nil
 | cons n ns ih=>
  intro vs w;rw[List.map_cons]at w
  cases w with
  | cons a b=>
   cases a;exact .cons _ _ (ih _ b)
theorem G2{l:OpenLaw}{n:Nat}(m:l.most=some n){P:Params}{h:Heap}{args:List WData}{vals:List Value}
  (b:l.row.toRowW.claim.pre args=true) (i:WellAll P h vals args):
  ∃a vs ns,vals=[Value.ref a]/\args=[WData.list (ns.map WData.int)]/\h.get? a=some {cls:= .type "list",data:= .seq vs.toArray}/\IntsAre vs ns/\ns.length<=n:=by
 have j:WShape.hasAll [] args [.list .int]=true:=(pre_splitW b).1;have k:l.pre.holds [] {args:=args}=true:=(pre_splitW b).2;obtain⟨d,r,rfl,o,p⟩:=hasAllW_cons j;obtain rfl:=hasAllW_nil p;obtain⟨xs,rfl,s⟩:=hasW_list o;obtain⟨ns,rfl⟩:=items_int s
 have c:ns.length<=n:=by
  unfold OpenLaw.pre at k
  have f:(WTm.not (.lt (.lit (.int (n:Int))) (.len (.arg 0)))).holds [] {args:=[.list (ns.map .int)]}=true:=by
   have f:=(holds_andW k).1;rw[m]at f;exact f
  have g:=condW_of f (w_not (w_lt w_lit (w_len_list (w_arg rfl))));rw[List.length_map]at g;refine aIu λq=>?_;have t :(n:Int)<((ns.length:Nat):Int):=by lia
  first
   | (rw[decide_eq_true t]at g;exact absurd g (by decide))
   | (simp at g;lia)
 cases i with
 | cons u v=>
  cases v
  cases u with
  | list ho e=>exact⟨_,_,ns,rfl,rfl,ho,rX ns _ e,c⟩
theorem G7(l:OpenLaw)(args:List WData):l.row.toRowW.claim.post args (.bool true) args=true:=
 postW_of (r:=l.row.toRowW) (X:=(true==true))
  (show WShape.has [] (.bool true) .bool=true by first | rfl | decide | simp[WShape.has,WShape.arms,WShape.armsAll])
  (show (WTm.eq .res (.lit (.bool true))).value [] {args:=args,res:=some (.bool true),after:=args}=some (.bool (true==true)) from w_eq_bool (w_res rfl) w_lit) rfl
theorem CG{l:OpenLaw}{n:Nat}{q:Program}{loose:List Str}{XP:(aJq)->Heap->Prop}{u:World->Heap->Prop}{d:DefRec}
  (y:l.most=some n) (m:d.params.defaults=[])
  (call:∀(w:World) (s₀ b:Shared) (mg mb:aJq) (e:Addr) (o:Obj) (pm j doc:Value) (a:Addr) (vs:List Value) (ns:List Int),
   Ground q loose [] XP w s₀ mg mb b.heap->u w b.heap->
   b.heap.get? e=some o->o.data= .func (docDef d.name d.params d.body d.scope pm j doc)->b.heap.CodeRec j d.name->mg d.name=some (.ref e)->
   b.heap.get? a=some {cls:= .type "list",data:= .seq vs.toArray}->IntsAre vs ns->ns.length<=n->b.gens= #[]->
   codeAny (model l.prog w) callerA (.call (.ref e) ⟨[.ref a],[]⟩) (λr k =>r= .ok (.ret (.bool true))/\OldK b.heap k.heap/\k.os=b.os/\AllBare k.gens) b):
  WalkO q loose XP u l.row.toRowW d [] (λf vs=>PySem.call f vs):=by
 intro w s₀ b mg mb G Y e o pm j doc z kV ho hd p v s hg args vals as g x A t B;obtain rfl:z= .none:=Dflts.none v m;obtain rfl:kV= .none:=Dflts.noKw v;obtain⟨a,vs,ns,rfl,rfl,h,c,i⟩:=G2 y g t;refine enter_call (aHl (call w s₀ b mg mb e o pm j doc a vs ns G Y ho (fd_plain hd) p s h c i hg) λr k C=>?_);obtain⟨rfl,D,E,F⟩:=C;exact⟨.inl ⟨.bool true,.bool true,[],rfl,λ_=>rfl,.bool true,G7 l _,λ_=>⟨List.Pairwise.nil,λ_ H=>(nomatch H)⟩⟩,D,E,F⟩
end Att
namespace L2
open PySem PySem.Spec PyProof.Rows
theorem wL:∀{vs:List Value} {ns:List Int},IntsAre vs ns->Vals (ns.map V.int) vs
 | _,_,.nil=>.nil
 | _,_,.cons n t h=>.cons ⟨t,rfl⟩ (wL h)
def TB(H:Hp):Prop:=∀b,H b=none\/∃o xs,H b=some (.rY o (.lst xs))
variable{fd:FuncData}{x:Str}
theorem L9{P:Program}{w:World}{K:aJn}{mg mb:aJq}{CX:JC}{k:Nat}{G a:Addr}{sp:Sp}{c:Shared}{vs:List Value}{ns:List Int}
  (KX:K.In c.heap) (t:c.heap.Ns mainGlobals mg) (g:c.heap.Ns builtinsNs mb) (I:∀x:Str,x≠ "__name__"->mb x=bootBuiltins x) (y:c.heap.NoLimit) (hg:c.gens= #[])
  (E:c.heap.get? a=some {cls:= .type "list",data:= .seq vs.toArray}) (hi:IntsAre vs ns) (O:ns.length<=sizeLine) (U:f9 k callerA)
  (F:∀base:Heap,K.In base->base.Ns mainGlobals mg->j8 P w K mg base CX k G fd [x] sp) (p:∀(s:Shared) (u:Value),BindsTo s fd ⟨[u],[]⟩ [(x,u)])
  (J:∀H:Hp,TB H->p7 K H a (ns.map V.int)->sp [.ref a] H (λv _=>v= .bl true) λ_ _ _=>False)
  (L:∀H e i,CX [] H c (λ_ _ _=>False) e i ->False):
  codeAny (model P w) callerA (.call (.ref G) ⟨[.ref a],[]⟩) (λr i =>r= .ok (.ret (.bool true))/\OldK c.heap i.heap/\i.os=c.os/\AllBare i.gens) c:=by
 have Q:=wL hi;have A:=hi.length
 have l:∀H:Hp,TB H->p7 K H a (ns.map V.int)->p9 P w H c.heap->(∀b,H b≠none->b=a)->(H a≠none->K.lookup a=none)->
   codeAny (model P w) callerA (.call (.ref G) ⟨[.ref a],[]⟩) (λr i =>r= .ok (.ret (.bool true))/\OldK c.heap i.heap/\i.os=c.os/\AllBare i.gens) c:=by
  intro H R W bG S X;have f:∀{b:Addr} {o:Obj},c.heap.get? b=some o->H b=none->(zE c.heap H).get? b=some o:=λe n=>MV e n
  have M:∀{b:Addr} {o:Obj} {es:Array DictEntry} {ep:Nat},c.heap.get? b=some o->o.data= .dict es ep->H b=none:=λ{b o es ep} e d=>by
   cases q:H b with
   | none=>rfl
   | some u=>
    have N :b=a:=S b (by rw[q];simp);subst N;rw[E]at e;cases e;have d' :Data.seq vs.toArray _=Data.dict es ep:=d;cases d'
  have j:∀{b:Addr} {m:aJq},c.heap.Ns b m->(zE c.heap H).Ns b m:=λ{b m} ⟨o,es,ep,e,d,r⟩=>⟨o,es,ep,f e (M e d),d,r⟩
  have B:K.In (zE c.heap H):=λb o e=>f (KX b o e) (by
   cases q:H b with
   | none=>rfl
   | some u=>
    have N :b=a:=S b (by rw[q];simp);subst N
    rw[X (by rw[q];simp)]at e;cases e)
  have Y:Mod K mg (zE c.heap H):=⟨B,j t,⟨mb,j g,I⟩,let ⟨mc,h1,h2⟩:=y;⟨mc,j h1,h2⟩⟩
  have Z:TF P w K mg (zE c.heap H) callerA [] c H:=⟨rfl,Y,λb o e=>QZ e,aJl (HZ _ _),trivial,λb g=>absurd (show b∈([]:List Addr) from g) (by simp),bG,.of_eq hg⟩
  refine aHl ((F _ B (j t)).run callerA [] c H ⟨[.ref a],[]⟩ [.ref a] [.ref a] _ _ U Z (p c (.ref a)) (.cons rfl .nil) (J H R W)) λr i h=>?_
  cases r with
  | error e=>exact(L H e i h).elim
  | ok fl=>
   cases fl with
   | next=>exact False.elim h
   | brk=>exact False.elim h
   | cont=>exact False.elim h
   | ret u=>
    obtain⟨v,H',os,bare,un,C,r',q⟩:=h;have q' :v= .bl true:=q;subst q';obtain rfl:u=Value.bool true:=r';refine⟨rfl,OldK.of_keep λb o e=>?_,os,bare⟩
    cases q:H b with
    | none=>exact un.keep b o e q (by intro z;exact absurd (show b∈([]:List Addr) from z) (by simp)) (by simp)
    | some u=>
     rcases R b with z | ⟨ob,xs,z⟩
     ·rw[q]at z;cases z
     ·have z2:=un.uJ b ob _ z;obtain⟨T,_⟩:=bG b _ z;obtain⟨e2,_⟩:=C b _ z2;rw[e]at T;cases T;exact e2
 cases hk:K.lookup a with
 | some o=>
  have e:=KX a o hk;rw[E]at e;cases e;refine l (λ_=>none) (λ_=>.inl rfl) (.inr ⟨_,vs.toArray,_,hk,rfl,rfl,rfl,by rw[List.size_toArray,A];exact O,by simpa using Q⟩) (λb u z=>by have D :(none:Option HO)=some u:=z;cases D) (λb z=>absurd rfl z) λz=>absurd rfl z
 | none=>
  refine l (λb=>if b=a then some (.rY {cls:= .type "list",data:= .seq vs.toArray} (.lst (ns.map V.int))) else none) (λb=>?_) (.inl (.inr ⟨{cls:= .type "list",data:= .seq vs.toArray},if_pos rfl⟩)) (λb u z=>?_) (λb z=>?_) λ_=>hk
  ·by_cases g:b=a
   ·exact .inr ⟨_,_,if_pos g⟩
   ·exact .inl (if_neg g)
  ·by_cases g:b=a
   ·have D :=(if_pos g).symm.trans z;cases D;subst g;exact⟨E,by rw[List.length_map];exact O,vs,_,Q,E⟩
   ·have D :=(if_neg g).symm.trans z;cases D
  ·by_cases g:b=a
   ·exact g
   ·exact absurd (if_neg g) z
theorem OP{l:PySem.W.OpenLaw}{n k:Nat}{q:Program}{loose:List Str}{XP:(aJq)->Heap->Prop}{C:World->Heap->Prop}{d:DefRec}{K:Params->aJn}{CX:World->JC}{sp:World->Sp}
  (D:l.most=some n) (r:n<=sizeLine) (t:d.params.defaults=[]) (E:f9 k callerA)
  (I:∀(w:World) (h:Heap),C w h->(K w.params).In h)
  (F:∀(w:World) (mg:aJq) (p:Addr) (h:Heap),(K w.params).In h->h.Ns mainGlobals mg->mg d.name=some (.ref p)->
   ∃fd:FuncData,(∀(s:Shared) (u:Value),BindsTo s fd ⟨[u],[]⟩ [(x,u)])/\
    ∀base:Heap,(K w.params).In base->base.Ns mainGlobals mg->j8 l.prog w (K w.params) mg base (CX w) k p fd [x] (sp w))
  (y:∀(w:World) (H:Hp) (a:Addr) (ns:List Int),ns.length<=n->TB H->p7 (K w.params) H a (ns.map V.int)->sp w [.ref a] H (λv _=>v= .bl true) λ_ _ _=>False)
  (z:∀(w:World) (H:Hp) (s:Shared) (e:Value) (A :Shared),CX w [] H s (λ_ _ _=>False) e A ->False):
  PySem.W.WalkO q loose XP C l.row.toRowW d [] (λf vs=>PySem.call f vs):=by
 refine Att.CG D t λw s₀ j mg mb p o pm P doc a vs ns G Y ho hd J B m i c hg=>?_;have KX:=I w _ Y;obtain⟨fd,L,M⟩:=F w mg p _ KX G.T.g B;exact L9 KX G.T.g G.T.b G.T.builtins G.T.nolimit hg m i (aG2 c r) E M L (λH N O=>y w H a ns c N O) λH e A =>z w H j e A
def d6(s:Stmt):Arguments:=match s with
 | .FunctionDef _ a _ _ _ _ _ _ _ _=>a
 | _=>{posonlyargs:=[],args:=[],vararg:=none,kwonlyargs:=[],kw_defaults:=[],kwarg:=none,defaults:=[]}
def cJ(s:Stmt):List Stmt:=match s with
 | .FunctionDef _ _ b _ _ _ _ _ _ _=>b
 | _=>[]
def aE(s:Stmt):Scope:=match s with
 | .FunctionDef _ _ _ _ _ _ sc _ _ _=>sc
 | _=>{kind:= .function,names:=[],isGenerator:=false,isCoroutine:=false}
abbrev CM:JC:=λ_ _ _ _ _ _=>False
abbrev E0:XK:=λ_ _ _=>False
theorem aAp{X:Cx}:Passes CM X E0:=λ_ _ _ _ _ _ _ h=>h.elim
structure ZM(K:aJn)(x qual:Str)(st:Stmt)(f:Addr)(fd:FuncData):Prop where
 ex:∃(oc:Value) (od:Option Addr) (kV doc pm:Value) (an:Option Addr) (cdv ct:Value) (osl:Array (Option Value)),
  fd=PySem.W.fnOf x qual (d6 st) (cJ st) (aE st) .none kV doc pm an cdv ct/\K.lookup f=some ⟨oc,od,.func fd,osl⟩/\PySem.W.codeIn K cdv qual=true
 kp:PySem.W.keepIn K (.ref f)=true
section
variable {P:Program}{w:World}{K:aJn}{mg:aJq}{base:Heap}
theorem ZM.ok{x qual:Str}{st:Stmt}{f:Addr}{N ps:List Str}{k:Nat}{sp:Sp}(F:ZM K x qual st f fd)(S:bC N ps (aE st))(len:∀vs H Q E,sp vs H Q E->vs.length=ps.length)
  (a:∀(cdv:Value) (A:Around) (outer:List Env) (s:Shared) (H:Hp) (vs:List V) (Q:VK) (E:XK),f9 k (A.deeper (envOfC qual (aE st) s.heap.objs.size f cdv))->sp vs H Q E->
   ∃t,AE (uW CM P w K mg base N qual (aE st) f cdv A outer s H E).Q2 (cJ st) t/\t {nx:=λ_ H' =>Q .bU H',rt:=Q} (start N vs) H):j8 P w K mg base CM (k+1) f fd ps sp:=by
 obtain⟨oc,od,kV,doc,pm,an,cdv,ct,osl,rfl,d,b⟩:=F.ex;refine aC9 d b S len λA outer s H vs Q E e c=>?_;obtain⟨t,h,q⟩:=a cdv A outer s H vs Q E e c;exact⟨t,h.Q2,q⟩
theorem ZM.binds{x qual:Str}{st:Stmt}{f:Addr}{ps:List Str}(F:ZM K x qual st f fd)
  (h:∀(kV doc pm:Value) (an:Option Addr) (cdv ct:Value) (us:List Value),us.length=ps.length->bindArgs (PySem.W.fnOf x qual (d6 st) (cJ st) (aE st) .none kV doc pm an cdv ct) ⟨us,[]⟩=pure (ps.zip us)):Binds K fd ps []:=by
 obtain⟨oc,od,kV,doc,pm,an,cdv,ct,osl,rfl,b,a⟩:=F.ex;exact .all (h kV doc pm an cdv ct)
theorem DY{x qual:Str}{st:Stmt}{f:Addr}{oc:Value}{od an:Option Addr}{osl:Array (Option Value)}{kV doc pm cdv ct:Value}(l:K.lookup f=some ⟨oc,od,.func (PySem.W.fnOf x qual (d6 st) (cJ st) (aE st) .none kV doc pm an cdv ct),osl⟩)
  (c:PySem.W.codeIn K cdv qual=true) (k:PySem.W.keepIn K (.ref f)=true):ZM K x qual st f (PySem.W.fnOf x qual (d6 st) (cJ st) (aE st) .none kV doc pm an cdv ct):=⟨⟨oc,od,kV,doc,pm,an,cdv,ct,osl,rfl,l,c⟩,k⟩
end
theorem wR{n:Nat}(h:n<=1000):n<sizeLine:=Nat.lt_of_le_of_lt h (by decide)
end L2
namespace D3
open PySem PySem.Spec PyProof.Rows L2 PySem.Calls
noncomputable def kE(P:Params)(x:Str)(t:Tok)(v:Value):DictEntry:=⟨PyData.keyHash P x,.str x t,v⟩
noncomputable def kF(x:Str)(st:Stmt)(m:Value)(c:Addr)(d:Value:= .none):Obj:=⟨.type "function",none,.func (PySem.W.fnOf x x (d6 st) (cJ st) (aE st) d .none .none m none (.ref c) .none),#[]⟩
noncomputable def kC(x:Str)(t:Nat)(l n:Int)(T c:Nat)(u v:Value:= .none)(k:Nat:=3):Obj:=
 ⟨.type "code",none,.fields #[.str x t,.str x (t+1),.str "/claim/cut.py" (t+2),.int l 0,.int n 0,.int 0 0,.int 0 0,.int 3 0,.ref (c-k),.bool true,.int 181 0,.ref (c-k+1),.none,u,v,.ref (c-1),.int T 0,.int l 0,.str "/claim/cut.py" (T+1)],#[]⟩
noncomputable def kD(x:Str)(t:Nat)(l n:Int)(T c:Nat):Obj:=kC x t l n T c (.ref (c-3)) (.ref (c-2)) 5
noncomputable def kQ(p:Program)(ks:List Nat):Program:={p with main:={p.main with body:=ks.filterMap λi=>p.main.body[i]?}}
end D3
namespace K65
open PySem PySem.Spec PyProof.Rows L2 D3
def top(i:Nat):Stmt:=PySem.Challenge.pw_maskwright_k65_wires_on_tracks.main.body.getD i (.Pass ⟨0,0,0,0⟩)
abbrev fO:Stmt:=top 4
abbrev eM:Stmt:=top 5
abbrev hV:Stmt:=top 6
abbrev pG:Stmt:=top 7
abbrev fP:Stmt:=top 8
abbrev dU:Stmt:=top 9
abbrev cO:Stmt:=top 10
abbrev cV:Stmt:=top 11
abbrev fQ:Stmt:=top 12
abbrev dS:Stmt:=top 13
abbrev mJ:Stmt:=top 14
abbrev fR:Stmt:=top 16
abbrev eN:Stmt:=top 17
abbrev cP:Stmt:=top 18
abbrev cY:Stmt:=top 20
abbrev cW:Stmt:=top 21
abbrev cX:Stmt:=top 22
abbrev dW:Stmt:=top 23
abbrev b6:Stmt:=top 26
abbrev tN:Stmt:=top 30
noncomputable def m0:Value:= .str "maskwright.channels" 232
noncomputable def m1:Value:= .str "law_maskwright_k65_wires_on_tracks" 321
noncomputable def kk:Params->W.Frag:=λP=>(nat_lit 3,⟨.type "dict",none,.dict #[kE P "__name__" 165 (.str "law_maskwright_k65_wires_on_tracks" 321),kE P "__doc__" 166 .none,kE P "__package__" 167 .none,kE P "__loader__" 168 (.builtin "__main__.__loader__#opaque"),kE P "__spec__" 169 .none,kE P "__annotations__" 170 (.ref 6),kE P "__builtins__" 171 (.ref 4),kE P "__file__" 173 (.str "/claim/cut.py" 172),kE P "__cached__" 174 .none,kE P "MaskError" 206 (.ref 24),kE P "Ringed" 231 (.ref 44),kE P "spans_of" 239 (.ref 51),kE P "orders_of" 245 (.ref 56),kE P "ring_in" 251 (.ref 61),kE P "meet" 259 (.ref 68),kE P "fillings" 265 (.ref 73),kE P "free_wires" 271 (.ref 78),kE P "fewest_tracks" 284 (.ref 85),kE P "thick_column" 290 (.ref 90),kE P "chain_to" 301 (.ref 97),kE P "reason_for" 314 (.ref 104),kE P "wired" 320 (.ref 109),kE P "_law_bag" 333 (.ref 116),kE P "_law_take" 344 (.ref 123),kE P "_law_is_whole" 351 (.ref 130),kE P "_law_alike" 357 (.ref 135),kE P "_law_columns" 372 (.ref 142),kE P "_law_spanned" 378 (.ref 147),kE P "_law_ordered" 384 (.ref 152),kE P "_law_rings" 390 (.ref 157),kE P "_law_thick" 396 (.ref 162),kE P "_law_chain_lengths" 402 (.ref 167),kE P "_law_are_tracks" 408 (.ref 172),kE P "_law_is_chain" 414 (.ref 177),kE P "_law_first_thick" 424 (.ref 184),kE P "_law_is_reason" 430 (.ref 189),kE P "law" 442 (.ref 196)] 37,#[]⟩)::(nat_lit 50,kC "spans_of" 234 9 2 237 50)::(nat_lit 51,kF "spans_of" fO m0 50)::(nat_lit 55,kC "orders_of" 240 16 3 243 55)::(nat_lit 56,kF "orders_of" eM m0 55)::(nat_lit 60,kC "ring_in" 246 22 1 249 60)::(nat_lit 61,kF "ring_in" hV m0 60)::(nat_lit 67,kD "meet" 252 36 2 257 67)::(nat_lit 68,kF "meet" pG m0 67)::(nat_lit 72,kC "fillings" 260 38 2 263 72)::(nat_lit 73,kF "fillings" fP m0 72)::(nat_lit 77,kC "free_wires" 266 44 2 269 77)::(nat_lit 78,kF "free_wires" dU m0 77)::(nat_lit 84,kD "fewest_tracks" 272 46 2 282 84)::(nat_lit 85,kF "fewest_tracks" cO m0 84)::(nat_lit 89,kC "thick_column" 285 56 3 288 89)::(nat_lit 90,kF "thick_column" cV m0 89)::(nat_lit 96,kD "chain_to" 291 61 3 299 96)::(nat_lit 97,kF "chain_to" fQ m0 96)::(nat_lit 103,kD "reason_for" 302 69 4 312 103)::(nat_lit 104,kF "reason_for" dS m0 103)::(nat_lit 108,kC "wired" 315 78 2 318 108)::(nat_lit 109,kF "wired" mJ m0 108)::(nat_lit 115,kD "_law_bag" 323 88 2 331 115)::(nat_lit 116,kF "_law_bag" fR m1 115)::(nat_lit 122,kD "_law_take" 334 98 2 342 122)::(nat_lit 123,kF "_law_take" eN m1 122)::(nat_lit 129,kD "_law_is_whole" 345 110 1 349 129)::(nat_lit 130,kF "_law_is_whole" cP m1 129)::(nat_lit 134,kC "_law_alike" 352 112 2 355 134)::(nat_lit 141,kD "_law_columns" 358 120 1 370 141)::(nat_lit 142,kF "_law_columns" cY m1 141)::(nat_lit 146,kC "_law_spanned" 373 134 2 376 146)::(nat_lit 147,kF "_law_spanned" cW m1 146)::(nat_lit 151,kC "_law_ordered" 379 141 2 382 151)::(nat_lit 152,kF "_law_ordered" cX m1 151)::(nat_lit 156,kC "_law_rings" 385 148 2 388 156)::(nat_lit 157,kF "_law_rings" dW m1 156)::(nat_lit 161,kC "_law_thick" 391 154 3 394 161)::(nat_lit 166,kC "_law_chain_lengths" 397 156 2 400 166)::(nat_lit 171,kC "_law_are_tracks" 403 162 4 406 171)::(nat_lit 172,kF "_law_are_tracks" b6 m1 171)::(nat_lit 176,kC "_law_is_chain" 409 181 4 412 176)::(nat_lit 183,kD "_law_first_thick" 415 187 3 422 183)::(nat_lit 188,kC "_law_is_reason" 425 192 4 428 188)::(nat_lit 195,kD "law" 431 208 1 440 195)::(nat_lit 196,kF "law" tN m1 195)::[]
theorem kl:PySem.W.LeftO PySem.Challenge.rw_maskwright_k65_wires_on_tracks.prog (D3.kQ PySem.Challenge.pw_maskwright_k65_wires_on_tracks [1,2,4,5,6,7,8,9,10,11,12,13,14,16,17,18,19,20,21,22,23,24,25,26,27,28,29,30]) [] (λ_=>true) (λs=>List.map s.heap.get? [3,50,51,55,56,60,61,67,68,72,73,77,78,84,85,89,90,96,97,103,104,108,109,115,116,122,123,129,130,134,141,142,146,147,151,152,156,157,161,166,171,172,176,183,188,195,196]) (λw=>(kk w.params).map λp=>some p.2) 2536:=λ_=>by kernel_rfl
end K65
namespace L2
open PySem PySem.Spec PyProof.Rows
section
variable {κ:Type}[DecidableEq κ]
def fZ(kvs:List (κ×V))(k:κ):Option V:=(kvs.find? λa=>decide (a.1=k)).map (·.2)
def putK(kvs:List (κ×V))(k:κ)(v:V):List (κ×V):=
 if (kvs.any λa=>decide (a.1=k))=true then kvs.map (λa=>if a.1=k then (a.1,v) else a) else kvs++[(k,v)]
def gP(kvs:List (κ×V))(k:κ):List (κ×V):=kvs.filter λa=>decide (a.1≠k)
variable{r:List (κ×V)}
theorem mE{p:κ×V}{k:κ}(e:p.1=k):fZ (p::r) k=some p.2:=by simp[fZ,List.find?_cons,e]
theorem mF{p:κ×V}{k:κ}(e:¬p.1=k):fZ (p::r) k=fZ r k:=by simp[fZ,List.find?_cons,e]
theorem AS(k:κ):∀kvs:List (κ×V),(kvs.any λa=>decide (a.1=k))=(fZ kvs k).isSome
 | []=>rfl
 | p::r=>by
  rw[List.any_cons];by_cases e:p.1=k
  ·simp only[mE e,decide_eq_true e,Bool.true_or,Option.isSome_some]
  ·rw[mF e,decide_eq_false e,Bool.false_or];exact AS k r
theorem fU(kvs:List (κ×V))(k:κ)(v:V):(putK kvs k v).length<=kvs.length+1:=by
 unfold putK;split
 ·rw[List.length_map];lia
 ·rw[List.length_append,List.length_cons,List.length_nil];lia
theorem vC.eA{o:Option V}{u:Option Value}(r:vC o u):o.isSome=u.isSome:=by
 cases o with
 | none=>cases u with
  | none=>rfl
  | some _=>exact(show False from r).elim
 | some _=>cases u with
  | none=>exact(show False from r).elim
  | some _=>rfl
variable{kvs:List (κ×V)}{vs:List (κ×Value)}
theorem KV.val(r:KV kvs vs)(k:κ):vC (fZ kvs k) (valueAt vs k):=by
 unfold KV at r
 induction r with
 | nil=>exact True.intro
 | @cons p q ps qs h t ih=>
  obtain⟨c,d⟩:=h;by_cases e:p.1=k
  ·have a :q.1=k:=c.symm.trans e;have b:valueAt (q::qs) k=some q.2:=by simp[valueAt,List.find?_cons,a]
   rw[mE e,b];exact d
  ·have a :¬q.1=k:=λz=>e (c.trans z);have b:valueAt (q::qs) k=valueAt qs k:=by simp[valueAt,List.find?_cons,a]
   rw[mF e,b];exact ih
theorem KV.any(r:KV kvs vs)(k:κ):(kvs.any λa=>decide (a.1=k))=vs.any λa=>decide (a.1=k):=by
 unfold KV at r
 induction r with
 | nil=>rfl
 | cons h t ih=>rw[List.any_cons,List.any_cons,ih,h.1]
theorem KV.U9(r:KV kvs vs)(k:κ){y:V}{u:Value}(c:RelV y u):
  KV (kvs.map λa=>if a.1=k then (a.1,y) else a) (vs.map λa=>if a.1=k then (a.1,u) else a):=by
 unfold KV at r⊢
 induction r with
 | nil=>exact .nil
 | @cons p q ps qs h t ih=>
  rw[List.map_cons,List.map_cons];refine .cons ?_ ih;obtain⟨b,d⟩:=h;by_cases e:p.1=k
  ·rw[if_pos e,if_pos (b.symm.trans e)];exact⟨b,c⟩
  ·rw[if_neg e,if_neg (λz=>e (b.trans z))];exact⟨b,d⟩
theorem KV.put(r:KV kvs vs)(k:κ){y:V}{u:Value}(a:RelV y u):KV (putK kvs k y) (stored vs k u):=by
 unfold putK stored;rw[r.any k];by_cases e:(vs.any λb=>decide (b.1=k))=true
 ·rw[if_pos e,if_pos e];exact r.U9 k a
 ·rw[if_neg e,if_neg e];exact Paired.snoc r ⟨rfl,a⟩
theorem KV.drop(r:KV kvs vs)(k:κ):KV (gP kvs k) (without vs k):=by
 unfold KV at r⊢;unfold gP without
 induction r with
 | nil=>exact .nil
 | @cons p q ps qs h t ih=>
  obtain⟨c,d⟩:=h;rw[List.filter_cons,List.filter_cons];by_cases e:p.1=k
  ·have a:¬decide (p.1≠k)=true:=by simp[e]
   have b:¬decide (q.1≠k)=true:=by simp[c.symm.trans e]
   rw[if_neg a,if_neg b];exact ih
  ·have f :¬q.1=k:=λz=>e (c.trans z);have a:decide (p.1≠k)=true:=by simp[e]
   have b:decide (q.1≠k)=true:=by simp[f]
   rw[if_pos a,if_pos b];exact .cons ⟨c,d⟩ ih
theorem KV.length(r:KV kvs vs):kvs.length=vs.length:=Paired.length r
theorem NJ(kvs:List (κ×V))(k:κ):(gP kvs k).length<=kvs.length:=aGo _ _
end
variable{P:Program}{w:World}{u:Value}
theorem oB{k:Key}(r:RelV (kV k) u):(aR P w).is k u=true:=by
 cases k with
 | inl i=>obtain⟨t,e⟩:=(show ∃t,u=Value.int i t from r);subst e;exact BE P w i t
 | inr x=>obtain⟨t,e⟩:=(show ∃t,u=Value.str x t from r);subst e;exact BD P w x t
theorem qL{P:Program}{w:World}:∀{ks:List Key} {us:List Value},Vals (ks.map kV) us->ItemsAre (aR P w) ks us
 | [],_,r=>by rw[List.map_nil]at r;cases r;exact .nil
 | k::ks,_,r=>by
  rw[List.map_cons]at r
  cases r with
  | cons h t=>exact .cons (oB h) (qL t)
abbrev KT(H:Hp):List (List Key×V)->List (List Key×Addr×Value)->Prop:=Paired λp q=>p.1=q.1/\H q.2.1=some (.tup (p.1.map kV))/\RelV p.2 q.2.2
variable{H:Hp}{kvs:List (List Key×V)}{xs:List (List Key×Addr×Value)}
theorem KT.val(r:KT H kvs xs)(k:List Key):vC (fZ kvs k) ((atKey xs k).map (·.2)):=by
 induction r with
 | nil=>exact True.intro
 | @cons p q ps qs h t ih=>
  obtain⟨c,_,d⟩:=h;by_cases e:p.1=k
  ·have a :q.1=k:=c.symm.trans e;have b:atKey (q::qs) k=some q.2:=by simp[atKey,List.find?_cons,a]
   rw[mE e,b];exact d
  ·have a :¬q.1=k:=λz=>e (c.trans z);have b:atKey (q::qs) k=atKey qs k:=by simp[atKey,List.find?_cons,a]
   rw[mF e,b];exact ih
theorem KT.U9(r:KT H kvs xs)(k:List Key){y:V}(d:RelV y u):
  KT H (kvs.map λb=>if b.1=k then (b.1,y) else b) (xs.map (putAt k u)):=by
 induction r with
 | nil=>exact .nil
 | @cons p q ps qs h t ih=>
  rw[List.map_cons,List.map_cons];refine .cons ?_ ih;obtain⟨a,c,f⟩:=h;unfold putAt;by_cases e:p.1=k
  ·rw[if_pos e,if_pos (a.symm.trans e)];exact⟨a,c,d⟩
  ·rw[if_neg e,if_neg (λz=>e (a.trans z))];exact⟨a,c,f⟩
theorem KT.put(r:KT H kvs xs)(k:List Key){b:Addr}{y:V}(c:H b=some (.tup (k.map kV)))(a:RelV y u):
  KT H (putK kvs k y) (storedH xs k b u):=by
 have e:(kvs.any λd=>decide (d.1=k))=(atKey xs k).isSome:=by
  rw[AS,(r.val k).eA,Option.isSome_map]
 unfold putK storedH;rw[e];by_cases q:(atKey xs k).isSome=true
 ·rw[if_pos q,if_pos q];exact r.U9 k a
 ·rw[if_neg q,if_neg q];exact Paired.snoc r ⟨rfl,c,a⟩
theorem KT.keeps{H H' :Hp}(r:KT H kvs xs)(ht:∀b a,H b=some (.tup a)->H' b=some (.tup a)):KT H' kvs xs:=
 Paired.WN r λ_ _ z=>⟨z.1,ht _ _ z.2.1,z.2.2⟩
section
variable {P:Program}{w:World}{H:Hp}{h:Heap}{a:Addr}
theorem T3{u:HO}(ok:p9 P w H h)(e:Rd H a u):cA P w H h a u:=e.ok ok
variable{kvs:List (Key×V)}
theorem pX(ok:p9 P w H h)(e:Rd H a (.dK kvs)):kvs.length<=sizeLine/\(a==sysModules)=false/\∃vs,KV kvs vs/\h.DictOf (aR P w) a vs:=
 show cA P w H h a (.dK kvs) from T3 ok e
theorem B2(ok:p9 P w H h)(e:H a=some (.dK kvs)):kvs.length<=sizeLine/\(a==sysModules)=false/\∃vs,KV kvs vs/\h.DictOf (aR P w) a vs:=pX ok (.inl e)
theorem oN{ks:List Key}(ok:p9 P w H h)(e:H a=some (.tup (ks.map kV))):(tupleKind (aR P w)).is h ks a:=by
 obtain⟨_,aN,r,⟨o,b,c,n,d⟩,_⟩:=(show cA P w H h a (.tup (ks.map kV)) from ok a _ e)
 exact⟨o,aN.toArray,n,b,c,d,by simpa using qL r⟩
variable{kvs:List (List Key×V)}
theorem pW(ok:p9 P w H h)(e:Rd H a (.dT kvs)):kvs.length<=sizeLine/\(a==sysModules)=false/\
  ∃xs,KT H kvs xs/\h.DictOfH (tupleKind (aR P w)) a xs:=by
 obtain⟨z,y,xs,r,o,es,ep,b,c,d,f,g⟩:=(show cA P w H h a (.dT kvs) from T3 ok e)
 refine⟨z,y,xs,r,o,es,ep,b,c,d,f,λx hx=>?_,g⟩
 have all:∀{l:List (List Key×V)} {m:List (List Key×Addr×Value)},KT H l m->∀x∈m,(tupleKind (aR P w)).is h x.1 x.2.1:=by
  intro l m q
  induction q with
  | nil=>intro x hx;exact nomatch hx
  | @cons p q ps qs hq t ih=>
   intro x hx;rcases aFy.mp hx with e | hx
   ·subst e;exact oN ok (by rw[<-hq.1];exact hq.2.1)
   ·exact ih x hx
 exact all r x hx
theorem GJ(ok:p9 P w H h)(e:H a=some (.dT kvs)):kvs.length<=sizeLine/\(a==sysModules)=false/\
  ∃xs,KT H kvs xs/\h.DictOfH (tupleKind (aR P w)) a xs:=pW ok (.inl e)
end
def ES(H:Hp)(a:Addr)(y:V)(r:Option V):Prop:=
 (∃kvs k,Rd H a (.dK kvs)/\y=kV k/\r=fZ kvs k)\/∃kvs k b,Rd H a (.dT kvs)/\y= .ref b/\H b=some (.tup (k.map kV))/\r=fZ kvs k
def TJ(H:Hp)(a:Addr)(y v:V)(H' :Hp):Prop:=
 (∃kvs k,H a=some (.dK kvs)/\y=kV k/\kvs.length<sizeLine/\H' =upd H a (.dK (putK kvs k v)))\/
 ∃kvs k b,H a=some (.dT kvs)/\y= .ref b/\H b=some (.tup (k.map kV))/\kvs.length<sizeLine/\H' =upd H a (.dT (putK kvs k v))
variable{a:Addr}{kvs:List (Key×V)}
theorem ES.k{k:Key}(e:H a=some (.dK kvs)):ES H a (kV k) (fZ kvs k):= .inl ⟨kvs,k,.inl e,rfl,rfl⟩
theorem TJ.k{k:Key}{v:V}(e:H a=some (.dK kvs))(b:kvs.length<sizeLine):TJ H a (kV k) v (upd H a (.dK (putK kvs k v))):= .inl ⟨kvs,k,e,rfl,b,rfl⟩
section
variable {X:Cx}{pins:List (Addr×Obj)}{σ:St}{H:Hp}{s:Shared}{a:Addr}{y v:V}{u r:Value}{o:Option V}{A:Around}{E:aJo}
theorem Inv.big(I:Inv X pins σ H s):sysModules<s.heap.objs.size:=by
 have h:mainGlobals<s.heap.objs.size:=(I.mod.glob.keeps I.bk).lt;exact aIn (by decide) h
theorem IL{Q:aJo}(r:A.units+1<cLine)(I:Inv X pins σ H s)(g:ES H a y (some v))(n:RelV y u)(h:∀w' q,Inv X pins σ H q ->RelV v w' ->Q w' q):
  wpAny (model X.prog X.w) A (getItem (.ref a) u) Q E s:=by
 rcases g with ⟨kvs,k,e,f,l⟩ | ⟨kvs,k,b,e,f,t,l⟩
 ·subst f;obtain⟨z,hd,vs,c,i⟩:=pX I.bG e;obtain⟨w',j,d⟩:=vC.some_of (v:=v) (o:=valueAt vs k) (by rw[l];exact c.val k);exact wpAny_getItem_of (oB n) i.mapOf j (h w' _ (I.tok _) d)
 ·subst f;cases (show u=Value.ref b from n);obtain⟨z,hd,xs,c,i⟩:=pW I.bG e;obtain⟨w',j,d⟩:=vC.some_of (v:=v) (o:=(atKey xs k).map (·.2)) (by rw[l];exact c.val k);obtain⟨p,x,m⟩:=aFw.mp j;refine wpAny_getItem_heap (aH4 r) (oN I.bG t) i x ?_;rw[m];exact h w' _ (I.tok _) d
theorem aFd{Q:aJo}(m:A.units+1<cLine)(I:Inv X pins σ H s)(g:ES H a y o)(i:RelV y u)(h:∀j,Inv X pins σ H j ->Q (.bool o.isSome) j):
  wpAny (model X.prog X.w) A (compareOp .In u (.ref a)) Q E s:=by
 rcases g with ⟨kvs,k,e,d,l⟩ | ⟨kvs,k,b,e,d,n,l⟩
 ·subst d;obtain⟨z,hd,vs,c,f⟩:=pX I.bG e;refine wpAny_in_of (oB i) hd f.mapOf ?_;rw[<-(c.val k).eA,<-l];exact h _ (I.tok _)
 ·subst d;cases (show u=Value.ref b from i);obtain⟨z,hd,xs,c,f⟩:=pW I.bG e;refine wpAny_in_heap (aH4 m) (oN I.bG n) hd f ?_;have q:=(c.val k).eA;rw[Option.isSome_map]at q;rw[<-q,<-l];exact h _ (I.tok _)
theorem SQ{Q:aJo}(m:A.units+1<cLine)(I:Inv X pins σ H s)(g:ES H a y o)(i:RelV y u)(h:∀j,Inv X pins σ H j ->Q (.bool (!o.isSome)) j):
  wpAny (model X.prog X.w) A (compareOp .NotIn u (.ref a)) Q E s:=by
 rcases g with ⟨kvs,k,e,d,l⟩ | ⟨kvs,k,b,e,d,n,l⟩
 ·subst d;obtain⟨z,hd,vs,c,f⟩:=pX I.bG e;refine wpAny_notIn_of (oB i) hd f.mapOf ?_;rw[<-(c.val k).eA,<-l];exact h _ (I.tok _)
 ·subst d;cases (show u=Value.ref b from i);obtain⟨z,hd,xs,c,f⟩:=pW I.bG e;refine wpAny_notIn_heap (aH4 m) (oN I.bG n) hd f ?_;have q:=(c.val k).eA;rw[Option.isSome_map]at q;rw[<-q,<-l];exact h _ (I.tok _)
theorem i6{h' :Heap}{t' :Nat}{ob:HO}(I:Inv X pins σ H s)(c:EN (H a))(d:Heap.SameBut a s.heap h')(he:∃q,h'.get? a=some q)(new:cA X.prog X.w (upd H a ob) h' a ob):
  Inv X pins σ (upd H a ob) {s with heap:=h',toks:=t'}:=
 I.write (x:=a) (e:=a) c (.inl rfl) (λb q f z=>(d.2 b f).trans z) he new
theorem zI{H' :Hp}{h' :Heap}{vs:List (Key×Value)}(z:kvs.length<=sizeLine)(hd:(a==sysModules)=false)(b:KV kvs vs)(c:h'.DictOf (aR P w) a vs):
  cA P w H' h' a (.dK kvs):=⟨z,hd,vs,b,c⟩
theorem IJ{H' :Hp}{Q:Unit->Shared->Prop}(F:A.units+1<cLine)(I:Inv X pins σ H s)(g:TJ H a y v H')(t:RelV y u)(x:RelV v r)(h:∀B,Inv X pins σ H' B ->Q () B):
  wpAny (model X.prog X.w) A (setItem (.ref a) u r) Q E s:=by
 rcases g with ⟨kvs,k,e,j,l,m⟩ | ⟨kvs,k,b,e,j,C,l,m⟩
 ·subst j m;obtain⟨z,hd,vs,d,n⟩:=B2 I.bG e;have hz:vs.length<=sizeLine:=by rw[<-d.length];exact z
  have o:(putK kvs k v).length<=sizeLine:=by have:=fU kvs k v;lia
  refine wpAny_setItem_pairs (hsz:=hz) (oB t) n λh' f p=>h _ ?_;have he:∃q,h'.get? a=some q:=let ⟨q,_,_,i,_⟩:=f;⟨q,i⟩;exact i6 I (by rw[e];exact True.intro) p he (zI o hd (d.put k x) f)
 ·subst j m;cases (show u=Value.ref b from t);obtain⟨z,hd,xs,d,n⟩:=GJ I.bG e;have hz:xs.length<=sizeLine:=by rw[<-Paired.length d];exact z
  have o:(putK kvs k v).length<=sizeLine:=by have:=fU kvs k v;lia
  refine wpAny_setItem_heap (hsz:=hz) (aH4 F) (oN I.bG C) n λh' f p=>h _ ?_;obtain⟨q,es,ep,i,G,J,K,_,L⟩:=f;refine i6 I (by rw[e];exact True.intro) p ⟨q,i⟩ ⟨o,hd,_,(d.put k C x).keeps λc M D=>?_,q,es,ep,i,G,J,K,L⟩;rw[aK (LB D e (λz=>nomatch z))];exact D
end
section
variable {X:Cx}{pins:List (Addr×Obj)}{σ:St}{H:Hp}{s:Shared}{a:Addr}{kvs:List (Key×V)}{k:Key}{u:Value}{A:Around}{E:aJo}
theorem IM{Q:Unit->Shared->Prop}(I:Inv X pins σ H s)(e:H a=some (.dK kvs))(g:RelV (kV k) u)(l:(fZ kvs k).isSome=true)(h:∀f,Inv X pins σ (upd H a (.dK (gP kvs k))) f ->Q () f):
  wpAny (model X.prog X.w) A (delItem (.ref a) u) Q E s:=by
 obtain⟨z,hd,vs,b,d⟩:=B2 I.bG e
 refine wpAny_delItem_slot d.typeIs (by decide) PySem.F.slot_dict_delitem
  (call_meetsIn PySem.F.slot_dict_delitem d.typeIs PySem.F.entry_dict_delitem (PySem.F.args_dict_delitem_2 _ _) (meets_dict_delitem_pairs (aR X.prog X.w) a (oB g)) ⟨vs,d,by rw[<-b.length];exact z,by rw[<-(b.val k).eA];exact l,λh' c i=>h _ ?_⟩)
 have he:∃q,h'.get? a=some q:=let ⟨q,_,_,hq,_⟩:=c;⟨q,hq⟩;exact i6 I (by rw[e];exact True.intro) i he (zI (aG2 (NJ kvs k) z) hd (b.drop k) c)
end
variable{pins:List (Addr×Obj)}
theorem B4{X:Cx}{σ:St}{s:Shared}{y:V}{o:Option V}(I:Inv X pins σ H s)(g:ES H a y o):s.TypeIs (.ref a) "dict":=by
 rcases g with ⟨kvs,k,e,_,_⟩ | ⟨kvs,k,b,e,_,_,_⟩
 ·obtain⟨_,_,vs,_,c⟩:=pX I.bG e;exact c.typeIs
 ·obtain⟨_,_,xs,_,c⟩:=pW I.bG e;exact c.typeIs
def aA8(c ty tv:TE):TS:=λD σ H=>tv σ H λv d=>c σ d λx e=>ty σ e λy f=>∃a b,x= .ref a/\TJ f a y v b/\D.nx σ b
def aA9(c ty:TE):TS:=λD σ H=>c σ H λx d=>ty σ d λy b=>∃a kvs k,x= .ref a/\b a=some (.dK kvs)/\y=kV k/\(fZ kvs k).isSome=true/\D.nx σ (upd b a (.dK (gP kvs k)))
section
variable {X:Cx}{o i e value:Expr}{pos pos' jX:Pos}{td ty tv:TE}
theorem QC(b:X.A.units+1<cLine)(ho:PE X o td)(hi:PE X i ty)(hv:PE X value tv)(c:swapsWith value (some (.Subscript o i pos')) pos.line X.env=pure false):
  PS X (.Assign [.Subscript o i pos'] value pos) (aA8 td ty tv):=by
 intro pins s σ H D I h;refine wpAny_Assign_Subscript (bV (hv pins s σ H _ I h) λr s1 ⟨v,d,e,f,q1⟩=>bV (ho pins s1 σ d _ e q1) λu s2 ⟨x,j,k,l,q2⟩=>bV (hi pins s2 σ j _ k q2) λt w ⟨y,z,m,n,a,p,ex,g,q3⟩=>?_) c;subst ex;obtain rfl:u=Value.ref a:=l
 exact IJ b m g n f λB q=>⟨σ,p,q,q3⟩
theorem QD(ho:PE X o td)(hi:PE X i ty):PS X (.Delete [.Subscript o i jX] pos) (aA9 td ty):=by
 intro pins s σ H D I h;refine wpAny_Delete (wpAny_deleteEach_cons (wpAny_delete_Subscript (bV (ho pins s σ H _ I h) λu s1 ⟨x,c,d,f,q1⟩=>bV (hi pins s1 σ c _ d q1) λp s2 b=>?_)));obtain⟨y,q,g,j,a,kvs,k,ex,e,m,l,q2⟩:=b;subst ex m;obtain rfl:u=Value.ref a:=f;exact IM g e j l λr n=>wpAny_deleteEach_nil ⟨σ,_,n,q2⟩
end
theorem B3(h:Heap)(a:sysModules<h.objs.size):cA P w H (h.push {cls:= .type "dict",data:= .dict #[]}) h.objs.size (.dK []):=
 ⟨aGm _,aI7.mpr (aGd (aFz a)),[],.nil,Heap.DictOf.new h⟩
theorem B0(h:Heap)(a:sysModules<h.objs.size):cA P w H (h.push {cls:= .type "dict",data:= .dict #[]}) h.objs.size (.dT []):=
 ⟨aGm _,aI7.mpr (aGd (aFz a)),[],.nil,_,#[],0,aFs _ rfl,⟨rfl,rfl,rfl⟩,rfl,rfl,List.nodup_nil⟩
def UZ:TE:=λ_ H Q=>∀p,H p=none->Q (.ref p) (upd H p (.dK []))
def UY:TE:=λ_ H Q=>∀p,H p=none->Q (.ref p) (upd H p (.dT []))
section
variable {X:Cx}{pos:Pos}
theorem K1:PE X (.Dict [] [] pos) UZ:=λpins s σ H Q I h=>
 wpAny_Dict_empty ⟨.ref s.heap.objs.size,_,I.laid (a:=s.heap.objs.size) (o:= .dK []) (t' :=s.toks) (λ_ _ q=>aFn _ q) (aFq _) (B3 s.heap I.big),rfl,h _ (I.bG.fresh (aFq _))⟩
theorem K0:PE X (.Dict [] [] pos) UY:=λpins s σ H Q I h=>
 wpAny_Dict_empty ⟨.ref s.heap.objs.size,_,I.laid (a:=s.heap.objs.size) (o:= .dT []) (t' :=s.toks) (λ_ _ q=>aFn _ q) (aFq _) (B0 s.heap I.big),rfl,h _ (I.bG.fresh (aFq _))⟩
end
def JR:List (TE×TE)->St->Hp->(List (V×V)->Hp->Prop)->Prop
 | [],_,H,Q=>Q [] H
 | (tk,tv)::r,σ,H,Q=>tk σ H λx a=>tv σ a λy b=>JR r σ b λps c=>Q ((x,y)::ps) c
abbrev VV:List (V×V)->List (Value×Value)->Prop:=Paired λp q=>RelV p.1 q.1/\RelV p.2 q.2
def PPs(X:Cx)(pos:Pos)(keys:List (Option Expr))(a:List Expr)(b:List (TE×TE)):Prop:=
 ∀(pins:List (Addr×Obj)) (s:Shared) (σ:St) (H:Hp) (Q:List (V×V)->Hp->Prop),Inv X pins σ H s->JR b σ H Q->
  wpAny (model X.prog X.w) X.A (evalPairs (pairTrees keys a X.env pos)) (λvs c =>∃ps H',Inv X pins σ H' c /\VV ps vs/\Q ps H') X.xe s
theorem QE{X:Cx}{pos:Pos}:PPs X pos [] [] []:=λpins s σ H Q I h=>pairTrees_nil_walk ⟨[],H,I,.nil,h⟩
theorem KR{X:Cx}{pos:Pos}{k v:Expr}{ks:List (Option Expr)}{vs:List Expr}{tk tv:TE}{a:List (TE×TE)}(hk:PE X k tk)(hv:PE X v tv)(d:PPs X pos ks vs a):
  PPs X pos (some k::ks) (v::vs) ((tk,tv)::a):=λpins s σ H Q I h=>
 pairTrees_cons_walk (bV (hk pins s σ H _ I h) λu s1 ⟨x,e,f,g,q1⟩=>bV (hv pins s1 σ e _ f q1) λo s2 ⟨y,i,j,l,q2⟩=>
  bV (d pins s2 σ i _ j q2) λp q b=>by obtain⟨ps,m,n,c,q3⟩:=b;exact⟨(x,y)::ps,m,n,.cons ⟨g,l⟩ c,q3⟩)
structure M2(X:Cx)(o:Expr)(m:Str)(apos:Pos)(e f:Expr)(cZ:Pos):Prop where
 base:attributeBase o m X.env (eval o X.env)=eval o X.env
 SG:((backTo cZ (starEach [e,f] X.env)).all (λx=>!x.1) && (backToKw cZ (keywordEach [] X.env)).all (λx=>x.1.isSome)
  && decide (([e,f]:List Expr).length+([]:List Keyword).length+(if ([]:List Keyword).isEmpty then 0 else 1)<30))=true
 line:(apos.endLine==cZ.line)=true
 trees:backTo cZ (starEach [e,f] X.env)=[(false,eval e X.env),(false,eval f X.env)]
def IsD(H:Hp)(a:Addr):Prop:=(∃kvs,Rd H a (.dK kvs))\/∃kvs,Rd H a (.dT kvs)
theorem MR{X:Cx}{σ:St}{s:Shared}(I:Inv X pins σ H s)(d:IsD H a):
  s.TypeIs (.ref a) "dict"/\(∀b,Value.ref a= .ref b->∃ob,s.heap.get? b=some ob/\ob.dict=none)/\(a==sysModules)=false:=by
 rcases d with ⟨kvs,e⟩ | ⟨kvs,e⟩
 ·obtain⟨_,hd,vs,_,c⟩:=pX I.bG e;refine⟨c.typeIs,λb q=>?_,hd⟩;cases q;obtain⟨ob,_,_,f,g,_⟩:=c;exact⟨ob,f,g.2.1⟩
 ·obtain⟨_,hd,xs,_,c⟩:=pW I.bG e;refine⟨c.typeIs,λb q=>?_,hd⟩;cases q;obtain⟨ob,_,_,f,g,_⟩:=c;exact⟨ob,f,g.2.1⟩
end L2
namespace ST
open PySem PySem.SetTable
def EM(xs:Array Nat):Prop:=xs.toList.Pairwise (· < ·)
variable{xs:Array Nat}{i j:Nat}
theorem C9(h:EM xs)(hi:i<j)(a:j<xs.size):xs[i]'(by lia)<xs[j]:=by
 have:=aI4.mp h i j (by simp;lia) (by simpa using a) hi;simpa using this
theorem KD(h:EM xs)(hi:i<=j)(a:j<xs.size):xs[i]'(by lia)<=xs[j]:=by
 rcases aJb hi with z | z
 ·exact aGs (C9 h z a)
 ·subst z;exact aFq _
theorem zF(xs:Array Nat)(j:Nat)(h:EM xs):∀(fuel lo hi:Nat),hi-lo<=fuel->lo<=hi->hi<=xs.size->(∀k (hk:k<xs.size),k<lo->xs[k]<j)->(∀k (hk:k<xs.size),hi<=k->j<=xs[k])->
  (below.go xs j fuel lo hi<=xs.size)/\(∀k (hk:k<xs.size),k<below.go xs j fuel lo hi->xs[k]<j)/\(∀k (hk:k<xs.size),below.go xs j fuel lo hi<=k->j<=xs[k])
 | 0,lo,hi,h1,h2,h3,a,b=>by
  have:lo=hi:=by lia
  subst this;exact⟨h3,a,b⟩
 | fuel+1,lo,hi,h1,h2,h3,a,b=>by
  unfold below.go;by_cases e:lo<hi
  ·rw[if_pos e];have f:(lo+hi) / 2<xs.size:=by lia
   have g:xs.getD ((lo+hi) / 2) j=xs[(lo+hi) / 2]:=by simp[Array.getD,f]
   simp only[g];by_cases d:xs[(lo+hi) / 2]<j
   ·rw[if_pos d];exact zF xs j h fuel _ _ (by lia) (by lia) h3 (λk hk c=>Nat.lt_of_le_of_lt (KD h (by lia) f) d) b
   ·rw[if_neg d];exact zF xs j h fuel _ _ (by lia) (by lia) (by lia) a (λk hk c=>aG2 (aIu d) (KD h c hk))
  ·rw[if_neg e];have:lo=hi:=by lia
   subst this;exact⟨h3,a,b⟩
theorem kW(j:Nat)(h:EM xs):(below xs j<=xs.size)/\(∀k (hk:k<xs.size),k<below xs j->xs[k]<j)/\(∀k (hk:k<xs.size),below xs j<=k->j<=xs[k]):=
 zF xs j h xs.size 0 xs.size (by lia) (by lia) (aFq _) (λk hk z=>by lia) (λk hk z=>by lia)
theorem EC(h:EM xs):below xs 0=0:=by
 obtain⟨a,b,_⟩:=kW 0 h;apply aGc;intro z;have:=b 0 (by lia) (by lia)
 lia
theorem EE(h:EM xs)(hi:i<xs.size):below xs (xs[i]+1)=i+1:=by
 obtain⟨a,b,c⟩:=kW (xs[i]+1) h
 have e:i<below xs (xs[i]+1):=by
  apply aGc;intro z;have:=c i hi (by lia)
  lia
 apply aGc;intro z;have d:i+1<below xs (xs[i]+1):=by lia
 have f:=b (i+1) (by lia) d;have g:=C9 (i:=i) (j:=i+1) h (by lia) (by lia)
 lia
theorem Q3(h:EM xs)(f:xs[below xs j]? ≠some j):j∉xs.toList:=by
 intro g;obtain⟨k,hk,e⟩:=aI1.mp g;have d :k<xs.size:=by simpa using hk
 have i :xs[k]=j:=by simpa using e
 obtain⟨a,b,c⟩:=kW j h
 have l:below xs j<=k:=by
  apply aGc;intro z;have:=b k d (by lia)
  lia
 rcases aJb l with z | z
 ·have:=C9 h z d;have:=c _ (by lia) (aFq _)
  lia
 ·apply f;rw[z];simp[d,i]
theorem BS{α:Type}(xs:Array α)(p:Nat)(x:α)(a:p<=xs.size):(insertAt xs p x).toList=xs.toList.take p++x::xs.toList.drop p:=by
 unfold insertAt;simp[Array.toList_extract];rw[List.take_of_length_le (by simp)]
theorem DA(h:EM xs)(i:j∉xs.toList):EM (insertAt xs (below xs j) j):=by
 obtain⟨a,b,c⟩:=kW j h;unfold EM;rw[BS _ _ _ a,List.pairwise_append];refine⟨h.sublist (aHm _ _),?_,?_⟩
 ·rw[List.pairwise_cons];refine⟨λy f=>?_,h.sublist (List.drop_sublist _ _)⟩;obtain⟨k,hk,e⟩:=aI1.mp f;have d:below xs j+k<xs.size:=by simp at hk;lia
  have l:xs[below xs j+k]=y:=by simpa using e
  have:=c _ d (by lia);rcases aJb this with z | z
  ·lia
  ·exfalso;apply i;rw[z];simp
 ·intro x n y f;obtain⟨k,hk,e⟩:=aI1.mp n;have d:k<below xs j/\k<xs.size:=by simp at hk;lia
  have l:xs[k]=x:=by simpa using e
  have q:=b k d.2 d.1;rcases aFy.mp f with z | z
  ·lia
  ·obtain⟨m,o,p⟩:=aI1.mp z;have g:below xs j+m<xs.size:=by simp at o;lia
   have r:xs[below xs j+m]=y:=by simpa using p
   have:=c _ g (by lia)
   lia
theorem G6(n:Nat):EM (Array.range n):=by
 unfold EM;rw[Array.toList_range];exact aHt
structure qW(l:Bool)(t:SetTable):Prop where
 ris:EM t.place
 led:t.led=l
variable{l:Bool}{t:SetTable}
theorem qW.plain(h:qW l t)(b:Bool):qW l {t with plain:=b}:=⟨h.ris,h.led⟩
theorem qW.fresh(f m:Nat)(l:Bool):qW l (.fresh f m l):=⟨by unfold EM SetTable.fresh;simp,rfl⟩
theorem qW.FG(h:qW l t)(n:Nat):qW l (t.standIn n):=⟨G6 n,h.led⟩
theorem qW.QS(h:qW l t)(n:Nat):qW l (t.orStandIn n):=by
 unfold SetTable.orStandIn;split
 ·exact h
 ·exact h.FG n
def TL(t:SetTable)(j:Nat):Prop:=∀i,t.slot j≠ .live i
theorem tT{t:SetTable}(x:Int):∀(fuel:Nat) (p:Probe) (j:Nat) (d:Option Nat),(∀d,p.dummy=some d->TL t d)->probe.go t (λ_=>x+1) x fuel p=some (.empty j d)->TL t (d.getD j)
 | 0,p,j,d,_,e=>by simp[probe.go]at e
 | fuel+1,p,j,d,hp,e=>by
  unfold probe.go at e;have a:∀q:Probe,(t.advance q).dummy=q.dummy:=λq=>by unfold SetTable.advance;split <;> rfl
  cases hs:t.slot p.j with
  | empty=>
   rw[hs]at e;simp at e;obtain⟨rfl,rfl⟩:=e
   cases hd:p.dummy with
   | none=>intro i;simp[hs]
   | some d=>exact hp d hd
  | dummy=>
   rw[hs]at e;exact tT x fuel _ j d (λd h=>by rw[a]at h;cases h;intro i;simp[hs]) e
  | live i=>
   rw[hs]at e;have:(x+1==x)=false:=by simp;lia
   simp only[this]at e;exact tT x fuel _ j d (λd h=>hp d (by rw[a]at h;exact h)) e
theorem ID{x:Int}{b:Bool}(e:t.freeSlot x=some (j,b)):TL t j:=by
 unfold SetTable.freeSlot at e
 cases hp:t.probe (λ_=>x+1) x (t.probeStart x) with
 | none=>rw[hp]at e;cases e
 | some m=>
  rw[hp]at e
  cases m with
  | candidate a b c=>cases e
  | empty k d=>
   have f:=tT x _ _ k d (λd h=>by cases h) hp;simp at e;obtain⟨rfl,_⟩:=e;exact f
theorem G0(h:qW l t)(e:TL t j):j∉t.place.toList:=by
 apply Q3 h.ris;intro z;refine e (below t.place j) ?_;unfold SetTable.slot;simp[z]
theorem qW.put(h:qW l t)(a:j∉t.place.toList):qW l (t.put j).1:=by
 unfold SetTable.put;exact⟨DA h.ris a,h.led⟩
theorem qW.lay(h:qW l t)(es:Array (Int×Value))(x:Int)(v:Value):qW l (layNew t es x v).2.1:=by
 unfold layNew
 cases hf:t.freeSlot x with
 | none=>exact h.FG _
 | some p=>
  obtain⟨j,b⟩:=p;have:=h.put (G0 h (ID hf));exact this.QS _
theorem qW.aAb(h:qW l t)(es:Array (Int×Value))(n:Nat):qW l (relayAll t es n).2.1:=by
 unfold relayAll
 cases hr:t.relaid (es.map (·.1)) n with
 | none=>exact h.FG _
 | some p=>
  obtain⟨t',e⟩:=p;simp only;split
  ·unfold SetTable.relaid SetTable.laid at hr
   cases ho:layClean (sizeAbove n-1) (es.map (·.1)) with
   | none=>rw[ho]at hr;cases hr
   | some ow=>
    rw[ho]at hr;simp at hr;obtain⟨rfl,_⟩:=hr;refine⟨?_,h.led⟩;unfold EM;simp only[List.map_filterMap];have:(List.range (sizeAbove n-1+1)).Pairwise (· < ·):=aHt;rw[List.pairwise_filterMap];refine this.imp_of_mem λ{a b} _ _ f x g y i=>?_;simp at g i;obtain⟨c,j,rfl⟩:=g;obtain⟨d,hd,rfl⟩:=i;exact f
  ·exact h.FG _
theorem mM{α d:Type}(f:α->d):∀{l:List d} {m:List d},l.Perm m->∀t:List α,m=t.map f->∃t' :List α,t'.Perm t/\t'.map f=l:=by
 intro l m p
 induction p with
 | nil=>
  intro t e
  cases t with
  | nil=>exact⟨[],.refl _,rfl⟩
  | cons a t=>cases e
 | cons x p ih=>
  intro t e
  cases t with
  | nil=>cases e
  | cons a t=>
   simp at e;obtain⟨t',c,q1⟩:=ih t e.2;exact⟨a::t',c.cons a,by simp[e.1,q1]⟩
 | swap x y l=>
  intro t e
  cases t with
  | nil=>cases e
  | cons a t=>
   cases t with
   | nil=>simp at e
   | cons b t=>
    simp at e;exact⟨b::a::t,.swap a b t,by simp[e]⟩
 | trans c g ih1 ih2=>
  intro t e;obtain⟨h,c,q1⟩:=ih2 t e;obtain⟨i,g,q2⟩:=ih1 h q1.symm;exact⟨i,g.trans c,q2⟩
section
variable {prog:Program}{w:World}{K:Type}[DecidableEq K](knd:KeyKind prog w K)
def Es(es:Array (Int×Value))(ks:List K):Prop:=
 ∃ps:List (K×(Int×Value)),ps.map (·.2)=es.toList/\(ps.map (·.1)).Perm ks/\∀p∈ps,knd.is p.1 p.2.2=true/\p.2.1=knd.hash p.1/\p.2.2.scannable=true
def lQ(l:Bool)(h:Heap)(a:Addr)(ks:List K):Prop:=
 ∃o es ep t,h.get? a=some o/\o.ExactSet/\o.data= .set es ep t/\Es knd es ks/\ks.Nodup/\es.size<scanBound/\t.fits es.size=true/\qW l t
variable {knd}
variable{es es':Array (Int×Value)}{ks:List K}
theorem Es.perm(h:Es knd es ks)(p:es'.toList.Perm es.toList):Es knd es' ks:=by
 obtain⟨ps,c,d,e⟩:=h;obtain⟨a,b,f⟩:=mM (·.2) p ps c.symm;exact⟨a,f,(b.map _).trans d,λp g=>e p (b.mem_iff.mp g)⟩
theorem Es.size(h:Es knd es ks):es.size=ks.length:=by
 obtain⟨ps,c,d,e⟩:=h;have a:=aGx List.length c;have b:=d.length_eq;simp at a b
 lia
theorem Es.elems(h:Es knd es ks):ElemsOf knd es.toList:=by
 obtain⟨ps,d,i,f⟩:=h;intro e he;rw[<-d]at he;obtain⟨p,g,rfl⟩:=aFv.mp he;obtain⟨a,b,c⟩:=f p g;exact⟨⟨p.1,a,b⟩,c⟩
theorem Es.mem(h:Es knd es ks)(k:K):k∈ks↔∃e∈es.toList,knd.is k e.2=true:=by
 obtain⟨ps,c,d,b⟩:=h;rw[<-d.mem_iff,<-c];constructor
 ·intro hk;obtain⟨p,a,rfl⟩:=aFv.mp hk;exact⟨p.2,aFv.mpr ⟨p,a,rfl⟩,(b p a).1⟩
 ·rintro⟨e,he,hk⟩;obtain⟨p,a,rfl⟩:=aFv.mp he;exact aFv.mpr ⟨p,a,knd.inj _ _ _ (b p a).1 hk⟩
theorem Es.push(h:Es knd es ks){k:K}{x:Value}(hk:knd.is k x=true)(a:x.scannable=true):Es knd (es.push (knd.hash k,x)) (ks++[k]):=by
 obtain⟨ps,b,c,d⟩:=h;refine⟨ps++[(k,(knd.hash k,x))],by simp[b],by simpa using c.append_right [k],λp hp=>?_⟩;rcases aG5.mp hp with hp | hp
 ·exact d p hp
 ·simp at hp;subst hp;exact⟨hk,rfl,a⟩
variable{a:Addr}
theorem lQ.typeIs{s:Shared}(h:lQ knd l s.heap a ks):s.TypeIs (.ref a) "set":=let ⟨o,_,_,_,ho,hx,_⟩:=h;⟨o,ho,hx.1⟩
theorem lQ.keep{h h' :Heap}(x:lQ knd l h a ks)(k:∀o,h.get? a=some o->h'.get? a=some o):lQ knd l h' a ks:=let ⟨o,es,ep,t,ho,r⟩:=x;⟨o,es,ep,t,k o ho,r⟩
theorem store{h:Heap}{o:Obj}{ep:Nat}(ho:h.get? a=some o)(hex:o.ExactSet)(hd:o.data= .set es ep t)
   {t' :SetTable}  (he:Es knd es' ks) (nd:ks.Nodup) (b:es'.size<scanBound) (c:t'.fits es'.size=true) (ht:qW l t'):
  (h.update a (Obj.putSet es' t')).get? a=some {o with data:= .set es' (ep+1) t'}/\lQ knd l (h.update a (Obj.putSet es' t')) a ks:=by
 have hg:(h.update a (Obj.putSet es' t')).get? a=some {o with data:= .set es' (ep+1) t'}:=by
  have:=aGv (Obj.putSet es' t') ho (by rw[putSet_of es' t' hd];rfl);rw[putSet_of es' t' hd]at this;exact this
 exact⟨hg,_,es',ep+1,t',hg,hex,rfl,he,nd,b,c,ht⟩
variable {A:Around}{E:aJo}{s:Shared}
theorem GQ{g:Bool->Sem Unit}(hg:∀(b:Bool) (f:Shared) (B :Unit->Shared->Prop),B () f->wpAny (model prog w) A (g b) B E f)
   {o:Obj}  {ep:Nat}  (ho:s.heap.get? a=some o) (hex:o.ExactSet) (hd:o.data= .set es ep t)
  {c:Array (Int×Value)} {e:SetTable}  (he:Es knd c ks) (nd:ks.Nodup)
  (j:c.size<scanBound) (u:e.fits c.size=true) (ht:qW l e) {d:Bool} {R:Option Bool->Shared->Prop}
  (h:∀h',Heap.SameBut a s.heap h' ->lQ knd l h' a ks->R (some true) {s with heap:=h'}):
  wpAny (model prog w) A (do
    storeSet a c e
    if (!d && e.tooFull)=true then do
      g (relayAll e c (SetTable.grown c.size)).2.2
      storeSet a (relayAll e c (SetTable.grown c.size)).1 (relayAll e c (SetTable.grown c.size)).2.1
      pure (some true)
     else pure (some true)) R E s:=by
 refine aFm (wpAny_storeSet_of ho hd ?_ (fits_of_scanBound j));obtain⟨n,v⟩:=store (knd:=knd) ho hex hd he nd j u ht;have i:=aGg s.heap a (Obj.putSet c e);split
 ·have r:=relayAll_perm e c (SetTable.grown c.size);have k:=relayAll_fits e c (SetTable.grown c.size);have m:=ht.aAb c (SetTable.grown c.size);generalize C:relayAll e c (SetTable.grown c.size)=Rl at r k m⊢;obtain⟨p,D,x⟩:=Rl;dsimp only at r k m⊢;have y:=he.perm r;have hsz:p.size=c.size:=by rw[<-Array.length_toList,r.length_eq,Array.length_toList]
  have q:p.size<scanBound:=by rw[hsz];exact j
  refine aFm (hg _ _ _ ?_);refine aFm (wpAny_storeSet_of n rfl ?_ (fits_of_scanBound q));obtain⟨_,z⟩:=store (knd:=knd) n hex rfl y nd q k m;exact aFo (h _ (i.trans (aGg _ a _)) z)
 ·exact aFo (h _ i v)
def m5(ks:List K)(k:K):List K:=if k∈ks then ks else ks++[k]
theorem xX{k:K}{x:Value}{Q:Bool->Shared->Prop}(m:knd.is k x=true)(hsc:x.scannable=true)(P:lQ knd l s.heap a ks)
  (r:ks.length+1<scanBound) (h:∀(b:Bool) h',Heap.SameBut a s.heap h' ->lQ knd l h' a (m5 ks k)->Q b {s with heap:=h'}):
  wpAny (model prog w) A (setAddHashed a x (knd.hash k)) Q E s:=by
 obtain⟨o,es,ep,t,ho,hex,hd,he,nd,B,I,ht⟩:=P;have R:=he.size;have C:=he.elems;have n:=he.mem;have J:es.size+1<scanBound:=by rw[R];exact r
 unfold setAddHashed setAddHashedIn;refine aGf (aFm (aHn ho hd I ?_));dsimp only;rw[byScan_of hsc B C];simp only[↓reduceIte];unfold setAddByScan;refine aFm ?_;refine aFm (aGt ?_);refine aFm (wpAny_setScan_of m ho hd I C ?_)
 cases hr:List.findIdx? (λe=>knd.is k e.2) es.toList with
 | some j=>
  dsimp only;obtain⟨S,M,_⟩:=List.findIdx?_eq_some_iff_getElem.mp hr;have i:k∈ks:=(n k).mpr ⟨es.toList[j],aJj S,M⟩;refine aFo (aFo ?_);have e:s={s with heap:=s.heap}:=by cases s;rfl
  have:=h false s.heap (Heap.SameBut.refl a s.heap) ⟨o,es,ep,t,ho,hex,hd,by unfold m5;rw[if_pos i];exact he,by unfold m5;rw[if_pos i];exact nd,B,I,ht⟩;rw[e];exact this
 | none=>
  dsimp only
  have i:k∉ks:=λhk=>by
   obtain⟨e,he,T⟩:=(n k).mp hk;have:=List.findIdx?_eq_none_iff.mp hr e he;rw[T]at this;exact Bool.noConfusion this
  have N:∀(b:Bool) {f:Shared} {D :Unit->Shared->Prop},D () f->wpAny (model prog w) A (match b with | true=>rule "set.scan.the-table-gave-way" | false=>pure ()) D E f:=
   λb f D p=>by cases b <;> first | exact aFo p | exact aGt p
  have d:=layNew_perm t es (knd.hash k) x;have c:=layNew_fits t es (knd.hash k) x;have g:=ht.lay es (knd.hash k) x;generalize V:layNew t es (knd.hash k) x=L at d c g⊢;obtain⟨F,W,y,O⟩:=L;dsimp only at d c g⊢;have G:Es knd F (m5 ks k):=by unfold m5;rw[if_neg i];exact(he.push m hsc).perm d
  have H:(m5 ks k).Nodup:=by
   unfold m5;rw[if_neg i,List.nodup_append];exact⟨nd,by simp,λa U b B=>by simp at B;subst B;exact λz=>i (z▸U)⟩
  have q :F.size<scanBound:=by rw[<-Array.length_toList,d.length_eq,Array.length_toList,Array.size_push];exact J
  refine aFm (N _ ?_);split
  ·refine aFm ?_;rw[hashByValue_scannable 8 hsc];refine aFo ?_;refine GQ (l:=l) ?_ ho hex hd G H q ?_ ?_ ?_
   ·intro b f D p;cases b <;> first | exact aFo p | exact aGt p
   ·split
    ·exact c
    ·exact SetTable.fits_plain_off c
   ·split
    ·exact g
    ·exact g.plain false
   ·intro h' u v;dsimp only;exact aFo (h _ h' u v)
  ·refine aFm (aFo ?_);simp only[↓reduceIte];refine GQ (l:=l) ?_ ho hex hd G H q c g ?_
   ·intro b f D p;cases b <;> first | exact aFo p | exact aGt p
   ·intro h' u v;dsimp only;exact aFo (h _ h' u v)
end
open PySem.Spec
def eP(w:World):Bool:= !(w.params.followText "set-order")
section
variable {prog:Program}{w:World}{K:Type}[DecidableEq K]{knd:KeyKind prog w K}{A:Around}{E:aJo}{s:Shared}
theorem uK{h:Heap}{a:Addr}(ho:h.get? a=some {cls:= .type "set",dict:=none,data:= .set #[] 0 (.fresh 0 0 (eP w))}):lQ knd (eP w) h a []:=
 ⟨_,#[],0,_,ho,⟨rfl,rfl,rfl⟩,rfl,⟨[],rfl,by simp,λp b=>by cases b⟩,by simp,by decide,by rfl,.fresh 0 0 _⟩
def bL(ks:List K)(xs:List K):List K:=xs.foldl m5 ks
theorem N0(ks:List K)(k:K):(m5 ks k).length<=ks.length+1:=by unfold m5;split <;> simp
theorem kX:∀(xs ks:List K),(bL ks xs).length<=ks.length+xs.length
 | [],ks=>by simp[bL]
 | x::xs,ks=>by
  have a:=kX xs (m5 ks x);have b:=N0 ks x;simp only[bL,List.foldl_cons,List.length_cons]at*
  lia
theorem LC{ks:List K}{k j:K}:j∈m5 ks k↔j∈ks\/j=k:=by
 unfold m5;split
 ·rename_i h;exact⟨.inl,λz=>z.elim id λe=>e▸h⟩
 ·simp
theorem kR{j:K}:∀{xs ks:List K},j∈bL ks xs↔j∈ks\/j∈xs
 | [],ks=>by simp[bL]
 | x::xs,ks=>by
  have:=kR (j:=j) (xs:=xs) (ks:=m5 ks x);simp only[bL,List.foldl_cons]at*;rw[this,LC];simp[or_assoc]
theorem K9(a:Value){Q₁:aJo}
  (h:Q₁ (.ref s.heap.objs.size) {s with heap:=s.heap.push {cls:= .type "set",dict:=none,data:= .set #[] 0 (.fresh 0 0 (eP w))}}):
  codeAny (model prog w) A (.call (.builtin "set.__new__") ⟨[.type "set",a],[]⟩) (wants Q₁ E) s:=by
 refine codeAny_of_tree ?_;show wpAny _ A.in1 (do checkBuiltinCall "set.__new__" ⟨[.type "set",a],[]⟩;again (.builtin "set.__new__" ⟨[.type "set",a],[]⟩)) _ _ s;refine aFm (aJ1 (F.newCall_set_1 a) (aFo ⟨aIb F.plain_set_new _,aHd F.entry_set_new ?_⟩));rw[Around.under_plainId F.plain_set_new _];unfold Builtin.«set.__new__» Builtin.Frozenset.newClass;have b:=sub_set_self;obtain⟨c,g,d,tk,os⟩:=s;dsimp only
 wp_walk
 refine aIv (aFo ?_);dsimp only;simp only[newObj];refine aFm (wpAny_alloc (aFo ?_));exact aFo h
end
section
variable {prog:Program}{w:World}{K:Type}[DecidableEq K]{knd:KeyKind prog w K}{A:Around}{R:Result->Shared->Prop}{I:Addr}{fp wr:List Addr}{G:Array GenState->Array GenState->Prop}{n:Nat}{P:Nat->Value->Prop}{St:Nat->Shared->Prop}
theorem rA(W:WalksS prog w A.in1 I fp wr G n P St)(S:Addr)(l:S∉fp)(V:Nat->Heap->Prop)(a:∀i h h',V i h->(∀b o,b∉wr->h.get? b=some o->h'.get? b=some o)->V i h')
  (m:∀i v (s:Shared) (J :aJo) (H :Bool->Shared->Prop),i<n->P i v->V i s.heap->(∀r tk h',s.toks<=tk->Heap.SameBut S s.heap h' ->V (i+1) h' ->H r {s with heap:=h',toks:=tk})->wpAny (model prog w) A.in1 (setAdd S v) H J s):
  ∀(k i:Nat) (s:Shared),n-i=k->i<=n->St i s->V i s.heap->
   (∀c,Moved (S::wr) G s c ->V n c.heap->R (.ok (.ret .none)) c)->
   codeAny (model prog w) A (.builtin "set.update.loop" ⟨[.ref S,.ref I],[]⟩) R s:=by
 have K:S∉wr:=λh=>l (W.sub _ h);have f:∀b∈wr,b∈S::wr:=λb d=>aFt _ d;intro k
 induction k with
 | zero=>
  intro i s hk hi g z B;have C:i=n:=by lia
  subst C;refine aHd aI8 ?_;rw[Around.under_plainId PyProof.Rows.F.plain_set_update_loop _];show wpAny _ A.in1 (pyNext (.ref I) >>=_) _ _ s;refine aFm (W.done s _ _ g λc p=>?_);show wpAny _ A.in1 (ret Value.none) _ _ c;exact aFo (B c (p.mono f) (a _ _ _ z λb o d e=>p.heap b o d e))
 | succ k ih=>
  intro i s hk hi g z B;have j:i<n:=by lia
  refine aHd aI8 ?_;rw[Around.under_plainId PyProof.Rows.F.plain_set_update_loop _];show wpAny _ A.in1 (pyNext (.ref I) >>=_) _ _ s;refine aFm (W.item i s _ _ j g λv c L q p=>?_);show wpAny _ A.in1 (holding [v] (setAdd S v) >>=_) _ _ c;refine aFm (aGf ?_);refine m i v c _ _ j L (a _ _ _ z λb o d e=>p.heap b o d e) λr tk h' t u D=>?_;refine aFo ⟨aIb PyProof.Rows.F.plain_set_update_loop _,ih (i+1) _ (by lia) j (W.frame _ c _ _ q t λb d o e=>?_) D λE x y =>?_⟩
  ·rw[u.2 b (λh:b=S=>l (by rw[<-h];exact d))];exact e
  ·refine B E (Moved.trans W.gtrans ((p.mono f).then_heap t λb o d e=>?_) x) y;rw[u.2 b (λh:b=S=>d (by rw[h];exact List.mem_cons_self))];exact e
end
section
variable {prog:Program}{w:World}{K:Type}[DecidableEq K]{knd:KeyKind prog w K}{A:Around}{E:aJo}{s:Shared}
variable{items:Array Value}
theorem U3{l:Addr}{Q:aJo}
  (hh:A.handled=none) (hl:s.heap.IsList l items\/s.heap.IsTuple l items) (V:Nat->Heap->Prop) (m:∀i h h',V i h->(∀b o,b≠s.heap.objs.size+1->h.get? b=some o->h'.get? b=some o)->V i h')
  (y:∀i v (f :Shared) (M :aJo) (K :Bool->Shared->Prop),items[i]? =some v->V i f.heap->(∀r tk h',f.toks<=tk->Heap.SameBut s.heap.objs.size f.heap h' ->V (i+1) h' ->K r {f with heap:=h',toks:=tk})->wpAny (model prog w) A.in1.in1.in1 (setAdd s.heap.objs.size v) K M f)
  (h0:∀h',h'.get? s.heap.objs.size=some {cls:= .type "set",dict:=none,data:= .set #[] 0 (.fresh 0 0 (eP w))}->(∀b o,s.heap.get? b=some o->h'.get? b=some o)->V 0 h')
  (h:∀(h' :Heap) (tk:Nat),V items.size h' ->
   (∀b o,b<s.heap.objs.size->s.heap.get? b=some o->h'.get? b=some o)->Q (.ref s.heap.objs.size) {s with heap:=h',toks:=tk}):
  wpAny (model prog w) A (call (.type "set") [.ref l]) Q E s:=by
 obtain⟨c,tl,hmro⟩:=aHu.mro;have Y:=aHu.made;have hsub:=aHu.sub;refine wpAny_call (codeAny_of_tree ?_);show wpAny _ _ (callAny (.type "set") _) _ _ _;refine aFo ⟨Code.quiet_builtin _ (by decide+kernel),aHd F.entry_type_call ?_⟩;rw[Around.under_plain (weight_type_call_type "set" [.ref l] []) rfl];have h1:=aHu.notType;have h2:=aHu.canCreate;have hct:=F.typeCall_set_1 (.ref l)
 repeat (any_goals (first | assumption | wp_step))
 refine aHl (K9 (.ref l) (E:=E) (Q₁:=λobj z=>obj= .ref s.heap.objs.size/\z={s with heap:=s.heap.push {cls:= .type "set",dict:=none,data:= .set #[] 0 (.fresh 0 0 (eP w))}}) ⟨rfl,rfl⟩) λr z Z=>?_
 cases r with
 | error e=>exact Z
 | ok fl=>
  cases fl with
  | ret obj=>
   obtain⟨rfl,rfl⟩:=Z;generalize hled:eP w=led at*;have hS:(s.heap.push {cls:= .type "set",dict:=none,data:= .set #[] 0 (.fresh 0 0 led)}).get? s.heap.objs.size=some {cls:= .type "set",dict:=none,data:= .set #[] 0 (.fresh 0 0 led)}:=aFs _ rfl
   have hT:Shared.TypeIs {s with heap:=s.heap.push {cls:= .type "set",dict:=none,data:= .set #[] 0 (.fresh 0 0 led)}} (.ref s.heap.objs.size) "set":=⟨_,hS,rfl⟩
   have hli:=aHu.init.lookup;have hbi:=aHu.init.bind (.ref s.heap.objs.size)
   repeat (any_goals (first | assumption | wp_step))
   refine aHl (codeAny_call_builtin (R:=wants (λr B=>r= .none/\∃h' tk,B={s with heap:=h',toks:=tk}/\
     V items.size h' /\
     (∀b o,b<s.heap.objs.size->s.heap.get? b=some o->h'.get? b=some o)) E) aHu.init.plain F.entry_set_init (check_set_init_1 hT ?_)) λN B g=>?_
   ·have O:l<s.heap.objs.size:=by rcases hl with ⟨o,e,_⟩ | ⟨o,e,_⟩ <;> exact aFu e
    have P:A.in1.in1.in1.handled=none:=by simp[hh]
    have C:l≠(s.heap.push {cls:= .type "set",dict:=none,data:= .set #[] 0 (.fresh 0 0 led)}).objs.size:=by
     rw[Heap.size_push];exact aFz (aGr O)
    have S:s.heap.objs.size∉[(s.heap.push {cls:= .type "set",dict:=none,data:= .set #[] 0 (.fresh 0 0 led)}).objs.size,l]:=by
     rw[Heap.size_push];simp only[List.mem_cons,List.mem_singleton,List.not_mem_nil,or_false,not_or];exact⟨aFz (aGu _),aGp O⟩
    have hw:∀b,b∉[(s.heap.push {cls:= .type "set",dict:=none,data:= .set #[] 0 (.fresh 0 0 led)}).objs.size]↔b≠s.heap.objs.size+1:=λb=>by rw[Heap.size_push];simp
    have hR:∀(io:Obj) (f :Shared),Moved [s.heap.objs.size,(s.heap.push {cls:= .type "set",dict:=none,data:= .set #[] 0 (.fresh 0 0 led)}).objs.size] (λa b=>b=a) {s with heap:=(s.heap.push {cls:= .type "set",dict:=none,data:= .set #[] 0 (.fresh 0 0 led)}).push io} f ->V items.size f.heap->
      ∃h' tk,f ={s with heap:=h',toks:=tk}/\V items.size h' /\∀b o,b<s.heap.objs.size->s.heap.get? b=some o->h'.get? b=some o:=λio f D hv=>by
     obtain⟨h',g',d',n,os'⟩:=f;have eg:g' =s.gens:=D.gens;have ed:d' =s.drawn:=D.drawn;have eo:os' =s.os:=D.os;subst eg;subst ed;subst eo;refine⟨h',n,rfl,hv,λb o L e=>?_⟩;have hb1:b≠s.heap.objs.size:=aFz L
     have hb2:b≠(s.heap.push {cls:= .type "set",dict:=none,data:= .set #[] 0 (.fresh 0 0 led)}).objs.size:=by
      rw[Heap.size_push];exact aFz (aGr L)
     exact D.heap b o (by simp only[List.mem_cons,List.mem_singleton,List.not_mem_nil,or_false,not_or];exact⟨hb1,hb2⟩) (aFn _ (aFn _ e))
    rcases hl with hl | hl
    ·obtain⟨ol,G,p,T,q⟩:=hl;obtain⟨U,j,H,d⟩:=ol;simp only at p q;subst p;subst q;have t :(s.heap.push {cls:= .type "set",dict:=none,data:= .set #[] 0 (.fresh 0 0 led)}).get? l=some {cls:= .type "list",dict:=j,data:= .seq items T,slots:=d}:=aFn _ G;have W:=F.sub_list_set;have X:=F.sub_list_frozenset;have hne:(Value.type "list"==Value.type "dict")=false:=by decide
     have u:(s.heap.push {cls:= .type "set",dict:=none,data:= .set #[] 0 (.fresh 0 0 led)}).IsList l items:=⟨_,t,rfl,T,rfl⟩
     unfold Builtin.«set.__init__» noKeywords Builtin.Frozenset.updateFrom;generalize I:pyIter=PI
     wp_walk
     subst I;refine aIo u ?_;refine aFm (aJc ?_)
     exact rA ((Walks.list P _ l C items).toS) s.heap.objs.size S V (λi h h' v k=>m i h h' v λb o L e=>k b o ((hw b).mpr L) e) (λi v f M K _ hP hv hq=>y i v f M K hP hv hq) (items.size-0) 0 _ (by lia) (aGm _)
      ⟨⟨_,aFs _ rfl,rfl,rfl⟩,(u.push _)⟩ (h0 _ (aFn _ hS) λb o e=>aFn _ (aFn _ e)) λf D hv=>by
       obtain⟨h',n,rfl,J,x⟩:=hR _ _ D hv;exact aFo (aFo ⟨rfl,h',n,rfl,J,x⟩)
    ·obtain⟨ol,G,p,T,q⟩:=hl;obtain⟨U,j,H,d⟩:=ol;simp only at p q;subst p;subst q;have t :(s.heap.push {cls:= .type "set",dict:=none,data:= .set #[] 0 (.fresh 0 0 led)}).get? l=some {cls:= .type "tuple",dict:=j,data:= .seq items T,slots:=d}:=aFn _ G;have W:isSubtype (.type "tuple") (.type "set")=pure false:=by rw[isSubtype_type];kernel_rfl
     have X:isSubtype (.type "tuple") (.type "frozenset")=pure false:=by rw[isSubtype_type];kernel_rfl
     have hne:(Value.type "tuple"==Value.type "dict")=false:=by decide
     have u:(s.heap.push {cls:= .type "set",dict:=none,data:= .set #[] 0 (.fresh 0 0 led)}).IsTuple l items:=⟨_,t,rfl,T,rfl⟩
     unfold Builtin.«set.__init__» noKeywords Builtin.Frozenset.updateFrom;generalize I:pyIter=PI
     wp_walk
     subst I;refine aJd u ?_;refine aFm (aJc ?_)
     exact rA ((Walks.tuple P _ l C items).toS) s.heap.objs.size S V (λi h h' v k=>m i h h' v λb o L e=>k b o ((hw b).mpr L) e) (λi v f M K _ hP hv hq=>y i v f M K hP hv hq) (items.size-0) 0 _ (by lia) (aGm _)
      ⟨⟨_,aFs _ rfl,rfl,rfl⟩,(u.push _)⟩ (h0 _ (aFn _ hS) λb o e=>aFn _ (aFn _ e)) λf D hv=>by
       obtain⟨h',n,rfl,J,x⟩:=hR _ _ D hv;exact aFo (aFo ⟨rfl,h',n,rfl,J,x⟩)
   ·cases N with
    | error e=>exact g
    | ok fl₂=>
     cases fl₂ with
     | ret r=>
      obtain⟨rfl,h',tk,rfl,hS',x⟩:=g
      repeat (any_goals (first | assumption | wp_step))
      exact h _ _ hS' x
     | _=>exact g.elim
  | _=>exact Z.elim
theorem G1{l:Addr}{xs:List K}{Q:aJo}
  (m:A.handled=none) (n:s.heap.IsList l items) (t:xs.length=items.size) (hi:∀(i:Nat) (v:Value),items[i]? =some v->∃k,xs[i]? =some k/\knd.is k v=true/\v.scannable=true) (p:∀i,(bL [] (xs.take i)).length+1<scanBound)
  (h:∀(h' :Heap) (tk:Nat),lQ knd (eP w) h' s.heap.objs.size (bL [] xs)->
   (∀b o,b<s.heap.objs.size->s.heap.get? b=some o->h'.get? b=some o)->Q (.ref s.heap.objs.size) {s with heap:=h',toks:=tk}):
  wpAny (model prog w) A (call (.type "set") [.ref l]) Q E s:=by
 refine U3 m (.inl n) (λi h=>lQ knd (eP w) h s.heap.objs.size (bL [] (xs.take i))) (λi h h' v k=>v.keep λo e=>k _ o (aFz (aGu _)) e) (λi v d u x r c q=>?_) (λh' e _=>uK e) λh' tk c k=>h h' tk (by rw[List.take_of_length_le (by lia)]at c;exact c) k;obtain⟨key,f,a,hsc⟩:=hi i v r;unfold setAdd;refine aGf (aFm (knd.pyHash (k:=key) a ?_));refine xX (s:={d with toks:=d.toks+1}) a hsc c (p i) λb h' g j=>q b (d.toks+1) h' (aJh _) g ?_;rw[List.take_add_one,f];simpa[bL] using j
theorem set_list{l:Addr}{xs:List K}{Q:aJo}
  (a:A.handled=none) (c:s.heap.IsList l items) (d:xs.length=items.size) (hi:∀(i:Nat) (v:Value),items[i]? =some v->∃k,xs[i]? =some k/\knd.is k v=true/\v.scannable=true) (e:items.size+1<scanBound)
  (h:∀(h' :Heap) (tk:Nat),lQ knd (eP w) h' s.heap.objs.size (bL [] xs)->
   (∀b o,b<s.heap.objs.size->s.heap.get? b=some o->h'.get? b=some o)->Q (.ref s.heap.objs.size) {s with heap:=h',toks:=tk}):
  wpAny (model prog w) A (call (.type "set") [.ref l]) Q E s:=
 G1 a c d hi (λi=>by have:=kX (xs.take i) [];simp at this;lia) h
end
theorem slot_next:Slot "set_iterator" "__next__" "set_iterator.__next__":=
 .of (owner:= "set_iterator") (n:= "__next__") (by rw[typeLookup_type,builtinLookup_eq_fast];kernel_rfl) (by decide+kernel) (by decide+kernel) (by decide+kernel)
  (by first | exact .inl (by decide+kernel) | exact .inr (by decide+kernel)) (by rw[isSubtype_type];kernel_rfl)
theorem wU:Slot "set_iterator" "__iter__" "set_iterator.__iter__":=
 .of (owner:= "set_iterator") (n:= "__iter__") (by rw[typeLookup_type,builtinLookup_eq_fast];kernel_rfl) (by decide+kernel) (by decide+kernel) (by decide+kernel)
  (by first | exact .inl (by decide+kernel) | exact .inr (by decide+kernel)) (by rw[isSubtype_type];kernel_rfl)
theorem entry_next:entryFor table "set_iterator.__next__"=some Builtin.«set_iterator.__next__»:=entryFor_of_tree (by kernel_rfl)
theorem A7:Manifest.owners.lookup (String.ofList "rotareti_tes".toList.reverse)=some Manifest.sig_set_iterator:=by kernel_rfl
theorem args_next(a:Value):argsOk "set_iterator.__next__" ⟨[a],[]⟩:=by
 unfold argsOk;rw[signature?_of (id:= "set_iterator.__next__") (n:= "__txen__".toList) (o:= "rotareti_tes".toList) (by kernel_rfl) A7];kernel_rfl
theorem uP:entryFor table "set.__iter__"=some Builtin.«frozenset.__iter__»:=
 entryFor_alias (id' := "frozenset.__iter__") (by kernel_rfl) rfl (by decide+kernel) (by kernel_rfl)
def mT(first:Value)(i:Nat)(a:Addr)(n ep:Nat):Obj:={cls:= .type "set_iterator",dict:=none,data:= .fields #[first,.int i 0,.ref a,.int n 0,.int ep 0],slots:= #[]}
section
variable {prog:Program}{w:World}{A:Around}{E:aJo}{s:Shared}{it a:Addr}{first:Value}{i ep n:Nat}{o:Obj}{es:Array (Int×Value)}{t:SetTable}
variable{Q:Option Value->Shared->Prop}
theorem K8{slot nx:Nat}{x:Value}(b:s.heap.get? it=some (mT (.int slot 0) i a es.size ep))(ho:s.heap.get? a=some o)(hd:o.data= .set es ep t)(c:t.fits es.size=true)
  (hN:∀(A:Around) (E:aJo) (Q:Option (Value×Nat)->Shared->Prop),Q (some (x,nx)) s->wpAny (model prog w) A (setNext a slot i ep) Q E s)
  (q:∀h',h'.get? it=some (mT (.int nx 0) (i+1) a es.size ep)->Heap.SameBut it s.heap h' ->Q (some x) {s with heap:=h'}):wpAny (model prog w) A (pyNext (.ref it)) Q E s:=by
 have ht:s.TypeIs (.ref it) "set_iterator":=⟨_,b,rfl⟩
 unfold pyNext;refine aFm (aH0 (aG3 (name:=Str.ofString "__next__") ht slot_next (aG1 slot_next ht entry_next ?_ (args_next _))));unfold Builtin.«set_iterator.__next__»;refine aFm (m:=slotArgs "__next__" 0 _) (aFo ?_);refine aFm (aI2 b rfl ?_);dsimp only;refine aFm (aHo ho hd c ?_);rw[if_neg (show ¬(((es.size:Int) !=(es.size:Int))=true) by simp)];simp only[Int.toNat_natCast];refine aFm (hN _ _ _ ?_);dsimp only;refine aFm (aG0 b (by simp) λj d e=>?_);refine aFm (aG0 d (by simp) λf g h=>?_);refine aFo ⟨x,rfl,aFo (q f ?_ (e.trans h))⟩;rw[g];simp[mT,rawInt]
theorem wN{B:Around}(f:B.handled=none)(h:∀h',(∀b u,s.heap.get? b=some u->h'.get? b=some u)->Q none {s with heap:=h'}):
  wpAny (model prog w) B (do let e<-newExc (.type "StopIteration") [];raiseNew e) (λ(c:Fin) d =>∃v,c=Fin.done (Flow.ret v)/\wpAny (model prog w) A (pure (some v)) Q E d)
   (λe d =>wpAny (model prog w) A (do let b<-isInstance e (Value.type "StopIteration");if b=true then pure none else throw e) Q E d) s:=by
 refine aFm ?_;simp only[newExc,newTuple];refine aFm (aG6 ?_ (by size_fits));refine aFm (m:=firstArgMember _ _) (aJ1 (a:=Value.none) (by first | rfl | (simp only[firstArgMember];rfl)) ?_);refine aG6 ?_ (by size_fits);simp only[raiseNew];refine aFm (wpAny_handled ?_);rw[f];refine aFm (aFo (wpAny_throw ?_));refine aFm (aHp (T:= "StopIteration") (b:=true) ⟨_,aFs _ rfl,rfl⟩ aJe ?_);exact aFo (h _ λb u e=>aFn _ (aFn _ e))
theorem yO{slot:Nat}(d:A.handled=none)(c:s.heap.get? it=some (mT (.int slot 0) i a es.size ep))(ho:s.heap.get? a=some o)(hd:o.data= .set es ep t)(f:t.fits es.size=true)
  (hN:∀(A:Around) (E:aJo) (Q:Option (Value×Nat)->Shared->Prop),Q none s->wpAny (model prog w) A (setNext a slot i ep) Q E s)
  (q:∀h',Heap.ExtBut it s.heap h' ->Q none {s with heap:=h'}):wpAny (model prog w) A (pyNext (.ref it)) Q E s:=by
 have ht:s.TypeIs (.ref it) "set_iterator":=⟨_,c,rfl⟩
 unfold pyNext;refine aFm (aH0 (aG3 (name:=Str.ofString "__next__") ht slot_next (aG1 slot_next ht entry_next ?_ (args_next _))));unfold Builtin.«set_iterator.__next__»;refine aFm (m:=slotArgs "__next__" 0 _) (aFo ?_);refine aFm (aI2 c rfl ?_);dsimp only;refine aFm (aHo ho hd f ?_);rw[if_neg (show ¬(((es.size:Int) !=(es.size:Int))=true) by simp)];simp only[Int.toNat_natCast];refine aFm (hN _ _ _ ?_);dsimp only;refine aFm (aG0 c (by simp) λg l h=>?_);exact wN (B:=A.in1) (s:={s with heap:=g}) (show A.in1.handled=none from d) λh' k=>q h' λb u j e=>k b u ((h.2 b j).trans e)
theorem K7{tp:Addr}{d:Nat}{ns:List Nat}{x:Value}(b:s.heap.get? it=some (mT (.ref tp) i a es.size ep))(ho:s.heap.get? a=some o)(hd:o.data= .set es ep t)(l:t.fits es.size=true)
  (e:s.heap.IsTuple tp (ns.map λ(k:Nat)=>rawInt k).toArray) (f:ns[i]? =some d) (n:(es[d]?).map (·.2)=some x)
  (q:∀h',h'.get? it=some (mT (.ref tp) (i+1) a es.size ep)->Heap.SameBut it s.heap h' ->Q (some x) {s with heap:=h'}):wpAny (model prog w) A (pyNext (.ref it)) Q E s:=by
 have ht:s.TypeIs (.ref it) "set_iterator":=⟨_,b,rfl⟩
 obtain⟨B,g,_,C,h⟩:=e;obtain⟨⟨p,r⟩,j,c⟩:=aFw.mp n;simp only at c;subst c;unfold pyNext;refine aFm (aH0 (aG3 (name:=Str.ofString "__next__") ht slot_next (aG1 slot_next ht entry_next ?_ (args_next _))));unfold Builtin.«set_iterator.__next__»;refine aFm (m:=slotArgs "__next__" 0 _) (aFo ?_);refine aFm (aI2 b rfl ?_);dsimp only;refine aFm (aHo ho hd l ?_);rw[if_neg (show ¬(((es.size:Int) !=(es.size:Int))=true) by simp)];refine aFm (aGq g h ?_);dsimp only;have u:(ns.map λ(k:Nat)=>rawInt k).toArray[(i:Int).toNat]? =some (Value.int d 0):=by simp[f,rawInt]
 rw[u];dsimp only;simp only[Int.toNat_natCast];refine aFm (m:=setNextDrawn a d ep) ?_;unfold setNextDrawn;refine aFm (aHn ho hd l ?_);dsimp only;rw[if_neg (by simp)];rw[j];dsimp only;refine aFo ?_;refine aFm (aG0 b (by simp) λv y z=>?_);refine aFo ⟨r,rfl,aFo (q v ?_ z)⟩;rw[y];simp[mT,rawInt]
theorem yN{tp:Addr}{ns:List Nat}(j:A.handled=none)(c:s.heap.get? it=some (mT (.ref tp) i a es.size ep))(ho:s.heap.get? a=some o)(hd:o.data= .set es ep t)(l:t.fits es.size=true)
  (d:s.heap.IsTuple tp (ns.map λ(k:Nat)=>rawInt k).toArray) (f:ns[i]? =none)
  (q:∀h',Heap.ExtBut it s.heap h' ->Q none {s with heap:=h'}):wpAny (model prog w) A (pyNext (.ref it)) Q E s:=by
 have ht:s.TypeIs (.ref it) "set_iterator":=⟨_,c,rfl⟩
 obtain⟨z,g,_,C,h⟩:=d;unfold pyNext;refine aFm (aH0 (aG3 (name:=Str.ofString "__next__") ht slot_next (aG1 slot_next ht entry_next ?_ (args_next _))));unfold Builtin.«set_iterator.__next__»;refine aFm (m:=slotArgs "__next__" 0 _) (aFo ?_);refine aFm (aI2 c rfl ?_);dsimp only;refine aFm (aHo ho hd l ?_);rw[if_neg (show ¬(((es.size:Int) !=(es.size:Int))=true) by simp)];refine aFm (aGq g h ?_);dsimp only;have n:(ns.map λ(k:Nat)=>rawInt k).toArray[(i:Int).toNat]? =none:=by simpa using f
 rw[n];dsimp only;refine aFm (aG0 c (by simp) λD p r=>?_);refine aFm (aG0 p (by simp) λv F x=>?_);exact wN (B:=A.in1) (s:={s with heap:=v}) (show A.in1.handled=none from j) λh' k=>q h' λb u y e=>k b u (((r.trans x).2 b y).trans e)
end
theorem oP{α:Type}:∀{xs:List α} {i:Nat} (h:i<xs.length),(xs[i]::xs.eraseIdx i).Perm xs
 | x::xs,0,h=>.refl _
 | x::xs,i+1,h=>by
  simp only[List.getElem_cons_succ,List.eraseIdx_cons_succ];exact(List.Perm.swap x _ _).trans ((oP (by simpa using h)).cons x)
section
variable {M:Model}{A:Around}{E:aJo}
theorem xJ{α:Type}:∀(n:Nat) (xs:List α) (s:Shared) (Q:List α->Shared->Prop),xs.length<=n->(∀b d,b.Perm xs->Q b {s with drawn:=d})->wpAny M A (drawOrder n xs) Q E s
 | 0,[],s,Q,_,h=>by unfold drawOrder;exact aFo (h [] s.drawn (.refl _))
 | 0,x::xs,s,Q,hl,h=>by simp at hl
 | n+1,[],s,Q,_,h=>by unfold drawOrder;exact aFo (h [] s.drawn (.refl _))
 | n+1,x::xs,s,Q,hl,h=>by
  unfold drawOrder;refine aFm ?_;have a:0<(x::xs).length:=by simp
  refine(λe p c=>⟨by simp,?_⟩:wpAny M A (choose .order (x::xs).length) _ E s);have hi:M.w.draws .order (s.drawn.get .order) % (x::xs).length<(x::xs).length:=Nat.mod_lt _ a;generalize M.w.draws .order (s.drawn.get .order) % (x::xs).length=i at hi;revert e p c;show wpAny M A _ _ E _;refine aFo ?_;rw[List.getElem?_eq_getElem hi];dsimp only;refine aFm (xJ n ((x::xs).eraseIdx i) _ _ (by rw[List.length_eraseIdx_of_lt hi];simp at hl⊢;lia) λb d f=>aFo (h _ d ?_));exact(f.cons _).trans (oP hi)
end
theorem wZ{α:Type}(next:Nat->Nat):∀(fuel k:Nat) (left:List α) (out:Array α),left.length<=fuel->(pickOrder.go next fuel k left out).toList.Perm (out.toList++left)
 | 0,k,left,out,h=>by
  have:left=[]:=aIi.mp (by lia);subst this;simp[pickOrder.go]
 | fuel+1,k,[],out,h=>by simp[pickOrder.go]
 | fuel+1,k,x::xs,out,h=>by
  unfold pickOrder.go
  have hi:next k % (x::xs).length<(x::xs).length:=Nat.mod_lt _ (by simp)
  rw[List.getElem?_eq_getElem hi];dsimp only
  generalize next k % (x::xs).length=i at hi
  have:=wZ next fuel (k+1) ((x::xs).eraseIdx i) (out.push (x::xs)[i]) (by rw[List.length_eraseIdx_of_lt hi];simp at h⊢;lia)
  refine this.trans ?_;simp only[Array.toList_push,List.append_assoc,List.singleton_append];exact(oP hi).append_left _
theorem tU{α:Type}(next:Nat->Nat)(xs:Array α):(pickOrder next xs).toList.Perm xs.toList:=by
 unfold pickOrder
 have:=wZ next xs.size 0 xs.toList #[] (by simp)
 simpa using this
section
variable {prog:Program}{w:World}{A:Around}{E:aJo}{s:Shared}{a:Addr}{ep:Nat}{o:Obj}{es:Array (Int×Value)}{t:SetTable}
theorem j5{Q:Bool->Shared->Prop}(h:Q (w.params.followText "set-order") s):wpAny (model prog w) A setsByText Q E s:=by
 unfold setsByText;exact aFm (aIv (aFo h))
def tO(t:SetTable):Nat->Nat
 | 0=>0
 | i+1=>t.place.getD i 0+1
theorem ED(ht:qW l t)(hi:i<=t.place.size):below t.place (tO t i)=i:=by
 cases i with
 | zero=>exact EC ht.ris
 | succ i=>
  have:t.place.getD i 0=t.place[i]'(by lia):=by simp[Array.getD,show i<t.place.size by lia]
  show below t.place (t.place.getD i 0+1)=i+1;rw[this];exact EE ht.ris (by lia)
theorem IH(a:t.fits es.size=true):t.place.size=es.size:=by
 simp only[SetTable.fits,Bool.and_eq_true,beq_iff_eq]at a;exact a.1
variable{Q:Option (Value×Nat)->Shared->Prop}
theorem DF(ho:s.heap.get? a=some o)(hd:o.data= .set es ep t)(d:t.fits es.size=true)(ht:qW l t)(g:w.params.followText "set-order"=false)(j:l=true)
  (f:(!t.plain && decide (es.size > 1))=false) (hi:i<=es.size) (q:Q ((es[i]?).map λe=>(e.2,tO t (i+1))) s):wpAny (model prog w) A (setNext a (tO t i) i ep) Q E s:=by
 have n:=IH d;unfold setNext;refine aFm (aHn ho hd d ?_);dsimp only;refine aFm (j5 ?_);rw[g,if_neg Bool.false_ne_true];have p:(if (!t.plain && decide (es.size > 1))=true then (unsupported "set_iterator.__next__:the-table-is-plain-no-more":Sem Unit) else pure ())=pure ():=by rw[f];rfl
 show wpAny _ _ (if (!t.plain && decide (es.size > 1))=true then _ else _) Q E s;rw[f,if_neg Bool.false_ne_true];have b:t.led=true:=by rw[ht.led,j]
 refine aFm ?_;show wpAny _ _ (if (!t.led && !es.isEmpty)=true then _ else _) _ E s;rw[b];simp only[Bool.not_true,Bool.false_and,Bool.false_eq_true,if_false];refine aFo ?_;rw[ED ht (by lia)];by_cases h:i<es.size
 ·have c:es[i]? =some es[i]:=by simp[h]
  have k:t.place[i]? =some (t.place[i]'(by lia)):=by simp[show i<t.place.size by lia]
  rw[c]at q⊢;rw[k];have m:t.place.getD i 0=t.place[i]'(by lia):=by simp[Array.getD,show i<t.place.size by lia]
  simp only[tO,m,Option.map_some]at q;exact aFo q
 ·have c:es[i]? =none:=by simp;lia
  rw[c]at q⊢;exact aFo q
theorem HH(ho:s.heap.get? a=some o)(hd:o.data= .set es ep t)(b:t.fits es.size=true)(c:w.params.followText "set-order"=true)
  (q:Q (((pickOrder (w.params.setOrder a ep) es)[i]?).map λe=>(e.2,0)) s):wpAny (model prog w) A (setNext a 0 i ep) Q E s:=by
 unfold setNext;refine aFm (aHn ho hd b ?_);dsimp only;refine aFm (j5 ?_);rw[c,if_pos rfl];rw[if_neg (by simp)];refine aFm ?_;unfold setWalk;refine aFm (aHn ho hd b ?_);dsimp only;refine aFm (j5 ?_);rw[c,if_pos rfl];refine aFm (aIv ?_);exact aFo (aFo q)
end
theorem vU:entryFor table "set_iterator.__iter__"=some Builtin.«dict_keyiterator.__iter__»:=
 entryFor_alias (id' := "dict_keyiterator.__iter__") (by kernel_rfl) rfl (by decide+kernel) (by kernel_rfl)
theorem z0(a:Value):argsOk "set_iterator.__iter__" ⟨[a],[]⟩:=by
 unfold argsOk;rw[signature?_of (id:= "set_iterator.__iter__") (n:= "__reti__".toList) (o:= "rotareti_tes".toList) (by kernel_rfl) A7];kernel_rfl
theorem wX{α:Type}:∀l:List α,(List.range l.length).filterMap (λk=>l[k]?)=l
 | []=>rfl
 | x::l=>by
  have:=wX l;rw[List.length_cons,List.range_succ_eq_map,List.filterMap_cons];simp only[List.getElem?_cons_zero,List.filterMap_map,Function.comp_def,List.getElem?_cons_succ];rw[this]
section
variable {prog:Program}{w:World}{A:Around}{E:aJo}{s:Shared}
theorem xB{it a:Addr}{first:Value}{i n ep:Nat}{Q:aJo}(b:s.heap.get? it=some (mT first i a n ep))(h:Q (.ref it) s):wpAny (model prog w) A (pyIter (.ref it)) Q E s:=by
 have ht:s.TypeIs (.ref it) "set_iterator":=⟨_,b,rfl⟩
 refine aHc ht wU (aG1 wU ht vU ?_ (z0 _));show wpAny _ _ (ret (.ref it)) _ _ s;exact aFo ⟨_,rfl,"set_iterator",_,ht,slot_next.lookup,h⟩
variable{es:Array (Int×Value)}
theorem AI(m:A.handled=none){it a:Addr}(j:a≠it){o:Obj}{ep:Nat}(hd:o.data= .set es ep t)(l:t.fits es.size=true)(sl:Nat->Nat)(vs:List Value)(d:vs.length=es.size)
  (hN:∀(i:Nat),i<=es.size->∀(s:Shared),s.heap.get? a=some o->∀(A:Around) (E:aJo) (Q:Option (Value×Nat)->Shared->Prop),Q ((vs[i]?).map λv=>(v,sl (i+1))) s->wpAny (model prog w) A (setNext a (sl i) i ep) Q E s):
  Walks prog w A it [it,a] [it] vs.length (λi v=>vs[i]? =some v) (λi h=>i<=es.size/\h.get? it=some (mT (.int (sl i) 0) i a es.size ep)/\h.get? a=some o) where
 sub:=λb c=>by simp at c;simp[c]
 frame:=λ_ _ _ st hk=>⟨st.1,hk it (by simp) _ st.2.1,hk a (by simp) _ st.2.2⟩
 item:=λi s Q E hi st f=>by
  have e:vs[i]? =some vs[i]:=by simp[hi]
  refine K8 (x:=vs[i]) (nx:=sl (i+1)) st.2.1 st.2.2 hd l (λA E Q q=>hN i st.1 s st.2.2 A E Q (by rw[e];exact q)) λh' g k=>?_;refine f _ h' s.toks e ⟨by lia,g,(k.2 a j).trans st.2.2⟩ λb u c e=>(k.2 b (by simpa using c)).trans e
 done:=λs Q E st f=>by
  rw[d]at st;refine yO m st.2.1 st.2.2 hd l (λA E Q q=>hN es.size (aFq _) s st.2.2 A E Q (by rw[List.getElem?_eq_none (by lia)];exact q)) λh' k=>?_;exact f h' s.toks λb u c e=>k b u (by simpa using c) e
 self:=λ_ _ _ _ st f=>xB st.2.1 f
theorem JE(r:A.handled=none){it a tp:Addr}(f:a≠it)(j:tp≠it){o:Obj}{ep:Nat}(hd:o.data= .set es ep t)(m:t.fits es.size=true)(ns:List Nat)(vs:List Value)(n:ns.length=vs.length)
  (y:∀(i p:Nat),ns[i]? =some p->(es[p]?).map (·.2)=vs[i]?):
  Walks prog w A it [it,a,tp] [it] vs.length (λi v=>vs[i]? =some v) (λi h=>h.get? it=some (mT (.ref tp) i a es.size ep)/\h.get? a=some o/\h.IsTuple tp (ns.map λ(k:Nat)=>rawInt k).toArray) where
 sub:=λb c=>by simp at c;simp[c]
 frame:=λ_ _ _ st hk=>⟨hk it (by simp) _ st.1,hk a (by simp) _ st.2.1,st.2.2.at λo e=>hk tp (by simp) o e⟩
 item:=λi s Q E hi st d=>by
  have e:vs[i]? =some vs[i]:=by simp[hi]
  have l:i<ns.length:=by lia
  have q:ns[i]? =some ns[i]:=by simp[l]
  refine K7 (x:=vs[i]) st.1 st.2.1 hd m st.2.2 q (by rw[y i _ q,e]) λh' g k=>?_;refine d _ h' s.toks e ⟨g,(k.2 a f).trans st.2.1,st.2.2.extBut k.extBut j⟩ λb u c e=>(k.2 b (by simpa using c)).trans e
 done:=λs Q E st d=>by
  refine yN r st.1 st.2.1 hd m st.2.2 (by rw[List.getElem?_eq_none (by lia)]) λh' k=>?_;exact d h' s.toks λb u c e=>k b u (by simpa using c) e
 self:=λ_ _ _ _ st d=>xB st.1 d
end
section
variable {prog:Program}{w:World}{K:Type}[DecidableEq K]{knd:KeyKind prog w K}{A:Around}{E:aJo}{s:Shared}
def Vof(knd:KeyKind prog w K)(ks:List K)(vs:List Value):Prop:=∃ps:List (K×Value),ps.map (·.2)=vs/\(ps.map (·.1)).Perm ks/\∀p∈ps,knd.is p.1 p.2=true
variable{es:Array (Int×Value)}
theorem Es.vof{ks:List K}(h:Es knd es ks){l:List (Int×Value)}(p:l.Perm es.toList):Vof knd ks (l.map (·.2)):=by
 obtain⟨ps,c,d,e⟩:=h;obtain⟨a,b,f⟩:=mM (·.2) p ps c.symm;refine⟨a.map λp=>(p.1,p.2.2),by rw[<-f];simp,?_,λp g=>?_⟩
 ·have:=(b.map (·.1)).trans d;simpa[Function.comp_def] using this
 ·obtain⟨q,i,rfl⟩:=aFv.mp g;exact(e q (b.mem_iff.mp i)).1
def AD(l:Bool)(h:Heap)(a:Addr)(es:Array (Int×Value)):Prop:=∃o ep t,h.get? a=some o/\o.ExactSet/\o.data= .set es ep t/\es.size<scanBound/\t.fits es.size=true/\qW l t
theorem AD.keep{h h' :Heap}{a:Addr}(x:AD l h a es)(k:∀o,h.get? a=some o->h'.get? a=some o):AD l h' a es:=by
 obtain⟨o,ep,t,ho,r⟩:=x;exact⟨o,ep,t,k o ho,r⟩
theorem AD.typeIs{s:Shared}{a:Addr}(x:AD l s.heap a es):s.TypeIs (.ref a) "set":=by
 obtain⟨o,ep,t,ho,b,_⟩:=x;exact⟨o,ho,b.1⟩
structure ItS(prog:Program)(w:World)(es:Array (Int×Value))(a:Addr)(s s2:Shared)(I:Addr):Prop where
 kept:∀b u,s.heap.get? b=some u->s2.heap.get? b=some u
 new:s.heap.objs.size<=I
 same:s2.gens=s.gens/\s2.os=s.os/\s2.toks=s.toks
 walk:∃(fp:List Addr) (St:Nat->Heap->Prop) (vs:List Value),(∀A:Around,A.handled=none->Walks prog w A I fp [I] vs.length (λi v=>vs[i]? =some v) St)/\St 0 s2.heap/\(∀b∈fp,(b=a\/s.heap.objs.size<=b)/\b<s2.heap.objs.size)/\vs.Perm (es.toList.map (·.2))
theorem MK{a:Addr}{Q:aJo}(D:AD (eP w) s.heap a es)(h:∀I s2,ItS prog w es a s s2 I->Q (.ref I) s2):wpAny (model prog w) A (pyIter (.ref a)) Q E s:=by
 have G:=D.typeIs;obtain⟨o,ep,t,ho,hex,hd,f,g,ht⟩:=D;have c:=aFu ho;refine aHc G F.slot_set_iter (aG1 F.slot_set_iter G uP ?_ (F.args_set_iter_1 _));unfold Builtin.«frozenset.__iter__»;refine aFm (m:=Builtin.Frozenset.slot0 "__iter__" _) (aFo ?_);refine aFm ?_;unfold Builtin.Frozenset.sizeOf;refine aFm (aHo ho hd g (aFo ?_));refine aFm ?_;unfold setDrawn;refine aFm (aHn ho hd g ?_);dsimp only;refine aFm (j5 (aFo ?_));show wpAny _ _ (if (!w.params.followText "set-order" && (!t.plain && decide (es.size > 1)))=true then _ else _) _ _ s;by_cases l:(!w.params.followText "set-order" && (!t.plain && decide (es.size > 1)))=true
 ·rw[if_pos l];refine aFm (xJ es.size (List.range es.size) s _ (by simp) λns d p=>?_)
  have hsz:(ns.map λ(i:Nat)=>rawInt i).length<=sizeLine:=by
   have:=p.length_eq;have:=fits_of_scanBound f;simp at*;lia
  refine aFm (aHa ?_ hsz);dsimp only;refine aFm (m:=setEpoch a) (wpAny_setEpoch_of (o:=o) (aFn _ ho) hd g ?_);refine aFm (m:=newFields "set_iterator" _) (aG6 ?_ (by size_fits));refine aFo ⟨_,rfl,"set_iterator",_,⟨_,aFs _ rfl,rfl⟩,slot_next.lookup,?_⟩;refine h _ _ ⟨λb u e=>aFn _ (aFn _ e),by simp[Heap.size_push],⟨rfl,rfl,rfl⟩,?_⟩;have B:∀k∈ns,k<es.size:=λk hk=>by simpa using p.mem_iff.mp hk
  have r:(ns.filterMap λk=>es[k]?).Perm es.toList:=by
   have H:=p.filterMap λk=>es[k]?;have J:(List.range es.size).filterMap (λk=>es[k]?)=es.toList:=by simpa using wX es.toList
   rw[J]at H;exact H
  have v:(ns.filterMap λk=>es[k]?).length=ns.length:=by
   have:=r.length_eq;have:=p.length_eq;simp at*;lia
  have x:∀(ns:List Nat),(∀k∈ns,k<es.size)->∀(i n:Nat),ns[i]? =some n->es[n]? =(ns.filterMap λk=>es[k]?)[i]? :=by
   intro ns
   induction ns with
   | nil=>intro _ i n hi;simp at hi
   | cons k ns ih=>
    intro hv i n hi;have hk:=hv k (by simp)
    cases i with
    | zero=>simp at hi;subst hi;simp[hk]
    | succ i=>
     simp at hi;rw[ih (λj K=>hv j (by simp[K])) i n hi];simp[hk]
  refine⟨_,_,(ns.filterMap λk=>es[k]?).map (·.2),λA y=>JE (tp:=s.heap.objs.size) y ?_ ?_ hd g ns _ (by simp[v]) λi n hi=>by rw[x ns B i n hi,List.getElem?_map],⟨aFs _ rfl,aFn _ (aFn _ ho),?_⟩,?_,r.map _⟩
  ·rw[Heap.size_push];exact aFz (aGr c)
  ·rw[Heap.size_push];exact aFz (aGu _)
  ·exact⟨_,aFn _ (aFs _ rfl),rfl,_,rfl⟩
  ·intro b f;simp only[List.mem_cons,List.not_mem_nil,or_false]at f;simp only[Heap.size_push];rcases f with rfl | rfl | rfl
   ·exact⟨.inr (by simp only[Heap.size_push];exact aJh _),by simp only[Heap.size_push];exact aGu _⟩
   ·exact⟨.inl rfl,aGr (aGr c)⟩
   ·exact⟨.inr (aFq _),aGr (aGu _)⟩
 ·rw[if_neg l];refine aFm (aFo ?_);refine aFm (m:=setEpoch a) (wpAny_setEpoch_of ho hd g ?_);refine aFm (m:=newFields "set_iterator" _) (aG6 ?_ (by size_fits));refine aFo ⟨_,rfl,"set_iterator",_,⟨_,aFs _ rfl,rfl⟩,slot_next.lookup,?_⟩;refine h _ _ ⟨λb u e=>aFn _ e,aFq _,⟨rfl,rfl,rfl⟩,?_⟩;have z:a≠s.heap.objs.size:=aFz c
  cases hbt:w.params.followText "set-order" with
  | true=>
   have r:=tU (w.params.setOrder a ep) es;refine⟨_,_,(pickOrder (w.params.setOrder a ep) es).toList.map (·.2),λA y=>AI y z hd g (λ_=>0) _ (by have:=r.length_eq;simp at*;lia) λi hi L C A E Q q=>HH C hd g hbt (by simpa[Function.comp_def] using q),⟨by lia,aFs _ rfl,aFn _ ho⟩,?_,r.map _⟩;intro b f;simp only[List.mem_cons,List.not_mem_nil,or_false]at f;simp only[Heap.size_push];rcases f with rfl | rfl
   ·exact⟨.inr (aFq _),aGu _⟩
   ·exact⟨.inl rfl,aGr c⟩
  | false=>
   have p:(!t.plain && decide (es.size > 1))=false:=by
    rw[hbt]at l;simpa using l
   refine⟨_,_,es.toList.map (·.2),λA y=>AI y z hd g (tO t) _ (by simp) λi hi L C A E Q q=>DF C hd g ht hbt (by simp[eP,hbt]) p hi (by simpa[Function.comp_def] using q),⟨by lia,aFs _ rfl,aFn _ ho⟩,?_,.refl _⟩;intro b f;simp only[List.mem_cons,List.not_mem_nil,or_false]at f;simp only[Heap.size_push];rcases f with rfl | rfl
   ·exact⟨.inr (aFq _),aGu _⟩
   ·exact⟨.inl rfl,aGr c⟩
end
open PySem.Calls
section
variable {prog:Program}{w:World}{K:Type}[DecidableEq K]{knd:KeyKind prog w K}{A:Around}{E:aJo}{s:Shared}{a:Addr}{ks:List K}{es:Array (Int×Value)}
theorem MU{Q:Bool->Shared->Prop}(e:s.TypeIs (.ref a) "set")(h:Q false s):wpAny (model prog w) A (Builtin.List.listLengthHint (.ref a)) Q E s:=by
 unfold Builtin.List.listLengthHint;refine aFm (wpAny_specialOf e PySem.F.slot_set_len.lookup ?_);generalize d:("set.__len__":String)=id0
 wp_delta
 rw[show splitId id0=some ("set","__len__") from by subst d;decide+kernel];subst d;refine aFm (aHp (T:= "set") (b:=true) e (by rw[isSubtype_type];kernel_rfl) ?_);refine wpAny_ite_split (λc=>absurd c (by decide)) (λ_=>?_);refine wpAny_ite_split (λ_=>?_) (λc=>absurd (by decide+kernel) c);refine aFm (aIl e ?_);exact aFo h
theorem ML{vs:List Value}{acc:Array Value}(h:ItemsOf (λi v=>vs[i]? =some v) acc vs.length):acc=vs.toArray:=by
 apply Array.ext_getElem?;intro i;by_cases hi:i<vs.length
 ·have a:i<acc.size:=by rw[h.1];exact hi
  have:=h.2 i acc[i] (by simp[a]);simp[a,this]
 ·simp[hi,h.1]
theorem C5{R:Result->Shared->Prop}(y:AD (eP w) s.heap a es)(E:A.handled=none)(S:Addr)(n:S≠a)(res:Value)(j:Nat)(p:s.heap.get? S=some {cls:= .type "list",data:= .seq #[] j})
  (J:∀(d :Shared) (vs:List Value) (c' :Nat),vs.Perm (es.toList.map (·.2))->d.gens=s.gens->d.os=s.os->(∀b o,b≠S->s.heap.get? b=some o->d.heap.get? b=some o)->d.heap.get? S=some {cls:= .type "list",dict:=none,data:= .seq vs.toArray c',slots:= #[]}->R (.ok (.ret res)) d)
  (O:es.size<=sizeLine):
  wpAny (model prog w) A.in1 (Builtin.List.listExtendWith (.ref S) (.ref a) res)
   (λB d =>match B with | .done f=>R (.ok f) d | .again c' =>c'.quiet=true/\codeAny (model prog w) A c' R d) (λe d =>R (.error e) d) s:=by
 have q:=aFu p;unfold Builtin.List.listExtendWith;refine aFm (aIl (T:= "set") y.typeIs ?_);have K:Builtin.List.listSameRef (.ref S) (.ref a)=false:=by simp[Builtin.List.listSameRef,n]
 have L:(Value.type "set"==Value.type "list")=false:=by decide
 have M:(Value.type "set"==Value.type "tuple")=false:=by decide
 simp only[K,L,M,Bool.or_false,Bool.false_eq_true,if_false];refine aFm (MK y λI s2 it=>?_);obtain⟨fp,St,vs,W,st,C,vof⟩:=it.walk
 have G:vs.length=es.size:=by
  have:=vof.length_eq;simpa using this
 have r:S∉fp:=λt=>by
  rcases(C S t).1 with z | z
  ·exact n z
  ·exact absurd q (Nat.not_lt.mpr z)
 have key:∀(h:Heap) (g tk:Nat),St 0 h->(∀b o,b≠S->s.heap.get? b=some o->h.get? b=some o)->
   h.get? S=some {cls:= .type "list",data:= .seq #[] g}->codeAny (model prog w) A (.builtin "list.extend.loop" ⟨[.ref S,.ref I,res],[]⟩) R {s2 with heap:=h,toks:=tk}:=by
  intro h g tk D hk c;refine codeAny_extend_loopS (W A.in1 E).toS (by lia) S r res vs.length 0 _ #[] g rfl (aGm _) D c (ItemsOf.nil _) λd H c' t u v=>?_;rw[ML v]at u;refine J d vs c' vof (t.gens.trans it.same.1) (t.os.trans it.same.2.1) (λb o k e=>t.heap b o (λhmem=>?_) (hk b o k e)) u;rcases aFy.mp hmem with N | hmem
  ·exact k N
  ·rw[List.mem_singleton.mp hmem]at e;exact absurd (aFu e) (Nat.not_lt.mpr it.new)
 have c:=it.kept _ _ p;have l:AD (eP w) s2.heap a es:=y.keep λo e=>it.kept _ _ e;refine aFm (aGf (MU l.typeIs ?_));refine wpAny_ite_split (λ_=>?_) (λ_=>aFo ⟨aIb PySem.F.plain_extend_loop _,key s2.heap j s2.toks st (λb o _ e=>it.kept _ _ e) c⟩);refine aFm (aGt ?_);refine aFm ?_;show wpAny _ _ (updateSeq S (·.push .none) >>=λ_=>updateSeq S (·.pop)) _ _ _;refine aFm (aHx c rfl ?_);have i:=aGv (Obj.mapSeq (·.push Value.none)) c rfl;refine aHx (hz:=by seq_fits) i rfl ?_;have m:=aGv (Obj.mapSeq (·.pop)) i rfl;refine aFo ⟨aIb PySem.F.plain_extend_loop _,key _ _ s2.toks ?_ (λb o k e=>?_) m⟩
 ·refine(W A.in1 E).frame 0 _ _ st λb k o e=>?_;have x:b≠S:=λh=>r (h▸k);exact(aH8 _ _ (aGd x)).trans ((aH8 _ _ (aGd x)).trans e)
 ·exact(aH8 _ _ (aGd k)).trans ((aH8 _ _ (aGd k)).trans (it.kept _ _ e))
variable{R:List Value->Shared->Prop}
theorem yE(m:AD (eP w) s.heap a es)(n:A.handled=none)(p:es.size<=sizeLine)
  (h:∀(c :Shared) (vs:List Value),vs.Perm (es.toList.map (·.2))->c.gens=s.gens->c.os=s.os->(∀b o,s.heap.get? b=some o->c.heap.get? b=some o)->R vs c):
  wpAny (model prog w) A (collect (.ref a)) R E s:=by
 have j:a<s.heap.objs.size:=by obtain⟨o,_,_,ho,_⟩:=m;exact aFu ho
 unfold collect;refine aFm (aJc (aHd PySem.F.entry_proto_collect ?_));rw[Around.under_plainId PySem.F.plain_proto_collect _];show wpAny _ A.in1 (newList [] >>=λl=>again (.builtin "list.__iadd__" ⟨[l,.ref a],[]⟩)) _ _ s;refine aFm (aG6 ?_);refine aFo ⟨aIb PySem.F.plain_list_iadd _,aHd PySem.F.entry_list_iadd ?_⟩;rw[Around.under_plainId PySem.F.plain_list_iadd _];have g:(s.heap.push {cls:= .type "list",data:= .seq ([]:List Value).toArray}).get? s.heap.objs.size=some {cls:= .type "list",data:= .seq #[]}:=aFs _ rfl;show wpAny _ A.in1 (Builtin.List.listExtendWith (.ref s.heap.objs.size) (.ref a) (.ref s.heap.objs.size)) _ _ _
 have key:=C5 (prog:=prog) (A:=A) (s:={s with heap:=s.heap.push {cls:= .type "list",data:= .seq ([]:List Value).toArray}}) (es:=es)
  (R:=λ(q:Result) (c :Shared)=>∃(vs:List Value) (c' :Nat),q= .ok (.ret (.ref s.heap.objs.size))/\vs.Perm (es.toList.map (·.2))/\c.gens=s.gens/\c.os=s.os/\
   (∀b o,s.heap.get? b=some o->c.heap.get? b=some o)/\c.heap.get? s.heap.objs.size=some {cls:= .type "list",dict:=none,data:= .seq vs.toArray c',slots:= #[]})
  (m.keep λo e=>aFn _ e) n s.heap.objs.size (aGp j) (.ref s.heap.objs.size) 0 g
  (λc vs c' hv hg ho hk d =>⟨vs,c',rfl,hv,hg,ho,λb o e=>hk b o (aFz (aFu e)) (aFn _ e),d⟩) p
 refine aGa key (λk c x=>?_) λe c x=>?_
 ·cases k with
  | done f=>
   obtain⟨vs,c',e,hv,hg,ho,hk,d⟩:=x;cases e;show wpAny _ A (load s.heap.objs.size >>=_) _ _ _;refine aFm (aJ9 d ?_);exact aFo (by simpa using h c vs hv hg ho hk)
  | again c₁=>
   refine⟨x.1,aHl x.2 λq i y=>?_⟩;obtain⟨vs,c',rfl,hv,hg,ho,hk,d⟩:=y;show wpAny _ A (load s.heap.objs.size >>=_) _ _ _;refine aFm (aJ9 d ?_);exact aFo (by simpa using h i vs hv hg ho hk)
 ·obtain⟨_,_,r,_⟩:=x;cases r
theorem AY(d:lQ knd (eP w) s.heap a ks)(e:A.handled=none)(f:ks.length<=sizeLine)
  (h:∀(c :Shared) (vs:List Value),Vof knd ks vs->c.gens=s.gens->c.os=s.os->(∀b o,s.heap.get? b=some o->c.heap.get? b=some o)->R vs c):
  wpAny (model prog w) A (collect (.ref a)) R E s:=by
 obtain⟨o,es,ep,t,ho,hex,hd,he,nd,g,i,ht⟩:=d;refine yE ⟨o,ep,t,ho,hex,hd,g,i,ht⟩ e (by rw[he.size];exact f) λc vs pm=>h c vs ?_;obtain⟨l,j,k⟩:=mM (·.2) pm es.toList rfl;rw[<-k];exact he.vof j
end
variable {M:Nat}{h:Int}
variable {t:SetTable}{hs:List Int}
end ST
namespace L2
open PySem PySem.Spec PyProof.Rows
def j4:List (Str×NameKind)->List (Str×Addr)->List (Str×Addr)->List (Str×Addr)
 | [],_,acc=>acc
 | (n,k)::r,cells,acc=>j4 r cells (if k== .free then (n,(cells.lookup n).getD 0)::acc else acc)
theorem xN{env:Env}:∀(names:List (Str×NameKind)) (acc:List (Str×Addr)),(∀x∈names,x.2= .free->∃c,env.cells.lookup x.1=some c)->
  (forIn names acc λ(x:Str×NameKind) (e:List (Str×Addr))=>(if (x.2==NameKind.free)=true then do let a<-cellOf env x.1;pure (ForInStep.yield ((x.1,a)::e)) else pure (ForInStep.yield e):Sem _))=(pure (j4 names env.cells acc):Sem _)
 | [],acc,_=>by simp[j4]
 | (n,k)::r,acc,h=>by
  have f:=λb =>xN (env:=env) r b λx g=>h x (aFt _ g);rw[List.forIn_cons];by_cases hk:k= .free
  ·subst hk;obtain⟨c,i⟩:=h (n,.free) aFr rfl;have d :env.cells.lookup n=some c:=i;simp only[j4,beq_self_eq_true,if_true,cellOf,d,pure_bind,Option.getD_some];exact f _
  ·have j:(k==NameKind.free)=false:=by simpa using hk
   simp only[j4,j,Bool.false_eq_true,if_false,pure_bind];exact f _
variable{scope:Scope}{env:Env}
theorem vY(h:∀x∈scope.names,x.2= .free->∃c,env.cells.lookup x.1=some c):closureFor scope env=pure (j4 scope.names env.cells []):=by
 have e:=xN (env:=env) scope.names [] h;unfold closureFor;simp only[bind_pure_comp]at e⊢
 first
  | (rw[<-e];rfl)
  | (simp at e⊢;rw[<-e];rfl)
  | (simp at e⊢;exact e)
theorem xO{cells:List (Str×Addr)}{P:Str->Addr->Prop}:∀(names:List (Str×NameKind)) (acc:List (Str×Addr)),(∀x∈acc,P x.1 x.2)->(∀n,(n,NameKind.free)∈names->P n ((cells.lookup n).getD 0))->∀x∈j4 names cells acc,P x.1 x.2
 | [],acc,h,_,x,hx=>h x hx
 | (n,k)::r,acc,h,a,x,hx=>by
  refine xO (cells:=cells) r _ (λy hy=>?_) (λm b=>a m (aFt _ b)) x hx;by_cases hk:k= .free
  ·subst hk;simp only[beq_self_eq_true,if_true]at hy;rcases aFy.mp hy with rfl | hy
   ·exact a n aFr
   ·exact h y hy
  ·have c:(k==NameKind.free)=false:=by simpa using hk
   simp only[c,Bool.false_eq_true,if_false]at hy;exact h y hy
theorem cG{α:Type}:∀{l:List (Str×α)} {n:Str} {c:α},(n,c)∈l->∃c',l.lookup n=some c'
 | (k,v)::r,n,c,h=>by
  rw[List.lookup_cons]
  cases hb:n==k with
  | true=>exact⟨v,rfl⟩
  | false=>
   rcases aFy.mp h with e | h
   ·injection e with a _;rw[a]at hb;simp at hb
   ·exact cG h
theorem rO{cells:List (Str×Addr)}:∀(names:List (Str×NameKind)) (acc:List (Str×Addr)) (x:Str×Addr),x∈acc->x∈j4 names cells acc
 | [],_,_,h=>h
 | (n,k)::r,acc,x,h=>by
  refine rO r _ x ?_;by_cases hk:(k==NameKind.free)=true
  ·rw[if_pos hk];exact aFt _ h
  ·rw[if_neg hk];exact h
theorem xP{cells:List (Str×Addr)}:∀(names:List (Str×NameKind)) (acc:List (Str×Addr)) (n:Str),(n,NameKind.free)∈names->∃c,(n,c)∈j4 names cells acc
 | (m,k)::r,acc,n,h=>by
  rcases aFy.mp h with e | h
  ·injection e with a b;subst a b;exact⟨(cells.lookup n).getD 0,rO r _ _ (by simp)⟩
  ·exact xP r _ n h
theorem pK{x:Str}{b :NameKind}:(relabel scope env).names.lookup x=some b ->∃k,scope.names.lookup x=some k/\(b =k\/(k= .free/\b = .cell)):=by
 unfold relabel;dsimp only;generalize scope.names=l
 induction l with
 | nil=>intro h;simp at h
 | cons p r ih=>
  obtain⟨n,k⟩:=p;intro h;rw[List.map_cons]at h;by_cases a:(k==NameKind.free && env.scope.kind== .function && env.kindOf n==some .cell)=true
  ·simp only[a,if_true,List.lookup_cons]at h⊢
   cases hb:x==n with
   | true=>
    rw[hb]at h;simp only[Bool.and_eq_true,beq_iff_eq]at a;exact⟨k,rfl,.inr ⟨a.1.1,(aGe h).symm⟩⟩
   | false=>rw[hb]at h;exact ih h
  ·have c :(k==NameKind.free && env.scope.kind== .function && env.kindOf n==some .cell)=false:=by simpa using a
   simp only[c,Bool.false_eq_true,if_false,List.lookup_cons]at h⊢
   cases hb:x==n with
   | true=>rw[hb]at h;exact⟨k,rfl,.inl (aGe h).symm⟩
   | false=>rw[hb]at h;exact ih h
theorem yG{x:Str}:scope.names.lookup x=some .free->(relabel scope env).names.lookup x=some .cell\/(relabel scope env).names.lookup x=some .free:=by
 unfold relabel;dsimp only;generalize scope.names=l
 induction l with
 | nil=>intro h;simp at h
 | cons p r ih=>
  obtain⟨n,k⟩:=p;intro h;rw[List.map_cons];rw[List.lookup_cons]at h
  cases hb:x==n with
  | true=>
   rw[hb]at h;have hk:k= .free:=aGe h;subst hk;by_cases b:(NameKind.free==NameKind.free && env.scope.kind== .function && env.kindOf n==some .cell)=true
   ·simp only[b,if_true,List.lookup_cons,hb];first | exact .inl rfl | exact .inl trivial
   ·have a :(NameKind.free==NameKind.free && env.scope.kind== .function && env.kindOf n==some .cell)=false:=by simpa using b
    simp only[a,Bool.false_eq_true,if_false,List.lookup_cons,hb];first | exact .inr rfl | exact .inr trivial
  | false=>
   rw[hb]at h;by_cases b:(k==NameKind.free && env.scope.kind== .function && env.kindOf n==some .cell)=true
   ·simp only[b,if_true,List.lookup_cons,hb];exact ih h
   ·have a :(k==NameKind.free && env.scope.kind== .function && env.kindOf n==some .cell)=false:=by simpa using b
    simp only[a,Bool.false_eq_true,if_false,List.lookup_cons,hb];exact ih h
def aG(X:Cx)(own:List Str)(aD:List Nat)(scope:Scope)(cl:List (Str×Addr))(C:Addr)(fp:List Addr)(s₀:Shared)(H₀:Hp):Cx where
 prog:=X.prog
 w:=X.w
 K:=X.K
 mg:=X.mg
 base:=X.base
 A:=X.A
 N:=own++aD.map λi=>X.N.getD i ""
 s₀:=s₀
 H₀:=H₀
 env:=compEnvC scope cl C X.env
 outer:=X.stack
 stack:=X.stack
 ex:=fp
 fn:=λx=>scope.names.lookup x==some .cell
 calm:=X.calm
 pn:=[]
 xe:=λ_ _=>False
def qQ(own:List Str)(aD:List Nat)(σ:St):St:=own.map (λ_=>none)++aD.map λi=>(σ[i]?).join
def bW(N:List Str)(sc scope:Scope)(aD:List Nat):Bool:=
 scope.kind== .function && scope.names.all (λy=>y.2 != .cell || scope.names.lookup y.1==some .cell) && scope.names.all (λy=>y.2 != .local || scope.names.lookup y.1==some .local) &&
 scope.names.all (λy=>y.2 != .free || (scope.names.lookup y.1==some .free && (sc.names.lookup y.1==some .cell || sc.names.lookup y.1==some .free))) &&
 aD.all (λi=>match N[i]? with | some x=>scope.names.lookup x==some .free | none=>false)
structure ET(X:Cx)(scope:Scope)(aD:List Nat):Prop where
 kind:scope.kind= .function
 cel:∀y∈scope.names,y.2= .cell->scope.names.lookup y.1=some .cell
 loc:∀y∈scope.names,y.2= .local->scope.names.lookup y.1=some .local
 fre:∀y∈scope.names,y.2= .free->scope.names.lookup y.1=some .free
 fr:∀y∈scope.names,y.2= .free->X.env.kindOf y.1=some .cell\/X.env.kindOf y.1=some .free
 cap:∀i∈aD,∃x,X.N[i]? =some x/\scope.names.lookup x=some .free
variable{X:Cx}{sc:Scope}{N:List Str}
theorem ET.of{aD:List Nat}(hN:X.N=N)(c:X.env.scope=sc)(h:bW N sc scope aD=true):ET X scope aD:=by
 subst hN c;unfold bW at h;simp only[Bool.and_eq_true,List.all_eq_true]at h;obtain⟨⟨⟨⟨d,f⟩,g⟩,b⟩,j⟩:=h;refine⟨aIw.mp d,λy a z=>?_,λy a z=>?_,λy a z=>?_,λy a z=>?_,λi hi=>?_⟩
 ·have:=f y a;rw[z]at this;simpa using this
 ·have:=g y a;rw[z]at this;simpa using this
 ·have:=b y a;rw[z]at this;have this:(scope.names.lookup y.1==some NameKind.free && (X.env.scope.names.lookup y.1==some NameKind.cell || X.env.scope.names.lookup y.1==some NameKind.free))=true:=by simpa using this
  exact aIw.mp (Bool.and_eq_true_iff.mp this).1
 ·have:=b y a;rw[z]at this;have this:(scope.names.lookup y.1==some NameKind.free && (X.env.scope.names.lookup y.1==some NameKind.cell || X.env.scope.names.lookup y.1==some NameKind.free))=true:=by simpa using this
  have this:=(Bool.and_eq_true_iff.mp this).2;rcases Bool.or_eq_true_iff.mp this with q | q
  ·exact .inl (aIw.mp q)
  ·exact .inr (aIw.mp q)
 ·have:=j i hi
  cases e:X.N[i]? with
  | none=>rw[e]at this;simp at this
  | some x=>rw[e]at this;exact⟨x,rfl,aIw.mp this⟩
theorem u4:∀(names:List (Str×NameKind)) (n:Nat) (acc:List (Str×Addr)),cellsFrom n names acc=cellsFrom n names []++acc
 | [],_,_=>rfl
 | (x,k)::r,n,acc=>by
  unfold cellsFrom;split
  ·rw[u4 r (n+1) ((x,n)::acc),u4 r (n+1) [(x,n)]];simp
  ·exact u4 r n acc
theorem EB:∀(names:List (Str×NameKind)) (n:Nat) (acc:List (Str×Addr)) {x:Str} {c:Addr},(x,c)∈cellsFrom n names acc->(x,c)∈acc\/(x,NameKind.cell)∈names
 | [],_,_,_,_,h=>.inl h
 | (y,k)::r,n,acc,x,c,h=>by
  unfold cellsFrom at h;split at h
  ·rename_i hk;have hk:k= .cell:=aIw.mp hk;rcases EB r _ _ h with z | z
   ·rcases aFy.mp z with z | z
    ·injection z with a b;exact .inr (by rw[a,hk];exact aFr)
    ·exact .inl z
   ·exact .inr (aFt _ z)
  ·rcases EB r _ _ h with z | z
   ·exact .inl z
   ·exact .inr (aFt _ z)
theorem SV:∀(names:List (Str×NameKind)) (n:Nat) (acc:List (Str×Addr)) {p:Str×Addr},p∈acc->p∈cellsFrom n names acc:=λnames n acc p h=>by
 rw[u4];exact aG8 _ h
theorem zS:∀(names:List (Str×NameKind)) (n:Nat) (acc:List (Str×Addr)) {x:Str},(x,NameKind.cell)∈names->∃c,(x,c)∈cellsFrom n names acc
 | (y,k)::r,n,acc,x,h=>by
  unfold cellsFrom;rcases aFy.mp h with z | z
  ·injection z with a b;subst a b;rw[if_pos (show (NameKind.cell==NameKind.cell)=true from rfl)];exact⟨n,SV _ _ _ aFr⟩
  ·split
   ·exact zS r _ _ z
   ·exact zS r _ _ z
variable{A:Around}{s:Shared}
theorem vR{M:Model}{E:aJo}{globals:Addr}{cl:List (Str×Addr)}{qual:Str}{outer:Env}{b:Addr}{Q:Env->Shared->Prop}
  (a:∀h',h'.Ns s.heap.objs.size (λ_=>none)->(∀c o,s.heap.get? c=some o->h'.get? c=some o)->CellsOk h' (s.heap.objs.size+1) (cellsFrom (s.heap.objs.size+1) scope.names [])->
   Q (newEnv scope s.heap.objs.size globals (cellsFrom (s.heap.objs.size+1) scope.names []++cl) qual none .none (some outer) b) {s with heap:=h'}):
  wpAny M A (newFunctionEnv scope globals cl [] qual none .none (some outer) b) Q E s:=by
 simp only[newFunctionEnv,Option.isSome_some,if_true];refine aFm (wpAny_alloc ?_);refine aFm (wpAny_layCells _ (λname kind cells=>by cases hkc:kind==NameKind.cell <;> simp[hkc]) _ _ _ _ ?_);have ok:=cellsFrom_ok scope.names (s.heap.push {cls:= .type "dict",data:= .dict #[]}) (s.heap.objs.size+1) [] ⟨λ_ _ d=>(nomatch d),List.Pairwise.nil⟩ (by rw[Heap.size_push];exact aFq _);rw[Heap.size_push]at ok;rw[show ({s with heap:=s.heap.push {cls:= .type "dict",data:= .dict #[]}}:Shared).heap.objs.size=s.heap.objs.size+1 from Heap.size_push ..];refine aFm ?_;rw[List.forIn_nil];refine aFo (aFo ?_);rw[u4];exact a _ ((Heap.Ns.new s.heap (.type "dict")).keeps (pushCells_keeps _ _)) (λc o e=>pushCells_keeps _ _ c o (aFn _ e)) ok
def OH(X:Cx)(a:List Expr)(t:TT):Prop:=
 ∀(pins:List (Addr×Obj)) (s:Shared) (σ:St) (H:Hp) (Q:Bool->Hp->Prop),Inv X pins σ H s->t σ H Q->
  wpAny (model X.prog X.w) X.A (forIn a true λc r=>if r=true then do let ok<-isTrue c X.env (eval c X.env);pure (ForInStep.yield ok) else pure (ForInStep.yield r)) (TP X pins σ Q) X.xe s
def aDm:TT:=λ_ H Q=>Q true H
theorem PZ:OH X [] aDm:=λ_ _ _ H _ I h=>wpAny_tests_nil ⟨H,I,h⟩
theorem PY{c:Expr}{t:TT}(h:PT X c t):OH X [c] t:=λpins s σ H Q I q=>wpAny_tests_one (h pins s σ H Q I q)
def j7(n:Nat)(g:TG):Prop:=∀v σ H Q,g v σ H Q->g v σ H λa H' =>Q a H' /\a.length=σ.length/\∀j,n<=j->a[j]? =σ[j]?
def GU(n:Nat)(g:GR):Prop:=∀vs σ H Q,g vs σ H Q->g vs σ H λa H' =>Q a H' /\a.length=σ.length/\∀j,n<=j->a[j]? =σ[j]?
variable{n i:Nat}
theorem IA(h:i<n):j7 n (oD i):=λv σ H Q q=>⟨q,by simp,λj a=>by rw[List.getElem?_set_ne (by lia)]⟩
theorem MZ:GU n NB:=λvs σ H Q q=>⟨q.1,q.2,rfl,λ_ _=>rfl⟩
theorem IB{t:TG}{u:GR}(mt:∀v σ H Q b,(∀a H',Q a H' ->b a H')->t v σ H Q->t v σ H b)(d:∀v σ H Q b,(∀a H',Q a H' ->b a H')->u v σ H Q->u v σ H b)(f:j7 n t)(g:GU n u):GU n (BV t u):=by
 intro vs σ H Q q;obtain⟨v,r,e,q⟩:=q;refine⟨v,r,e,mt _ _ _ _ _ (λa H' ⟨h,l,k⟩=>?_) (f _ _ _ _ q)⟩;refine d _ _ _ _ _ (λi o ⟨q2,l2,m⟩=>?_) (g _ _ _ _ h);exact⟨q2,l2.trans l,λj c=>(m j c).trans (k j c)⟩
theorem MY{n m:Nat}{K:aJn}{u:GR}(h:GU n u):j7 n (YB K m u):=by
 intro v σ H Q q;obtain⟨a,xs,e,b,c,q⟩:=q;exact⟨a,xs,e,b,c,h _ _ _ _ q⟩
theorem DW:∀v σ H Q b,(∀a H',Q a H' ->b a H')->oD i v σ H Q->oD i v σ H b :=λ_ _ _ _ _ h q=>h _ _ q
theorem IC:∀v σ H Q b,(∀a H',Q a H' ->b a H')->NB v σ H Q->NB v σ H b :=λ_ _ _ _ _ h q=>⟨q.1,h _ _ q.2⟩
theorem DX{t:TG}{u:GR}(mt:∀v σ H Q b,(∀a H',Q a H' ->b a H')->t v σ H Q->t v σ H b)(c:∀v σ H Q b,(∀a H',Q a H' ->b a H')->u v σ H Q->u v σ H b):
  ∀v σ H Q b,(∀a H',Q a H' ->b a H')->BV t u v σ H Q->BV t u v σ H b :=by
 intro vs σ H Q b h ⟨v,r,e,q⟩;exact⟨v,r,e,mt _ _ _ _ _ (λa H' d =>c _ _ _ _ _ h d) q⟩
variable{prog:Program}{w:World}{R:Result->Shared->Prop}{ifs:List Expr}{pos:Pos}{it acc:Value}
theorem B8{k a iter:Expr}(I:Nat->Shared->Prop)
  (l:∀n s,I n s->wpAny (model prog w) A (pyNext it) (λr b=>match r with
   | none=>R (.ok .next) b
   | some v=>wpAny (model prog w) A (letOwnedTupleGo a it v) (λ_ b=>wpAny (model prog w) A (assign a env v) (λ_ f=>
     wpAny (model prog w) A (forIn ifs true λc r=>if r=true then do let ok<-isTrue c env (eval c env);pure (ForInStep.yield ok) else pure (ForInStep.yield r)) (λok e=>
      if ok=true then wpAny (model prog w) A (eval k env) (λx g=>
       wpAny (model prog w) A (call (.builtin "list.append") [acc,x]) (λ_ i=>∃m,m<n/\I m i) (λ_ _=>False) g) (λ_ _=>False) e
      else ∃m,m<n/\I m e) (λ_ _=>False) f) (λ_ _=>False) b) (λ_ _=>False) b) (λ_ _=>False) s)
  (n:Nat) (h:I n s):codeAny (model prog w) A (.compLoop (.ListComp k [⟨a,iter,ifs,0⟩] scope pos) 0 it acc env) R s:=by
 refine codeAny_loop rfl I (λn s t=>?_) n h;show wpAny _ A ((compTurn (.ListComp k [⟨a,iter,ifs,0⟩] scope pos) 0 it acc env).onRaise (λx=>do noteFrame x env;theTreesLotGoes x)) _ _ s;refine wpAny_noted ?_;rw[compTurn_list];refine aFm (aH1 (aFm (aGa (l n s t) (λr b d=>?_) λ_ _ h' =>h'.elim)))
 cases r with
 | none=>exact aFo d
 | some v=>
  refine aFm (aGa d (λ_ b d=>?_) λ_ _ h' =>h'.elim);refine aFm (aGa d (λ_ f o=>aFm (aGa o (λok e j=>?_) λ_ _ h' =>h'.elim)) λ_ _ h' =>h'.elim)
  cases ok with
  | false=>exact aFo ⟨rfl,j⟩
  | true=>
   exact aFm (aFm (aGa j (λx g p=>aFm (aGa p (λ_ i q=>aFo (aFo ⟨rfl,q⟩)) λ_ _ h' =>h'.elim)) λ_ _ h' =>h'.elim))
def CK(P:Program)(w:World)(p:Addr)(ks:List Key):HO:= .ext λ_ h=>ST.lQ (aR P w) (ST.eP w) h p ks
variable{P:Program}{h:Heap}
theorem yF{H:Hp}{p:Addr}{ks:List Key}(x:ST.lQ (aR P w) (ST.eP w) h p ks):cA P w H h p (CK P w p ks):=
 ⟨x,by obtain⟨o,_,_,_,ho,_⟩:=x;exact⟨o,ho⟩,λa b q k=>q.keep λo e=>k o e⟩
def vJ:V->Option Key
 | .int i=>some (.inl i)
 | .str x=>some (.inr x)
 | _=>none
abbrev cmE(b:Bool)(a:Expr)(gs:List Comprehension)(sc:Scope)(pos:Pos):Expr:=match b with
 | false=>.ListComp a gs sc pos
 | true=>.SetComp a gs sc pos
def CT(P:Program)(w:World)(b:Bool)(a:Addr)(c:List V):HO:=match b with
 | false=>.lst c
 | true=>CK P w a (ST.bL [] (c.filterMap vJ))
abbrev cmN(b:Bool):Sem Value:=match b with
 | false=>newList []
 | true=>newSet (.type "set")
variable{Q:aJo}
theorem YL{E:aJo}{b:Bool}(h:∀G:Heap,(∀c o,s.heap.get? c=some o->G.get? c=some o)->G.objs.size=s.heap.objs.size+1->
  (∀H,cA P w H G s.heap.objs.size (CT P w b s.heap.objs.size []))->Q (.ref s.heap.objs.size) {s with heap:=G}):wpAny (model P w) A (cmN b) Q E s:=by
 cases b with
 | false=>exact aG6 (h _ (λc o e=>aFn _ e) (aHq _ _) λH=>⟨aGm _,[],0,.nil,aFs _ rfl⟩)
 | true=>
  unfold cmN newSet;exact aFm (ST.j5 (aG6 (h _ (λc o e=>aFn _ e) (aHq _ _) λH=>yF (ST.uK (aFs _ rfl)))))
structure TK{α:Type}(P:Program)(w:World)(e:Expr)(gs:List Comprehension)(nw:Sem Value)(O:Addr->α->HO)(y0:α):Prop where
 cl:clausesOf e=gs
 nw:∀{A:Around} {E:aJo} {s:Shared} {Q:aJo},sysModules<s.heap.objs.size->(∀G:Heap,(∀c o,s.heap.get? c=some o->G.get? c=some o)->G.objs.size=s.heap.objs.size+1->
  (∀H,cA P w H G s.heap.objs.size (O s.heap.objs.size y0))->Q (.ref s.heap.objs.size) {s with heap:=G})->wpAny (model P w) A nw Q E s
 den:∀d it acc env,(model P w).den (.compStart e d it acc env)=(compStart e d it acc env).onRaise (λx=>do noteFrame x env;standAt theWindowsPlace)
 un:∀(A:Around) d it acc env,A.under (.compStart e d it acc env)=A
variable{elt:Expr}{gs:List Comprehension}
theorem NM{b:Bool}:TK P w (cmE b elt gs scope pos) gs (cmN b) (CT P w b) []:=
 ⟨by cases b <;> rfl,λ_ h=>YL h,by intros;cases b <;> rfl,by intros;cases b <;> rfl⟩
theorem B9{α:Type}{e:Expr}{nw:Sem Value}{O:Addr->α->HO}{y0:α}{d:Nat}{g:Comprehension}(ok:TK prog w e gs nw O y0)(c:gs[d]? =some g)(f:g.is_async=0)
  (h0:codeAny (model prog w) A (.compLoop e d it acc env) R s)
  (h:wpAny (model prog w) A (pyIter it) (λa b =>codeAny (model prog w) A (.compLoop e d a acc env) R b) (notedBy (model prog w) A env λx b =>R (.error x) b) s):
  codeAny (model prog w) A (.compStart e d it acc env) R s:=by
 refine codeAny_of_tree ?_;rw[ok.den,ok.un];refine wpAny_notedAt ?_;unfold compStart;rw[ok.cl,c];simp only[Option.elim,f,bne_self_eq_false,Bool.false_eq_true,if_false];refine aFm (aIv (wpAny_ite ?_));split
 ·exact aFo (And.intro rfl h0)
 ·exact aFm (aGt (aFm (aH1 (aFm (aGa h (λa b h' =>aFo (And.intro rfl h')) λ_ _ x=>x)))))
abbrev S9(α:Type):=α->St->Hp->(α->Hp->Prop)->Prop
abbrev TBd:=S9 (List V)
def JT{α:Type}(O:Addr->α->HO)(y0:α)(own:List Str)(aD:List Nat)(wi:TI)(g:TG)(tt:TT)(tb:Addr->S9 α):TE:=λσ H Q=>wi σ H λJ e=>∀acc,e acc=none->
 ∃W:Nat->Nat->α->Hp->Prop,(∃m,W 0 m y0 (upd e acc (O acc y0)))/\∀i m d H,W i m d H->H acc=some (O acc d)/\
  ((J.stop i H/\Q (.ref acc) H)\/(J.go i H/\∃N:α->Hp->Prop,(∀a H',N a H' ->∃f,f<m/\W (i+1) f a H')/\
   ∀x H',J.OL i H x H' ->g x (qQ own aD σ) H' λc j=>tt c j λb h=>if b=true then tb acc d c h N else N d h))
abbrev UX(P:Program)(w:World)(b:Bool):=JT (CT P w b) []
def tbE(te:TE)(acc:Addr):TBd:=λa σ H N=>a.length<sizeLine/\te σ H λy b=>b acc=some (.lst a)/\N (a++[y]) (upd b acc (.lst (a++[y])))
def tLC(own:List Str)(aD:List Nat)(wi:TI)(g:TG)(tt:TT)(te:TE):TE:=λσ H Q=>∀P w,UX P w false own aD wi g tt (tbE te) σ H Q
variable{tg iter:Expr}{pins:List (Addr×Obj)}{use:Option (Value->Sem Unit)}
theorem qR{α:Type}{e:Expr}{nw:Sem Value}{O:Addr->α->HO}{y0:α}{more:List Comprehension}{wi:TI}{g:TG}{tt:TT}{tb:Addr->S9 α}(ce:TK X.prog X.w e (⟨tg,iter,ifs,0⟩::more) nw O y0)(own:List Str)(o1:Nat)(aD:List Nat)(B:Env->Addr->(Shared->Prop)->Shared->Prop)
  (hN:X.N=N) (hsc:X.env.scope=sc) (chk:bW N sc scope aD=true) (cS:X.calm=true) (hi:PI X tg iter wi) (ho1:o1<=own.length) (ho:j7 o1 g)
  (hg:∀cl C fp s₀ H₀,PG (aG X own aD scope cl C fp s₀ H₀) tg g) (ht:∀cl C fp s₀ H₀,OH (aG X own aD scope cl C fp s₀ H₀) ifs tt)
  (hbody:∀acc cl C fp s₀ H₀ pins s σ H ys NN K,Inv (aG X own aD scope cl C fp s₀ H₀) pins σ H s->(∀j,o1<=j->j<own.length->σ[j]? =some none)->tb acc ys σ H NN->
   (∀D H' s',Inv (aG X own aD scope cl C fp s₀ H₀) pins σ H' s' ->NN D H' ->K s')->B (compEnvC scope cl C X.env) acc K s)
  (hloop:∀(it acc:Addr) (env:Env) (R:Result->Shared->Prop) (I:Nat->Shared->Prop),(∀n s,I n s->wpAny (model X.prog X.w) X.A (pyNext (.ref it)) (λr L=>match r with
   | none=>R (.ok .next) L
   | some v=>wpAny (model X.prog X.w) X.A (letOwnedTupleGo tg (.ref it) v) (λ_ L=>wpAny (model X.prog X.w) X.A (assign tg env v) (λ_ s₂=>
     wpAny (model X.prog X.w) X.A (forIn ifs true λc r=>if r=true then do let ok<-isTrue c env (eval c env);pure (ForInStep.yield ok) else pure (ForInStep.yield r)) (λok s₃=>
      if ok=true then B env acc (λs=>∃m,m<n/\I m s) s₃ else ∃m,m<n/\I m s₃) (λ_ _=>False) s₂) (λ_ _=>False) L) (λ_ _=>False) L) (λ_ _=>False) s)->
   ∀n s,I n s->codeAny (model X.prog X.w) X.A (.compLoop e 0 (.ref it) (.ref acc) env) R s)
  (hs:∀x,foldedSetIterable iter X.env x=pure x)   {σ:St} {H:Hp} {Q:VK}  {Q' :aJo} (I:Inv X pins σ H s) (h:JT O y0 own aD wi g tt tb σ H Q)
  (hend:∀(acc C:Addr) (m:aJq) (H5:Hp) (s6:Shared) (r:Flow),Inv X pins σ H5 s6->H5 C=none->C≠X.env.locals->X.s₀.heap.objs.size<=C->(∀x c,X.env.cells.lookup x=some c->c≠C)->(∀p∈X.pn++pins,p.1≠C)->s6.heap.Ns C m->Q (.ref acc) H5->
   compPost (model X.prog X.w) X.A X.xe use Q' (.ref acc) C (.ok r) s6):
  wpAny (model X.prog X.w) X.A (comprehension e scope X.env (firstIterPos (⟨tg,iter,ifs,0⟩::more) pos) nw (firstAsync (⟨tg,iter,ifs,0⟩::more)) (firstIter (⟨tg,iter,ifs,0⟩::more) X.env) use) Q' X.xe s:=by
 have ck:=ET.of hN hsc chk;have hcl:∀x∈scope.names,x.2= .free->∃c,X.env.cells.lookup x.1=some c:=λx hx hf=>I.ok.has x.1 (ck.fr x hx hf);refine wpAny_comprehension_free (use:=use) (cl:=j4 scope.names X.env.cells []) ce.cl hs (vY hcl) ck.kind ck.loc (bV (hi pins s σ H _ I h) λv s1 h1=>bV h1 λitv s2 h2=>?_);obtain⟨it,fp,tn,J,H2,e,I2,T,st2,f2,hW⟩:=h2;subst e;refine ce.nw (by have:=I2.mod.glob.keeps I2.bk;exact aIn (by decide) this.lt) λG hGk hGs hGo=>vR (λM S kept hcs=>?_);dsimp only at S kept hcs⊢;have hacc0:H2 s2.heap.objs.size=none:=I2.bG.fresh (aFq _);obtain⟨W,⟨m0,w0⟩,turn⟩:=hW s2.heap.objs.size hacc0;have f:Inv X pins σ (upd H2 s2.heap.objs.size (O s2.heap.objs.size y0)) {s2 with heap:=G}:=I2.laid (t' :=s2.toks) hGk (aFq _) (hGo _);generalize hH3:upd H2 s2.heap.objs.size (O s2.heap.objs.size y0)=H3 at f w0
 have Z:∀x c,(j4 scope.names X.env.cells []).lookup x=some c->X.env.cells.lookup x=some c:=λx c e=>by
  have:=xO (cells:=X.env.cells) (P:=λx c=>X.env.cells.lookup x=some c) scope.names [] (by simp) (λn hn=>by
   obtain⟨c,hc⟩:=hcl (n,.free) hn rfl;have hc' :X.env.cells.lookup n=some c:=hc
   rw[hc'];rfl) (x,c) (aGh e)
  exact this
 have oldHas:∀x,scope.names.lookup x=some .free->∃c,(j4 scope.names X.env.cells []).lookup x=some c:=λx e=>by
  obtain⟨c,hc⟩:=xP (cells:=X.env.cells) scope.names [] x (aGh e);exact cG hc
 have newNo:∀x,scope.names.lookup x=some .free->(cellsFrom (G.objs.size+1) scope.names []).lookup x=none:=λx e=>by
  cases q:(cellsFrom (G.objs.size+1) scope.names []).lookup x with
  | none=>rfl
  | some c=>
   rcases EB _ _ _ (aGh q) with z | z
   ·cases z
   ·have:=ck.cel _ z rfl;rw[e]at this;cases this
 have oldLt:∀x c,X.env.cells.lookup x=some c->c<G.objs.size:=λx c e=>by obtain⟨v,z⟩:=f.cell x c e;exact z.lt
 generalize U :cellsFrom (G.objs.size+1) scope.names []++j4 scope.names X.env.cells []=cl at⊢
 have l:∀x c,cl.lookup x=some c->X.env.cells.lookup x=some c\/(G.objs.size<c/\M.IsCell c none/\(x,c)∈cellsFrom (G.objs.size+1) scope.names []):=λx c e=>by
  rw[<-U,List.lookup_append]at e
  cases q:(cellsFrom (G.objs.size+1) scope.names []).lookup x with
  | none=>rw[q]at e;exact .inl (Z x c (by simpa using e))
  | some c' =>
   rw[q]at e;have e' :c' =c:=by simpa using e
   subst e';have hm:=aGh q;obtain⟨z1,z2⟩:=hcs.empty _ _ hm;exact .inr ⟨z2,z1,hm⟩
 have clHas:∀x,scope.names.lookup x=some .free->∃c,cl.lookup x=some c/\X.env.cells.lookup x=some c:=λx e=>by
  obtain⟨c,hc⟩:=oldHas x e;refine⟨c,?_,Z x c hc⟩;rw[<-U,List.lookup_append,newNo x e,hc];rfl
 have clNew:∀x,scope.names.lookup x=some .cell->∃c,cl.lookup x=some c:=λx e=>by
  obtain⟨c,hc⟩:=zS scope.names (G.objs.size+1) [] (aGh e);exact cG (c:=c) (by rw[<-U];exact aI0 _ hc)
 have fpObj:=T.obj _ _ st2;have fpLt:∀b∈fp,b<s2.heap.objs.size:=λb a=>by obtain⟨o,e,_⟩:=fpObj b a;exact aFu e
 have bG:(aG X own aD scope cl G.objs.size fp {s2 with heap:=G} H3).Ok:=by
  refine⟨f.ok.mod,ck.kind,f.ok.glob,f.ok.blt,aFq _,λx y c e1 t=>?_,λx hx=>?_,λx c hf e=>?_,f.ok.hd,f.ok.frames,.inl rfl,λb a=>⟨?_,λx c e=>?_⟩,f.bs,aG2 f.ok.S1 f.sz,λb o e a=>?_,λb a z=>?_,f.stack,f.FF⟩
  ·have two:∀{x c},cl.lookup x=some c->_:=λ{x c} e=>l x c e;rcases two e1 with z1 | ⟨z1,_,m1⟩
   ·rcases two t with z2 | ⟨z2,_,m2⟩
    ·exact f.ok.inj x y c z1 z2
    ·have:=oldLt x c z1;exact absurd this (by lia)
   ·rcases two t with z2 | ⟨z2,_,m2⟩
    ·have:=oldLt y c z2;exact absurd this (by lia)
    ·exact name_of_addr hcs.apart m1 m2
  ·have hx:(relabel scope X.env).names.lookup x=some .cell\/(relabel scope X.env).names.lookup x=some .free:=hx
   have fr:∀{x},scope.names.lookup x=some .free->∃c,cl.lookup x=some c:=λ{x} e=>by
    obtain⟨c,h1,_⟩:=clHas x e;exact⟨c,h1⟩
   rcases hx with q | q
   ·obtain⟨k,hk,z | ⟨z,_⟩⟩:=pK q
    ·exact clNew x (by rw[hk,<-z])
    ·exact fr (by rw[hk,z])
   ·obtain⟨k,hk,z | ⟨_,z⟩⟩:=pK q
    ·exact fr (by rw[hk,<-z])
    ·cases z
  ·have hx:scope.names.lookup x=some .cell:=aIw.mp hf;obtain⟨c',hc'⟩:=zS scope.names (G.objs.size+1) [] (aGh hx);obtain⟨c'',hc''⟩:=cG hc';have e:cl.lookup x=some c:=e;rw[<-U,List.lookup_append,hc'']at e;have e' :c'' =c:=by simpa using e
   subst e';exact aGs (hcs.empty _ _ (aGh hc'')).2
  ·exact aFz (aIn (fpLt b a) (by show s2.heap.objs.size<G.objs.size;rw[hGs];exact aGu _))
  ·rcases l x c e with z | ⟨z,_⟩
   ·exact(f2 b a).2.2.2.2.1 x c z
   ·exact aGp (aIn (aIn (fpLt b a) (by show s2.heap.objs.size<G.objs.size;rw[hGs];exact aGu _)) z)
  ·rcases(f2 b a).2.2.2.1 with z | z
   ·exact f.ok.K5 b o e z
   ·exact absurd (aG4 (aFu e) (aG2 f.ok.S1 z)) (aH6 _)
  ·rcases aFy.mp (f.C2 b z) with q | q
   ·exact(f2 b a).2.1 q
   ·exact(f2 b a).2.2.1 q
 have hCn:H3 G.objs.size=none:=f.bG.fresh (aFq _)
 have I4:Inv (aG X own aD scope cl G.objs.size fp {s2 with heap:=G} H3) [] (qQ own aD σ) H3 {s2 with heap:=M}:=by
  refine⟨bG,rfl,f.bare,Un.kept kept,⟨_,S,λi x v e1 t e3=>?_⟩,λx c e=>?_,hCn,λx c e=>?_,λp hp=>absurd hp (by simp[aG]),f.bG.kept kept,by simp[qQ,aG]⟩
  ·have hge:own.length<=i:=by
    refine aIu λhlt=>?_;unfold qQ at t;rw[List.getElem?_append_left (by simpa using hlt),List.getElem?_map]at t
    cases q:own[i]? with
    | none=>rw[q]at t;simp at t
    | some z=>rw[q]at t;simp at t
   unfold qQ at t;have V :(own++aD.map λi=>X.N.getD i "")[i]? =some x:=e1;rw[List.getElem?_append_right hge,List.getElem?_map]at V;rw[List.getElem?_append_right (by simpa using hge),List.getElem?_map]at t;simp only[List.length_map]at t
   cases q:aD[i-own.length]? with
   | none=>rw[q]at V;simp at V
   | some k=>
    rw[q]at V t;simp only[Option.map_some,Option.some.injEq]at V t;obtain⟨x',hx',E⟩:=ck.cap k (aFx q);have ex:x' =x:=by rw[<-V,List.getD_eq_getElem?_getD,hx'];rfl
    subst ex
    have e2' :σ[k]? =some (some v):=by
     cases w:σ[k]? with
     | none=>rw[w]at t;simp at t
     | some z=>rw[w]at t;simp at t;rw[t]
    have kx:=ck.fr _ (aGh E) rfl
    have visX:Vis X.env.scope x' :=by
     rcases kx with z | z
     ·exact .inr (.inl z)
     ·exact .inr (.inr z)
    obtain⟨m,hn,hl⟩:=f.loc;obtain⟨u,ru,lk⟩:=hl k x' v hx' e2' visX;refine⟨u,ru,.inr ⟨yG E,?_⟩⟩
    rcases lk with ⟨z,_⟩ | ⟨_,c,hc,hcell⟩
    ·rcases kx with z' | z' <;> (have z'' :=z.symm.trans z';cases z'')
    ·obtain⟨c',hc',this⟩:=clHas x' E;rw[hc]at this;cases this;obtain⟨o,ho,hd⟩:=hcell;exact⟨c,hc',⟨o,kept _ _ ho,hd⟩⟩
  ·rcases l x c e with z | ⟨_,z,_⟩
   ·obtain⟨v,o,ho,hd⟩:=f.cell x c z;exact⟨v,o,kept _ _ ho,hd⟩
   ·exact⟨_,z⟩
  ·rcases l x c e with z | ⟨z,_⟩
   ·exact f.j2 x c z
   ·exact f.bG.fresh (aGs z)
 have st4:tn 0 M:=T.keep _ _ _ st2 λb a o e=>kept b o (hGk b o e);have fp4:∀b∈fp,H3 b=none:=λb a=>by rw[<-hH3,aK (Nat.ne_of_lt (fpLt b a))];exact(f2 b a).1
 have stat:∀{H' :Hp},(∀b∈fp,H' b=none)->∀b∈fp,qA (aG X own aD scope cl G.objs.size fp {s2 with heap:=G} H3) [] H' b:=λhn b a=>
  ⟨hn b a,(bG.exf b a).1,bG.NF b a,.inl a,(bG.exf b a).2,λp hp=>absurd hp (by simp[aG])⟩
 have loop:codeAny (model X.prog X.w) X.A (.compLoop e 0 (.ref it) (.ref s2.heap.objs.size) (compEnvC scope cl G.objs.size X.env))
   (compPost (model X.prog X.w) X.A X.xe use Q' (.ref s2.heap.objs.size) G.objs.size) {s2 with heap:=M}:=by
  refine hloop _ _ _ _ (λn s' =>∃i ys H',Inv (aG X own aD scope cl G.objs.size fp {s2 with heap:=G} H3) [] (qQ own aD σ) H' s' /\tn i s'.heap/\(∀b∈fp,H' b=none)/\W i n ys H') ?_ m0 _ ⟨0,y0,H3,I4,st4,fp4,w0⟩;rintro n s5 ⟨i,ys,H5,I5,st5,fr5,w5⟩;obtain⟨hacc,turn5⟩:=turn i n ys H5 w5
  rcases turn5 with ⟨stop,q⟩ | ⟨go,NN,hNN,step⟩
  ·refine bV (T.done (aG X own aD scope cl G.objs.size fp {s2 with heap:=G} H3) rfl rfl rfl cS i [] s5 _ H5 (λ_ _=>False) I5 (stat fr5) st5 stop) λr s6 zz0=>?_;obtain⟨hr,I6⟩:=zz0;subst hr;obtain⟨m,hm,_⟩:=id I6.loc
   have I7:Inv X pins σ H5 s6:=f.aCd (ch:=fp) I6.os I6.base I6.bG I6.bare λb a=>⟨(f2 b a).2.2.2.1,(f2 b a).2.1,λx c e=>(f2 b a).2.2.2.2.1 x c e,λp hp=>(f2 b a).2.2.2.2.2 p hp⟩
   exact hend _ _ m H5 s6 _ I7 I6.free (aGp (by have:=f.lt;exact this)) f.sz (λx c e=>by obtain⟨v,z⟩:=f.cell x c e;exact aFz z.lt) (λp hp=>aFz (aFu (f.pin p hp).1)) hm q
  ·refine bV (T.item (aG X own aD scope cl G.objs.size fp {s2 with heap:=G} H3) rfl rfl rfl cS i [] s5 _ H5 (λ_ _=>False) I5 (stat fr5) st5 go) λr s6 zz1=>?_;obtain⟨u,hr,h6⟩:=zz1;subst hr;refine bV h6 λ_ s7 zz2=>?_;obtain⟨x,H7,I7,r7,y7,st7,fr7⟩:=zz2;have I7' :=I7.pinned (stat fr7) (T.obj _ _ st7);refine bV (hg _ _ _ _ _ _ s7 _ H7 x u _ I7' r7 (ho _ _ _ _ (step x H7 y7))) λ_ s8 zz3=>?_;obtain⟨σ8,H8,I8,q8,l8,k8⟩:=zz3;refine bV (ht _ _ _ _ _ _ s8 σ8 H8 _ I8 q8) λok s9 zz4=>?_;obtain⟨H9,I9,q9⟩:=zz4
   have again:∀{D:α} {F:Hp} {Y:Shared},Inv (aG X own aD scope cl G.objs.size fp {s2 with heap:=G} H3) ([]++qE fp s7.heap) σ8 F Y->NN D F->
     ∃m,m<n/\∃i ys H',Inv (aG X own aD scope cl G.objs.size fp {s2 with heap:=G} H3) [] (qQ own aD σ) H' Y/\tn i Y.heap/\(∀b∈fp,H' b=none)/\W i m ys H' :=λ{D F Y} I10 n10=>by
    obtain⟨m',hm,w10⟩:=hNN D F n10
    have I10' :Inv (aG X own aD scope cl G.objs.size fp {s2 with heap:=G} H3) ([]:List (Addr×Obj)) (qQ own aD σ) F Y:=I10.mH.weak l8.symm λj v e=>by
     have hge:own.length<=j:=by
      refine aIu λhlt=>?_;unfold qQ at e;rw[List.getElem?_append_left (by simpa using hlt),List.getElem?_map]at e
      cases q:own[j]? with
      | none=>rw[q]at e;simp at e
      | some z=>rw[q]at e;simp at e
     rw[k8 j (Nat.le_trans ho1 hge)];exact e
    refine⟨m',hm,i+1,D,F,I10',T.keep _ _ _ st7 λb a o e=>(I10.pin (b,o) (aG8 _ (aG8 _ (fB a e)))).1,λb a=>?_,w10⟩;obtain⟨o,e,d⟩:=T.obj _ _ st7 b a;exact(I10.pin (b,o) (aG8 _ (aG8 _ (fB a e)))).2.1
   cases ok with
   | false=>exact again I9 q9
   | true=>
    rw[if_pos rfl];refine hbody _ _ _ _ _ _ _ s9 σ8 H9 ys NN _ I9 (λj hj1 hj2=>?_) q9 λD F Y I10 q10=>again I10 q10;rw[k8 j hj1];unfold qQ;rw[List.getElem?_append_left (by simpa using hj2),List.getElem?_map];simp[hj2]
 exact B9 ce (g:=⟨tg,iter,ifs,0⟩) rfl rfl loop (T.self _ 0 _ _ _ st4 loop)
theorem uX{σ:St}{Q:VK}(acc C:Addr)(m:aJq)(a:Hp)(d:Shared)(r:Flow)(f:Inv X pins σ a d)(g:a C=none)(h:C≠X.env.locals)(i:X.s₀.heap.objs.size<=C)(j:∀x c,X.env.cells.lookup x=some c->c≠C)(k:∀p∈X.pn++pins,p.1≠C)(l:d.heap.Ns C m)(q:Q (.ref acc) a):
  compPost (model X.prog X.w) X.A X.xe none (EP X pins σ Q) (.ref acc) C (.ok r) d:=
 ⟨m,l,λh' n=>⟨.ref acc,a,f.turned (t' :=d.toks) (it:=C) (λb o s e=>n.extBut b o s e) g h (.inr i) j k,rfl,q⟩⟩
section
variable {X:Cx}{tg iter elt:Expr}{ifs:List Expr}{scope sc:Scope}{N:List Str}{pos:Pos}{wi:TI}{g:TG}{tt:TT}{te:TE}(own:List Str)(aD:List Nat)
  (hN:X.N=N) (hsc:X.env.scope=sc) (chk:bW N sc scope aD=true) (cS:X.calm=true) (hi:PI X tg iter wi) (ho:j7 own.length g)
  (hg:∀cl C fp s₀ H₀,PG (aG X own aD scope cl C fp s₀ H₀) tg g) (ht:∀cl C fp s₀ H₀,OH (aG X own aD scope cl C fp s₀ H₀) ifs tt)
  (he:∀cl C fp s₀ H₀,PE (aG X own aD scope cl C fp s₀ H₀) elt te)
include hN hsc chk cS hi ho hg ht he
theorem F0(F:∀x,foldedSetIterable iter X.env x=pure x){σ:St}{H:Hp}{Q:VK}{E :aJo}(I:Inv X pins σ H s)(h:tLC own aD wi g tt te σ H Q)
  (d:∀(acc C:Addr) (m:aJq) (f:Hp) (i:Shared) (r:Flow),Inv X pins σ f i->f C=none->C≠X.env.locals->X.s₀.heap.objs.size<=C->(∀x c,X.env.cells.lookup x=some c->c≠C)->(∀p∈X.pn++pins,p.1≠C)->i.heap.Ns C m->Q (.ref acc) f->
   compPost (model X.prog X.w) X.A X.xe use E (.ref acc) C (.ok r) i):
  wpAny (model X.prog X.w) X.A (comprehension (.ListComp elt [⟨tg,iter,ifs,0⟩] scope pos) scope X.env (firstIterPos [⟨tg,iter,ifs,0⟩] pos) (newList []) (firstAsync [⟨tg,iter,ifs,0⟩]) (firstIter [⟨tg,iter,ifs,0⟩] X.env) use) E X.xe s:=by
 refine qR (NM (b:=false)) own own.length aD (λenv acc K s=>wpAny (model X.prog X.w) X.A (eval elt env) (λx G=>wpAny (model X.prog X.w) X.A (call (.builtin "list.append") [.ref acc,x]) (λ_ J=>K J) (λ_ _=>False) G) (λ_ _=>False) s)
  hN hsc chk cS hi (aFq _) ho hg ht (λacc cl C fp s₀ H₀ pins s σ H L M K N _ q k=>?_) (λit acc env R I e n s h=>B8 I e n h) F I (h _ _) d
 refine bV (he _ _ _ _ _ _ s σ H _ N q.2) λO j l=>?_;obtain⟨y,o,t,P,a,u⟩:=l;refine bV (qH _ j σ o (.ref acc) [y] (.ref acc) [O] (λv H' =>v= .bU/\M (L++[y]) H') t rfl (.cons P .nil) ⟨_,_,_,rfl,rfl,a,q.1,rfl,u⟩) λ_ S z=>?_;obtain⟨_,T,B,_,_,D⟩:=z;exact k _ _ _ B D
theorem aAk(a:∀x,foldedSetIterable iter X.env x=pure x:=by intro _;rfl):PE X (.ListComp elt [⟨tg,iter,ifs,0⟩] scope pos) (tLC own aD wi g tt te):=by
 intro pins s σ H Q I h;rw[eval_ListComp];exact F0 own aD hN hsc chk cS hi ho hg ht he a I h uX
end
theorem KO{pos d f:Pos}{wi:TI}{g:TG}{tt:TT}{te:TE}{x:Str}(own:List Str)(aD:List Nat)
  (hN:X.N=N) (hsc:X.env.scope=sc) (chk:bW N sc scope aD=true) (cS:X.calm=true) (hi:PI X tg iter wi) (ho:j7 own.length g)
  (hg:∀cl C fp s₀ H₀,PG (aG X own aD scope cl C fp s₀ H₀) tg g) (ht:∀cl C fp s₀ H₀,OH (aG X own aD scope cl C fp s₀ H₀) ifs tt)
  (he:∀cl C fp s₀ H₀,PE (aG X own aD scope cl C fp s₀ H₀) elt te)
  (nd:X.N.Nodup) (j:X.N[i]? =some x) (u:Loc X.env.scope x) (w:swapsWith (.ListComp elt [⟨tg,iter,ifs,0⟩] scope pos) (some (.Name x d)) f.line X.env=pure true)
  (y:X.fn x=true\/X.env.scope.names.lookup x=some .local) (A:∀x,foldedSetIterable iter X.env x=pure x:=by intro _;rfl):
  PS X (.Assign [.Name x d] (.ListComp elt [⟨tg,iter,ifs,0⟩] scope pos) f) (JV (tLC own aD wi g tt te) (oD i)):=by
 intro pins s σ H D I h;rw[arm_exec_Assign];refine aFm (aH1 (aFm (aJ1 (show swapsWithSole [.Name x d] _ f.line X.env=pure true from w) ?_)));rw[if_pos rfl];refine aFm (aFm (F0 (Q:=λv B=>D.nx (σ.set i (some v)) B) own aD hN hsc chk cS hi ho hg ht he A I h λacc C m E S r F G p J t K L q=>?_));show wpAny _ _ (assign (.Name x d) X.env (.ref acc)) _ _ _;refine PyProof.Rows.assign_Name (qD F nd j u (v:= .ref acc) rfl (λM O k=>?_) y);obtain⟨a,P,ha⟩:=k
 have l:C≠a:=by
  rcases ha with rfl | ha
  ·exact p
  ·exact λz=>t x a ha z.symm
 refine⟨m,?_,λh' n=>aFo (aFo ⟨_,E,?_,q⟩)⟩
 ·obtain⟨o,es,ep,e,c⟩:=L;exact⟨o,es,ep,(P.2 C l).trans e,c⟩
 ·exact O.turned (t' :=M.toks) (it:=C) (λb o R e=>n.extBut b o R e) G p (.inr J) t K
structure Src where
 it:Addr
 l:Addr
 tup:Bool
def Src.At(q:Src)(h:Heap)(i:Nat):Prop:=match q.tup with | true=>h.IsTupleIter q.it q.l i | false=>h.IsListIter q.it q.l i
def Src.Sq(q:Src)(h:Heap)(items:Array Value):Prop:=match q.tup with | true=>h.IsTuple q.l items | false=>h.IsList q.l items
variable{q:Src}{h':Heap}
theorem Src.At.to(x:q.At h i)(e:∀o,h.get? q.it=some o->h'.get? q.it=some o):q.At h' i:=by
 obtain⟨it,l,t⟩:=q;cases t <;> (obtain⟨o,ho,r⟩:=x;exact⟨o,e o ho,r⟩)
theorem Src.At.obj(x:q.At h i):∃o,h.get? q.it=some o/\o.data= .fields #[.ref q.l,.int i 0]:=by
 obtain⟨it,l,t⟩:=q;cases t <;> (obtain⟨o,ho,_,r⟩:=x;exact⟨o,ho,r⟩)
variable{items:Array Value}
theorem Src.Sq.to(x:q.Sq h items)(e:∀o,h.get? q.l=some o->h'.get? q.l=some o):q.Sq h' items:=by
 obtain⟨it,l,t⟩:=q;cases t <;> (obtain⟨o,ho,r⟩:=x;exact⟨o,e o ho,r⟩)
theorem Src.Sq.obj(x:q.Sq h items):∃o n,h.get? q.l=some o/\o.data= .seq items n:=by
 obtain⟨it,l,t⟩:=q;cases t <;> (obtain⟨o,ho,_,n,r⟩:=x;exact⟨o,n,ho,r⟩)
section
variable {prog:Program}{w:World}{A:Around}{E:aJo}{s:Shared}
theorem rT{it l:Addr}{x:Value}(c:s.heap.IsTupleIter it l i)(g:s.heap.IsTuple l items)(h:items[i]? =some x)
  (j:∀h',h'.IsTupleIter it l (i+1)->Heap.SameBut it s.heap h' ->Q x {s with heap:=h'}):wpAny (model prog w) A (Builtin.SmallTypes.nextOf (.ref it)) Q E s:=by
 obtain⟨k,b,d,a⟩:=id c;obtain⟨os,e,_,ns,f⟩:=g;unfold Builtin.SmallTypes.nextOf;refine aFm (aG3 (name:=Str.ofString "__next__") c.typeIs aHh (aG1 aHh c.typeIs F.entry_tuple_iterator_next ?_ (F.args_tuple_iterator_next_1 _)));refine aFm (m:=field (.ref it) 0) (aG7 b a (x:= .ref l) rfl ?_);show wpAny _ _ (if (Value.ref l==Value.none)=true then _ else field (.ref it) 1 >>=_) _ _ s;rw[if_neg (show ¬((Value.ref l==Value.none)=true) from Bool.false_ne_true)];refine aFm (aG7 b a (x:= .int i 0) rfl ?_);refine aFm (m:=seqItems? (.ref l)) (aGq e f ?_);simp only[Int.toNat_natCast,h];refine aFm (aJf b a (by simp) (aFo ⟨x,rfl,aFo (j _ ⟨_,aGv _ b (Obj.isFreed_of_fields (Obj.data_mapFields a _)),(Obj.cls_mapFields ..).trans d,?_⟩ (aGg ..))⟩));rw[Obj.data_mapFields a];simp[rawInt]
theorem t7{it l:Addr}(h:A.handled=none)(b:s.heap.IsTupleIter it l i)(j:s.heap.IsTuple l items)(k:items[i]? =none)
  (n:∀h' e,Heap.ExtBut it s.heap h' ->(∃o,h'.get? e=some o/\o.cls= .type "StopIteration")->E (.ref e) {s with heap:=h'}):wpAny (model prog w) A (Builtin.SmallTypes.nextOf (.ref it)) Q E s:=by
 obtain⟨q,c,p,d⟩:=id b;obtain⟨os,f,_,ns,g⟩:=j;unfold Builtin.SmallTypes.nextOf;refine aFm (aG3 (name:=Str.ofString "__next__") b.typeIs aHh (aG1 aHh b.typeIs F.entry_tuple_iterator_next ?_ (F.args_tuple_iterator_next_1 _)));refine aFm (m:=field (.ref it) 0) (aG7 c d (x:= .ref l) rfl ?_);show wpAny _ _ (if (Value.ref l==Value.none)=true then _ else field (.ref it) 1 >>=_) _ _ s;rw[if_neg (show ¬((Value.ref l==Value.none)=true) from Bool.false_ne_true)];refine aFm (aG7 c d (x:= .int i 0) rfl ?_);refine aFm (m:=seqItems? (.ref l)) (aGq f g ?_);simp only[Int.toNat_natCast,k];refine aFm (aGt (aFm (aJf c d (by simp) ?_)));refine aFm (m:=newExc (.type "StopIteration") []) ?_;simp only[newExc,newTuple];refine aFm (aG6 ?_ (by size_fits));refine aFm (m:=firstArgMember _ _) (aJ1 (a:=Value.none) (by first | rfl | (simp only[firstArgMember];rfl)) ?_);refine aG6 (?_:_) (by size_fits);simp only[raiseNew];refine aFm (wpAny_handled (?_:_))
 first | rw[show A.in1.handled=none from h] | rw[h]
 refine aFm (aFo (wpAny_throw (?_:_)));exact n _ _ (((aGg ..).extBut.push _).push _) ⟨_,aFs _ rfl,rfl⟩
theorem Src.item{x:Value}(a:q.At s.heap i)(b:q.Sq s.heap items)(c:items[i]? =some x)
  (d:∀h',q.At h' (i+1)->Heap.SameBut q.it s.heap h' ->Q x {s with heap:=h'}):wpAny (model prog w) A (Builtin.SmallTypes.nextOf (.ref q.it)) Q E s:=by
 obtain⟨it,l,t⟩:=q;cases t
 ·exact wpAny_nextOf_list_item a b c d
 ·exact rT a b c d
theorem Src.done(b:A.handled=none)(a:q.At s.heap i)(c:q.Sq s.heap items)(d:items[i]? =none)
  (f:∀h' e,Heap.ExtBut q.it s.heap h' ->(∃o,h'.get? e=some o/\o.cls= .type "StopIteration")->E (.ref e) {s with heap:=h'}):wpAny (model prog w) A (Builtin.SmallTypes.nextOf (.ref q.it)) Q E s:=by
 obtain⟨it,l,t⟩:=q;cases t
 ·exact wpAny_nextOf_list_end b a c d f
 ·exact t7 b a c d f
theorem Src.start(a:q.Sq s.heap items)
  (c:∀h',(⟨s.heap.objs.size,q.l,q.tup⟩:Src).At h' 0->h'.objs.size=s.heap.objs.size+1->(∀b o,s.heap.get? b=some o->h'.get? b=some o)->Q (.ref s.heap.objs.size) {s with heap:=h'}):wpAny (model prog w) A (pyIter (.ref q.l)) Q E s:=by
 obtain⟨it,l,t⟩:=q;cases t
 ·exact aIo a (c _ ⟨_,aFs _ rfl,rfl,rfl⟩ (aHq ..) λb o e=>aFn _ e)
 ·exact aJd a (c _ ⟨_,aFs _ rfl,rfl,rfl⟩ (aHq ..) λb o e=>aFn _ e)
structure lM(h:Heap)(z TI TO:Addr)(qs:List Src)(f0:Value)(i:Nat):Prop where
 obj:h.get? z=some {cls:= .type "zip",dict:=none,data:= .fields #[f0,.bool false,.bool false,.ref TI,.ref TO],slots:= #[]}
 aN:∃n,h.get? TI=some {cls:= .type "tuple",data:= .seq (qs.map λq=>Value.ref q.it).toArray n}
 own:∃(xs:List Value) (n:Nat),xs.length=qs.length/\h.get? TO=some {cls:= .type "tuple",data:= .seq xs.toArray n}
 at_:∀q∈qs,q.At h i
structure oT(z TI TO:Addr)(qs:List Src):Prop where
 ne1:TI≠z
 ne2:TO≠z
 ne3:TI≠TO
 HX:∀q∈qs,q.it≠z/\q.it≠TI/\q.it≠TO
 nd:(qs.map (·.it)).Nodup
 src:∀q∈qs,q.l≠z/\q.l≠TO/\∀r∈qs,q.l≠r.it
end
section
variable {prog:Program}{w:World}{A:Around}{E:aJo}{s:Shared}
structure GV(h0 h:Heap)(z TI TO:Addr)(qs:List Src)(vals:List Value)(i j:Nat):Prop where
 obj:h.get? z=some {cls:= .type "zip",dict:=none,data:= .fields #[.ellipsis,.bool false,.bool false,.ref TI,.ref TO],slots:= #[]}
 own:∃(xs:List Value) (n:Nat),xs.length=qs.length/\xs.take j=vals.take j/\h.get? TO=some {cls:= .type "tuple",data:= .seq xs.toArray n}
 done:∀q∈qs.take j,q.At h (i+1)
 todo:∀q∈qs.drop j,q.At h i
 size:h.objs.size=h0.objs.size
 keep:∀c o,c≠z->c≠TO->(∀q∈qs,c≠q.it)->h0.get? c=some o->h.get? c=some o
theorem JD{z TI TO:Addr}{qs:List Src}{vals:List Value}(D:oT z TI TO qs)(Z:lM s.heap z TI TO qs .none i)(F:qs≠[])
  (hv:vals.length=qs.length) (B:∀(k:Nat) q x,qs[k]? =some q->vals[k]? =some x->∃items,q.Sq s.heap items/\items[i]? =some x) (hsz:qs.length<=sizeLine)
  (hQ:∀h',lM h' z TI TO qs (rawInt s.heap.objs.size) (i+1)->h'.get? s.heap.objs.size=some {cls:= .type "tuple",data:= .seq vals.toArray}->h'.objs.size=s.heap.objs.size+1->
   (∀c o,c≠z->c≠TO->(∀q∈qs,c≠q.it)->s.heap.get? c=some o->h'.get? c=some o)->Q (.ref s.heap.objs.size) {s with heap:=h'}):
  wpAny (model prog w) A (Builtin.«zip.__next__» ⟨[.ref z],[]⟩) (λfin s' =>∃v,fin= .done (.ret v)/\Q v s') E s:=by
 obtain⟨nI,N⟩:=Z.aN;obtain⟨xs0,n0,hx0,hTO⟩:=Z.own;refine aFm (m:=field (.ref z) 2) (aG7 Z.obj rfl (x:= .bool false) rfl ?_);refine aFm (m:=field (.ref z) 3) (aG7 Z.obj rfl (x:= .ref TI) rfl ?_);refine aFm (m:=seqItems? (.ref TI)) (aGq N rfl ?_)
 have O:(qs.map λq=>Value.ref q.it).toArray.isEmpty=false:=by cases qs with | nil=>exact absurd rfl F | cons a r=>rfl
 simp only[O];refine aFm (m:=Builtin.SmallTypes.ownedTupleIsFree (.ref z)) ?_;refine aFm (m:=field (.ref z) 0) (aG7 Z.obj rfl (x:= .none) rfl (aFo ?_));simp only[if_true];refine aFm (aGt ?_);refine aFm (aG7 Z.obj rfl (x:= .ref TO) rfl ?_);refine aFm (aG0 Z.obj (by simp) λh1 z1 l=>?_);refine aFm ?_;refine wpAny_forIn_list _ (λC b s' =>b.1=none/\∃j h',s' ={s with heap:=h'}/\C=((qs.map λq=>Value.ref q.it).zipIdx).drop j/\j<=qs.length/\GV s.heap h' z TI TO qs vals i j) _ ?turn ?fin _ _ ?start
 case start=>
  refine⟨rfl,0,h1,rfl,by simp,aGm _,?_⟩;refine⟨z1,⟨xs0,n0,hx0,by simp,l.extBut _ _ D.ne2 hTO⟩,by simp,λq B=>?_,l.1,λc o f _ _ e=>l.extBut _ _ f e⟩;have P :q∈qs:=by simpa using B
  exact(Z.at_ q P).to λo e=>l.extBut _ _ (D.HX q P).1 e
 case turn=>
  rintro x C b s5 ⟨hb,j,h',rfl,hd,hj,d⟩
  have g:j<qs.length:=by
   refine Nat.lt_of_not_le λhle=>?_;rw[List.drop_eq_nil_of_le (by simpa using hle)]at hd;cases hd
  have R :=hd;rw[List.drop_eq_getElem_cons (by simpa using g)]at R;injection R with ex er;have S:x=(Value.ref qs[j].it,j):=by rw[ex];simp
  have h:qs[j]? =some qs[j]:=aGi g;have G:vals[j]? =some vals[j]:=aGi (by lia);generalize hqq:qs[j]=q at h S;generalize hvv:vals[j]'(by lia)=v at G;subst S;have H:q∈qs:=aFx h;obtain⟨items,hSq,hit⟩:=B j q v h G;obtain⟨l1,l2,l3⟩:=D.src q H;have T :q.Sq h' items:=hSq.to λo e=>d.keep _ o l1 l2 l3 e;have hAt:q.At h' i:=d.todo q (by rw[List.drop_eq_getElem_cons g,hqq];exact aFr);refine aFm (aIz ?_);show wpAny _ _ (Builtin.SmallTypes.nextOf (.ref q.it) >>=_) _ _ _;refine aFm (Src.item (s:={s with heap:=h'}) hAt T hit λY at2 I=>aFo ?_);obtain⟨xs,n,t,u,hO⟩:=d.own;have J:=D.HX q H;have K:Y.get? TO=some {cls:= .type "tuple",data:= .seq xs.toArray n}:=I.extBut _ _ (aGd J.2.2) hO;refine aFm (m:=seqItems? (.ref TO)) (aGq K rfl ?_);refine aFm (aHx K rfl ?_);refine aFm (aJ2 (aFo ?_))
  have apart:∀(k:Nat) p,qs[k]? =some p->k≠j->p.it≠q.it:=λk p hk F e=>by
   have h1:(qs.map (·.it))[k]? =some q.it:=by rw[List.getElem?_map,hk];simp[e]
   have Y:(qs.map (·.it))[j]? =some q.it:=by rw[List.getElem?_map,h];rfl
   obtain⟨a1,b1⟩:=aFp.mp h1;obtain⟨a2,b2⟩:=aFp.mp Y;refine F ?_;have pw:=aI4.mp D.nd;rcases Nat.lt_trichotomy k j with hlt | heq | hlt
   ·exact absurd (b1.trans b2.symm) (pw k j a1 a2 hlt)
   ·exact heq
   ·exact absurd (b2.trans b1.symm) (pw j k a2 a1 hlt)
  have L:∀c o,c≠TO->c≠q.it->h'.get? c=some o->(Y.update TO (Obj.mapSeq λx=>x.setIfInBounds j v)).get? c=some o:=λc o f M e=>(aGg ..).extBut _ _ f (I.extBut _ _ M e);refine⟨rfl,j+1,_,rfl,er,g,⟨L _ _ (aGd D.ne2) (aGd J.1) d.obj,⟨xs.set j v,n,by simpa using t,?_,?_⟩,λp U=>?_,λp U=>?_,?_,λc o f M c3 e=>L c o M (c3 q H) (d.keep c o f M c3 e)⟩⟩
  ·have V :vals[j]? =some v:=G;have hjx:j<xs.length:=by lia
   rw[List.take_add_one,List.take_add_one,V,List.getElem?_set_self hjx,List.take_set_of_le (Nat.le_refl j),u]
  ·rw[Heap.get?_update_self _ K (by rfl)];simp[Obj.mapSeq]
  ·rw[List.take_add_one,h]at U;rcases aG5.mp U with z | z
   ·obtain⟨k,hk⟩:=aI3 z
    have hkj:k<j:=by
     have:=(aFp.mp hk).1;rw[List.length_take]at this;lia
    rw[List.getElem?_take_of_lt hkj]at hk;exact(d.done p z).to λo e=>L _ o (D.HX p (aFx hk)).2.2 (apart k p hk (by lia)) e
   ·have:p=q:=by simpa using z
    subst this;exact at2.to λo e=>(aGg ..).extBut _ _ J.2.2 e
  ·obtain⟨k,hk⟩:=aI3 U;rw[List.getElem?_drop]at hk;have hp' :p∈qs.drop j:=by rw[List.drop_eq_getElem_cons g];exact aFt _ U
   exact(d.todo p hp').to λo e=>L _ o (D.HX p (aFx hk)).2.2 (apart _ p hk (by lia)) e
  ·rw[Heap.size_update,I.1];exact d.size
 case fin=>
  rintro⟨b1,b2⟩ s5 ⟨hb,j,h',rfl,hd,hj,d⟩
  have hje:j=qs.length:=by
   have:=aGx List.length hd;simp at this
   lia
  subst hje;have hb' :b1=none:=hb;subst hb';obtain⟨xs,n,t,u,hO⟩:=d.own
  have hxv:xs=vals:=by
   rw[List.take_of_length_le (by lia),List.take_of_length_le (by lia)]at u;exact u
  subst hxv;refine aFm (m:=seqItems? (.ref TO)) (aGq hO rfl ?_);refine aFm (aHa ?_ (by simpa using aG2 (aJl t) hsz));refine aFm (m:=Builtin.SmallTypes.ownedTupleHandOut (.ref z) (.ref h'.objs.size)) ?_;have z5:(h'.push {cls:= .type "tuple",data:= .seq xs.toArray}).get? z=some {cls:= .type "zip",dict:=none,data:= .fields #[.ellipsis,.bool false,.bool false,.ref TI,.ref TO],slots:= #[]}:=aFn _ d.obj;refine aFm (aG0 z5 (by simp) λh7 z7 W=>?_);refine aG0 z7 (by simp) λh8 z8 X=>aFo ⟨_,rfl,?_⟩;have zlt:z<h'.objs.size:=aFu d.obj;have L:∀c o,c≠z->(h'.push {cls:= .type "tuple",data:= .seq xs.toArray}).get? c=some o->h8.get? c=some o:=λc o f e=>X.extBut _ _ f (W.extBut _ _ f e);have y:∀c o,c≠z->h'.get? c=some o->h8.get? c=some o:=λc o f e=>L c o f (aFn _ e);show Q (.ref h'.objs.size) _;have hs:=d.size;rw[hs];refine hQ h8 ⟨?_,⟨nI,?_⟩,⟨xs,n,t,y _ _ D.ne2 hO⟩,λq B=>?_⟩ ?_ ?_ λc o f M c3 e=>y c o f (d.keep c o f M c3 e)
  ·rw[z8,hs];rfl
  ·exact y _ _ D.ne1 (d.keep _ _ D.ne1 D.ne3 (λq B=>aGd (D.HX q B).2.1) N)
  ·exact(d.done q (by rw[List.take_length];exact B)).to λo e=>y _ o (D.HX q B).1 e
  ·rw[<-hs];exact L _ _ (aGp zlt) (aFs _ rfl)
  ·rw[X.1,W.1,Heap.size_push,hs]
end
section
variable {prog:Program}{w:World}{A:Around}{E:aJo}{s:Shared}
variable{qs:List Src}
theorem OJ{z TI TO:Addr}{i k:Nat}{Q:PySem.Fin->Shared->Prop}(hh:A.handled=none)(D:oT z TI TO qs)(Z:lM s.heap z TI TO qs .none i)
  (X:∀(j:Nat) q,qs[j]? =some q->j<k->∃items x,q.Sq s.heap items/\items[i]? =some x) (hk:∃q items,qs[k]? =some q/\q.Sq s.heap items/\items[i]? =none) (hsz:qs.length<=sizeLine)
  (hE:∀h' e,(∀c o,c≠z->c≠TO->(∀q∈qs,c≠q.it)->s.heap.get? c=some o->h'.get? c=some o)->(∃o,h'.get? e=some o/\o.cls= .type "StopIteration")->E (.ref e) {s with heap:=h'}):
  wpAny (model prog w) A (Builtin.«zip.__next__» ⟨[.ref z],[]⟩) Q E s:=by
 obtain⟨nI,Y⟩:=Z.aN;obtain⟨J,n0,hx0,hTO⟩:=Z.own;obtain⟨qk,V,K,hSk,hik⟩:=hk;have hkl:k<qs.length:=(aFp.mp K).1;refine aFm (m:=field (.ref z) 2) (aG7 Z.obj rfl (x:= .bool false) rfl ?_);refine aFm (m:=field (.ref z) 3) (aG7 Z.obj rfl (x:= .ref TI) rfl ?_);refine aFm (m:=seqItems? (.ref TI)) (aGq Y rfl ?_)
 have L:(qs.map λq=>Value.ref q.it).toArray.isEmpty=false:=by cases qs with | nil=>simp at hkl | cons a r=>rfl
 simp only[L];refine aFm (m:=Builtin.SmallTypes.ownedTupleIsFree (.ref z)) ?_;refine aFm (m:=field (.ref z) 0) (aG7 Z.obj rfl (x:= .none) rfl (aFo ?_));simp only[if_true];refine aFm (aGt ?_);refine aFm (aG7 Z.obj rfl (x:= .ref TO) rfl ?_);refine aFm (aG0 Z.obj (by simp) λh1 z1 l=>?_);refine aFm ?_;refine wpAny_forIn_list _ (λB b s' =>∃j h' vals,s' ={s with heap:=h'}/\B=((qs.map λq=>Value.ref q.it).zipIdx).drop j/\j<=k/\GV s.heap h' z TI TO qs vals i j) _ ?turn ?fin _ _ ?start
 case start=>
  refine⟨0,h1,J,rfl,by simp,aGm _,?_⟩;refine⟨z1,⟨J,n0,hx0,by simp,l.extBut _ _ D.ne2 hTO⟩,by simp,λq X=>?_,l.1,λc o C _ _ e=>l.extBut _ _ C e⟩;have M :q∈qs:=by simpa using X
  exact(Z.at_ q M).to λo e=>l.extBut _ _ (D.HX q M).1 e
 case fin=>
  rintro b s5 ⟨j,h',vals,rfl,hd,hj,g⟩;have:=aGx List.length hd;simp at this
  lia
 case turn=>
  rintro x B b s5 ⟨j,h',vals,rfl,hd,hj,g⟩;have t:j<qs.length:=by lia
  have N :=hd;rw[List.drop_eq_getElem_cons (by simpa using t)]at N;injection N with ex er;have O:x=(Value.ref qs[j].it,j):=by rw[ex];simp
  have d:qs[j]? =some qs[j]:=aGi t;generalize hqq:qs[j]=q at d O;subst O;have u:q∈qs:=aFx d;have y:=D.HX q u;obtain⟨l1,l2,l3⟩:=D.src q u;have P:q.At h' i:=g.todo q (by rw[List.drop_eq_getElem_cons t,hqq];exact aFr);refine aFm (aIz ?_);show wpAny _ _ (Builtin.SmallTypes.nextOf (.ref q.it) >>=_) _ _ _;by_cases hjk:j=k
  ·subst hjk;obtain rfl:qk=q:=(aGe (d.symm.trans K)).symm;have h :=hSk.to (h' :=h') λo e=>g.keep _ o l1 l2 l3 e;refine aFm (Src.done (s:={s with heap:=h'}) hh P h hik λH e f he=>?_);obtain⟨oe,F,R⟩:=he;have z2:H.get? z=some {cls:= .type "zip",dict:=none,data:= .fields #[.ellipsis,.bool false,.bool false,.ref TI,.ref TO],slots:= #[]}:=f _ _ (aGd y.1) g.obj;have hez:e≠z:=λx=>by subst x;rw[z2]at F;cases F;simp at R
   refine aG0 z2 (by simp) λh3 _ S=>hE h3 e (λc o C I T q' =>S.extBut _ _ C (f _ _ (T _ u) (g.keep c o C I T q'))) ⟨oe,S.extBut _ _ hez F,R⟩
  ·obtain⟨items,v,hSq,hit⟩:=X j q d (by lia);have h :q.Sq h' items:=hSq.to λo e=>g.keep _ o l1 l2 l3 e;refine aFm (Src.item (s:={s with heap:=h'}) P h hit λH at2 f=>aFo ?_);obtain⟨xs,n,hxl,hxt,hO⟩:=g.own;have G:H.get? TO=some {cls:= .type "tuple",data:= .seq xs.toArray n}:=f.extBut _ _ (aGd y.2.2) hO;refine aFm (m:=seqItems? (.ref TO)) (aGq G rfl ?_);refine aFm (aHx G rfl ?_);refine aFm (aJ2 (aFo ?_))
   have apart:∀(k:Nat) p,qs[k]? =some p->k≠j->p.it≠q.it:=λk p hk hne e=>by
    have h1:(qs.map (·.it))[k]? =some q.it:=by rw[List.getElem?_map,hk];simp[e]
    have H:(qs.map (·.it))[j]? =some q.it:=by rw[List.getElem?_map,d];rfl
    obtain⟨a1,b1⟩:=aFp.mp h1;obtain⟨a2,b2⟩:=aFp.mp H;refine hne ?_;have pw:=aI4.mp D.nd;rcases Nat.lt_trichotomy k j with hlt | heq | hlt
    ·exact absurd (b1.trans b2.symm) (pw k j a1 a2 hlt)
    ·exact heq
    ·exact absurd (b2.trans b1.symm) (pw j k a2 a1 hlt)
   have W:∀c o,c≠TO->c≠q.it->h'.get? c=some o->(H.update TO (Obj.mapSeq λx=>x.setIfInBounds j v)).get? c=some o:=λc o C I e=>(aGg ..).extBut _ _ C (f.extBut _ _ I e);refine⟨j+1,_,xs.set j v,rfl,er,by lia,⟨W _ _ (aGd D.ne2) (aGd y.1) g.obj,⟨xs.set j v,n,by simpa using hxl,rfl,?_⟩,λp U=>?_,λp U=>?_,?_,λc o C I T e=>W c o I (T q u) (g.keep c o C I T e)⟩⟩
   ·rw[Heap.get?_update_self _ G (by rfl)];simp[Obj.mapSeq]
   ·rw[List.take_add_one,d]at U;rcases aG5.mp U with z | z
    ·obtain⟨k,hk⟩:=aI3 z
     have hkj:k<j:=by
      have:=(aFp.mp hk).1;rw[List.length_take]at this;lia
     rw[List.getElem?_take_of_lt hkj]at hk;exact(g.done p z).to λo e=>W _ o (D.HX p (aFx hk)).2.2 (apart k p hk (by lia)) e
    ·have:p=q:=by simpa using z
     subst this;exact at2.to λo e=>(aGg ..).extBut _ _ y.2.2 e
   ·obtain⟨k,hk⟩:=aI3 U;rw[List.getElem?_drop]at hk;have hp' :p∈qs.drop j:=by rw[List.drop_eq_getElem_cons t];exact aFt _ U
    exact(g.todo p hp').to λo e=>W _ o (D.HX p (aFx hk)).2.2 (apart _ p hk (by lia)) e
   ·rw[Heap.size_update,f.1];exact g.size
variable{Q:Option Value->Shared->Prop}
theorem vP{z TI TO:Addr}{vals:List Value}(D:oT z TI TO qs)(Z:lM s.heap z TI TO qs .none i)(a:qs≠[])
  (hv:vals.length=qs.length) (d:∀(k:Nat) q x,qs[k]? =some q->vals[k]? =some x->∃items,q.Sq s.heap items/\items[i]? =some x) (hsz:qs.length<=sizeLine)
  (e:∀h',lM h' z TI TO qs (rawInt s.heap.objs.size) (i+1)->h'.get? s.heap.objs.size=some {cls:= .type "tuple",data:= .seq vals.toArray}->h'.objs.size=s.heap.objs.size+1->
   (∀c o,c≠z->c≠TO->(∀q∈qs,c≠q.it)->s.heap.get? c=some o->h'.get? c=some o)->Q (some (.ref s.heap.objs.size)) {s with heap:=h'}):
  wpAny (model prog w) A (pyNext (.ref z)) Q E s:=by
 have b:s.TypeIs (.ref z) "zip":=⟨_,Z.obj,rfl⟩
 unfold pyNext
 exact aFm (aH0 (aG3 (name:=Str.ofString "__next__") b aH2 (aG1 aH2 b aIx
  (JD D Z a hv d hsz λh' f g h j=>aFo (e h' f g h j)) (aIp _))))
theorem yM{z TI TO:Addr}{i k:Nat}(d:A.handled=none)(D:oT z TI TO qs)(Z:lM s.heap z TI TO qs .none i)
  (f:∀(j:Nat) q,qs[j]? =some q->j<k->∃items x,q.Sq s.heap items/\items[i]? =some x) (hk:∃q items,qs[k]? =some q/\q.Sq s.heap items/\items[i]? =none) (hsz:qs.length<=sizeLine)
  (g:∀h',(∀c o,c≠z->c≠TO->(∀q∈qs,c≠q.it)->s.heap.get? c=some o->h'.get? c=some o)->Q none {s with heap:=h'}):wpAny (model prog w) A (pyNext (.ref z)) Q E s:=by
 have a:s.TypeIs (.ref z) "zip":=⟨_,Z.obj,rfl⟩
 unfold pyNext
 refine aFm (aH0 (aG3 (name:=Str.ofString "__next__") a aH2 (aG1 aH2 a aIx
  (OJ d D Z f hk hsz λh' e kp he=>?_) (aIp _))))
 obtain⟨o,ho,h⟩:=he;refine aFm (aHp (T:= "StopIteration") (b:=true) ⟨o,ho,h⟩ aJe ?_);exact aFo (g _ kp)
theorem X9{elts:List Expr}{x1}{z TI TO T:Addr}{Q:Unit->Shared->Prop}(D:oT z TI TO qs)(Z:lM s.heap z TI TO qs (rawInt T) i)
  (d:∀h',lM h' z TI TO qs .none i->Heap.SameBut z s.heap h' ->Q () {s with heap:=h'}):wpAny (model prog w) A (letOwnedTupleGo (.Tuple elts x1 pos) (.ref z) (.ref T)) Q E s:=by
 unfold letOwnedTupleGo;refine aFm (aJ9 Z.obj ?_);show wpAny _ _ (if (["enumerate","zip","dict_itemiterator","dict_reverseitemiterator","odict_iterator","itertools.zip_longest","itertools.pairwise"].contains "zip" && (#[rawInt T,.bool false,.bool false,.ref TI,.ref TO]:Array Value)[0]? ==some (rawInt T))=true then _ else _) Q E s;rw[if_pos (by simp)];refine aFm (aGt ?_);show wpAny _ _ (setField (.ref z) 0 .none) Q E s;refine aG0 Z.obj (by simp) λh' b a=>d h' ⟨b,?_,?_,λq c=>(Z.at_ q c).to λo e=>a.extBut _ _ (D.HX q c).1 e⟩ a
 ·obtain⟨n,e⟩:=Z.aN;exact⟨n,a.extBut _ _ D.ne1 e⟩
 ·obtain⟨xs,n,l,e⟩:=Z.own;exact⟨xs,n,l,a.extBut _ _ D.ne2 e⟩
theorem BM{z TI TO:Addr}{f0:Value}{Q:aJo}(Z:lM s.heap z TI TO qs f0 i)(h:Q (.ref z) s):wpAny (model prog w) A (pyIter (.ref z)) Q E s:=by
 have a:s.TypeIs (.ref z) "zip":=⟨_,Z.obj,rfl⟩
 refine aHc a aJ6 (aG1 aJ6 a F.entry_zip_iter ?_ (F.args_zip_iter_1 _));exact aFo ⟨_,rfl,"zip",_,a,aH2.lookup,h⟩
end
section
variable {prog:Program}{w:World}{A:Around}{E:aJo}{s:Shared}
def bH:Nat->List Src->List Src
 | _,[]=>[]
 | n,q::r=>⟨n,q.l,q.tup⟩::bH (n+1) r
theorem jF:∀(n:Nat) (qs:List Src),(bH n qs).length=qs.length
 | _,[]=>rfl
 | n,_::r=>by simp[bH,jF (n+1) r]
theorem fC:∀{n:Nat} {qs:List Src} {p:Src},p∈bH n qs->n<=p.it/\p.it<n+qs.length/\∃q∈qs,p.l=q.l/\p.tup=q.tup
 | n,q::r,p,h=>by
  rcases aFy.mp h with rfl | h
  ·exact⟨aFq _,by simp,q,aFr,rfl,rfl⟩
  ·obtain⟨a,b,c,d,e⟩:=fC h;exact⟨Nat.le_of_succ_le a,Nat.lt_of_lt_of_eq b (by simp only[List.length_cons];lia),c,aFt _ d,e⟩
theorem pQ:∀(n:Nat) (qs:List Src),((bH n qs).map (·.it)).Nodup
 | _,[]=>by simp[bH]
 | n,q::r=>by
  simp only[bH,List.map_cons,List.nodup_cons];refine⟨λh=>?_,pQ (n+1) r⟩;obtain⟨p,a,e⟩:=aFv.mp h;have b:=(fC a).1;have c :p.it=n:=e;exact absurd b (by rw[c];exact Nat.not_succ_le_self n)
theorem rJ{Q:Array Value->Shared->Prop}:∀(qs:List Src) (acc:Array Value) (s:Shared),(∀q∈qs,∃items,q.Sq s.heap items)->
  (∀h',h'.objs.size=s.heap.objs.size+qs.length->(∀b o,s.heap.get? b=some o->h'.get? b=some o)->(∀p∈bH s.heap.objs.size qs,p.At h' 0)->Q (acc++((bH s.heap.objs.size qs).map λp=>Value.ref p.it).toArray) {s with heap:=h'})->
  wpAny (model prog w) A (forIn (qs.map λq=>Value.ref q.l) acc λx aN=>do let r<-holding aN.toList (pyIter x);pure (ForInStep.yield (aN.push r))) Q E s
 | [],acc,s,_,hQ=>by
  have:=hQ s.heap (by simp) (λ_ _ e=>e) (by simp[bH]);simp only[List.map_nil,List.forIn_nil];refine aFo ?_;simpa[bH] using this
 | q::r,acc,s,hs,hQ=>by
  obtain⟨items,k⟩:=hs q aFr;simp only[List.map_cons,List.forIn_cons];refine aFm (aFm (aGf (Src.start k λh' g sz kp=>aFo ?_)));refine rJ r (acc.push (.ref s.heap.objs.size)) {s with heap:=h'} (λm h =>?_) λf i a at2=>?_
  ·obtain⟨j,n⟩:=hs m (aFt _ h);exact⟨j,n.to λo e=>kp _ o e⟩
  ·have t:f.objs.size=s.heap.objs.size+(q::r).length:=by
    have:f.objs.size=h'.objs.size+r.length:=i;rw[this,sz,List.length_cons];lia
   have c :h'.objs.size=s.heap.objs.size+1:=sz;have d :∀p∈bH (s.heap.objs.size+1) r,p.At f 0:=by rw[<-c];exact at2
   have:=hQ f t (λb o e=>a b o (kp b o e)) (λp hp=>by
    rcases aFy.mp hp with rfl | hp
    ·exact g.to λo e=>a _ o e
    ·exact d p hp)
   have u:(acc.push (.ref s.heap.objs.size)++((bH h'.objs.size r).map λp=>Value.ref p.it).toArray)=(acc++((bH s.heap.objs.size (q::r)).map λp=>Value.ref p.it).toArray):=by
    rw[c];simp[bH]
   show Q (acc.push (.ref s.heap.objs.size)++((bH h'.objs.size r).map λp=>Value.ref p.it).toArray) _;rw[u];exact this
theorem SF:(5:Nat)<=sizeLine+2:=Nat.add_le_add_right (by decide:3<=sizeLine) 2
theorem DH(qs:List Src)(hsz:qs.length<=sizeLine):Meets (Builtin.«zip.__new__» ⟨.type "zip"::(qs.map λq=>Value.ref q.l),[]⟩) (λ_ R s=>(∀q∈qs,∃items,q.Sq s.heap items)/\
   ∀h' z TI TO,s.heap.objs.size+qs.length<=TI->TI≠TO->TI≠z->TO≠z->s.heap.objs.size+qs.length<=TO->s.heap.objs.size+qs.length<=z->lM h' z TI TO (bH s.heap.objs.size qs) .none 0->(∀b o,s.heap.get? b=some o->h'.get? b=some o)->R (.ok (.ret (.ref z))) {s with heap:=h'}):=
 .of_wp λprog w A R s h=>by
  obtain⟨r,i⟩:=h;unfold Builtin.«zip.__new__»;have j:=sub_zip;refine aFm (m:=Builtin.SmallTypes.newClass "zip" _) ?_;unfold Builtin.SmallTypes.newClass
  wp_walk
  refine rJ qs #[] s r λh' sz kp a =>?_;have d:(bH s.heap.objs.size qs).length=qs.length:=jF _ _;have t:((#[]:Array Value)++((bH s.heap.objs.size qs).map λp=>Value.ref p.it).toArray).toList=(bH s.heap.objs.size qs).map λp=>Value.ref p.it:=by simp
  refine aFo ?_;simp only[t];refine aFm (aHa ?_ (by simp[d];exact hsz));refine aFm (aHa ?_ (by simp[d];exact hsz));unfold Builtin.SmallTypes.newRecord;dsimp only;refine aFm (aG6 ?_ SF);refine aFo ⟨_,rfl,?_⟩;generalize f:bH s.heap.objs.size qs=ls at d a i⊢;have u:(h'.push {cls:= .type "tuple",data:= .seq ((ls.map λp=>Value.ref p.it).toArray)}).objs.size=h'.objs.size+1:=aHq ..;have k:(h'.push {cls:= .type "tuple",data:= .seq ((ls.map λp=>Value.ref p.it).toArray)}).get? h'.objs.size=some _:=aFs _ rfl;have g:∀b o,h'.get? b=some o->(h'.push {cls:= .type "tuple",data:= .seq ((ls.map λp=>Value.ref p.it).toArray)}).get? b=some o:=λb o e=>aFn _ e;generalize v:h'.push {cls:= .type "tuple",data:= .seq ((ls.map λp=>Value.ref p.it).toArray)}=h1 at u k g⊢;have y:(h1.push {cls:= .type "tuple",data:= .seq ((List.map (λx=>Value.none) (ls.map λp=>Value.ref p.it)).toArray)}).objs.size=h1.objs.size+1:=aHq ..;have n:(h1.push {cls:= .type "tuple",data:= .seq ((List.map (λx=>Value.none) (ls.map λp=>Value.ref p.it)).toArray)}).get? h1.objs.size=some _:=aFs _ rfl;have c:∀b o,h1.get? b=some o->(h1.push {cls:= .type "tuple",data:= .seq ((List.map (λx=>Value.none) (ls.map λp=>Value.ref p.it)).toArray)}).get? b=some o:=λb o e=>aFn _ e;generalize B:h1.push {cls:= .type "tuple",data:= .seq ((List.map (λx=>Value.none) (ls.map λp=>Value.ref p.it)).toArray)}=h2 at y n c⊢;refine i _ h2.objs.size h'.objs.size h1.objs.size (by lia) (by lia) (by lia) (by lia) (by lia) (by lia) ⟨?_,⟨0,?_⟩,⟨List.map (λx=>Value.none) (ls.map λp=>Value.ref p.it),0,by simp[f],?_⟩,λq C=>?_⟩ λb o e=>aFn _ (c _ _ (g _ _ (kp b o e)))
  ·exact aFs _ rfl
  ·exact aFn _ (c _ _ k)
  ·exact aFn _ n
  ·exact(a q C).to λo e=>aFn _ (c _ _ (g _ _ e))
theorem xR{qs:List Src}(hsz:qs.length<=sizeLine)(k:checkTypeCall "zip" ⟨qs.map λq=>Value.ref q.l,[]⟩=pure ())(hN:checkBuiltinCall "zip.__new__" ⟨.type "zip"::qs.map λq=>Value.ref q.l,[]⟩=pure ())
  (m:∀obj,argsOk "object.__init__" ⟨obj::qs.map λq=>Value.ref q.l,[]⟩) (g:∀q∈qs,∃items,q.Sq s.heap items)
  (h:∀h' z TI TO,s.heap.objs.size<=TI->s.heap.objs.size<=TO->s.heap.objs.size<=z->oT z TI TO (bH s.heap.objs.size qs)->lM h' z TI TO (bH s.heap.objs.size qs) .none 0->(∀b o,s.heap.get? b=some o->h'.get? b=some o)->Q (.ref z) {s with heap:=h'}):
  wpAny (model prog w) A (call (.type "zip") (qs.map λq=>Value.ref q.l)) Q E s:=by
 refine callType_new F.called_zip (by decide) k hN m F.entry_zip_new (DH qs hsz) ⟨g,λh' z TI TO p t u v i j Z kp=>?_⟩;refine⟨⟨_,Z.obj,rfl⟩,h h' z TI TO (by lia) (by lia) (by lia) ⟨u,v,t,λq d=>?_,pQ _ _,λq d=>?_⟩ Z kp⟩
 ·obtain⟨x,c,_⟩:=fC d;exact⟨aFz (aG4 c j),aFz (aG4 c p),aFz (aG4 c i)⟩
 ·obtain⟨x,c,y,e,B,_⟩:=fC d;obtain⟨items,f⟩:=g y e;obtain⟨o,n,ho,_⟩:=f.obj;have a:q.l<s.heap.objs.size:=by rw[B];exact aFu ho
  exact⟨aFz (aG4 a (aG2 (Nat.le_add_right _ _) j)),aFz (aG4 a (aG2 (Nat.le_add_right _ _) i)),λr C=>aFz (aG4 a (fC C).1)⟩
end
def rQ(K:aJn)(H:Hp)(t:Bool)(a:Addr)(xs:List V):Prop:=match t with | true=>sX K H a xs | false=>p7 K H a xs
def Itz(K:aJn)(src:List (Addr×Bool)):It where
 go:=λi H=>∃vs:List V,vs.length=src.length/\∀(k:Nat) a t v,src[k]? =some (a,t)->vs[k]? =some v->∃xs,rQ K H t a xs/\xs[i]? =some v
 OL:=λi H x H' =>∃p vs,H p=none/\x= .ref p/\H' =upd H p (.tup vs)/\vs.length=src.length/\∀(k:Nat) a t v,src[k]? =some (a,t)->vs[k]? =some v->∀xs,rQ K H t a xs->xs[i]? =some v
 stop:=λi H=>∃(k:Nat) (a:Addr) (t:Bool) (xs:List V),src[k]? =some (a,t)/\rQ K H t a xs/\xs.length<=i/\∀(j:Nat) b u,j<k->src[j]? =some (b,u)->∃c,rQ K H u b c/\i<c.length
section
variable {X:Cx}{pins:List (Addr×Obj)}{σ:St}{H:Hp}{s:Shared}
theorem Inv.JB{t:Bool}{a:Addr}{xs:List V}(I:Inv X pins σ H s)(h:rQ X.K H t a xs):∃aN:List Value,Vals xs aN/\∀it,(⟨it,a,t⟩:Src).Sq s.heap aN.toArray:=by
 cases t with
 | true=>obtain⟨aN,r,p,_⟩:=I.tuple h;exact⟨aN,r,λ_=>p⟩
 | false=>obtain⟨aN,r,p,_⟩:=I.list h;exact⟨aN,r,λ_=>p.isList⟩
theorem Inv.sJ{t:Bool}{a:Addr}{xs b:List V}(I:Inv X pins σ H s)(h:rQ X.K H t a xs)(h' :rQ X.K H t a b):xs=b:=by
 cases t with
 | true=>exact I.wM h h'
 | false=>exact I.BF h h'
theorem Inv.GD{fp:List Addr}{t' :Nat}{p:Addr}{o:HO}(I:Inv X pins σ H s)(d:∀b∈fp,qA X pins H b)(k:∀b o,b∉fp->s.heap.get? b=some o->h'.get? b=some o)
  (h:s.heap.objs.size<=p) (new:cA X.prog X.w (upd H p o) h' p o):Inv X pins σ (upd H p o) {s with heap:=h',toks:=t'}:=by
 have f:H p=none:=I.bG.fresh h;have g:∀b u,H b=some u->b∉fp:=λb u e z=>by rw[(d b z).1]at e;cases e
 refine I.step (g' :=s.gens) (d' :=s.drawn) (ch:=fp) (λb a=>⟨(d b a).2.2.2.1,(d b a).2.1,(d b a).2.2.2.2.1,(d b a).2.2.2.2.2⟩) (λb o _ _ hc e _=>k b o hc e) (λb o _ _ hc e _=>⟨o.slots,k b o hc e⟩)
  (λb o _ e n=>by rw[aK (Nat.ne_of_lt (Nat.lt_of_lt_of_le (Heap.lt_size e) h))];exact n) (λb o hc e=>⟨o,k b o hc e⟩) (λb xs e=>by rw[aK (bN e f)];exact e) (λb o u e=>by rw[aK (bN e f)];exact e)
  (λb ps e=>⟨#[],by rw[aK (bN e f),e];simp⟩) (λm i=>?_) (λb u e=>?_) I.bare
 ·obtain⟨o,es,ep,ho,r⟩:=i;exact⟨o,es,ep,k _ o (λz=>(d _ z).2.1 rfl) ho,r⟩
 ·by_cases a:b=p
  ·subst a;rw[aP]at e;cases e;exact new
  ·rw[aK a]at e;refine(I.bG b u e).vK (λc v hc q=>k c v ?_ q) (λc q=>by rw[aK (bN q f)];exact q) λc xs q=>by rw[aK (bN q f)];exact q
   rcases hc with rfl | hc
   ·exact g _ u e
   ·exact g _ _ hc
theorem Inv.DZ{fp:List Addr}{t' :Nat}(I:Inv X pins σ H s)(a:∀b∈fp,qA X pins H b)(k:∀b o,b∉fp->s.heap.get? b=some o->h'.get? b=some o):Inv X pins σ H {s with heap:=h',toks:=t'}:=by
 have d:∀b u,H b=some u->b∉fp:=λb u e z=>by rw[(a b z).1]at e;cases e
 refine I.step (g' :=s.gens) (d' :=s.drawn) (ch:=fp) (λb f=>⟨(a b f).2.2.2.1,(a b f).2.1,(a b f).2.2.2.2.1,(a b f).2.2.2.2.2⟩) (λb o _ _ hc e _=>k b o hc e) (λb o _ _ hc e _=>⟨o.slots,k b o hc e⟩)
  (λb o _ e n=>n) (λb o hc e=>⟨o,k b o hc e⟩) (λb xs e=>e) (λb o u e=>e) (λb ps e=>⟨#[],by rw[e];simp⟩) (λm g=>?_) (λb u e=>?_) I.bare
 ·obtain⟨o,es,ep,ho,r⟩:=g;exact⟨o,es,ep,k _ o (λz=>(a _ z).2.1 rfl) ho,r⟩
 ·refine(I.bG b u e).vK (λc v hc q=>k c v ?_ q) (λ_ q=>q) λ_ _ q=>q;rcases hc with rfl | hc
  ·exact d _ u e
  ·exact d _ _ hc
end
theorem T6{P:Nat->Value->Prop}:∀{vs:List V},(∀(k:Nat) v,vs[k]? =some v->∃u,RelV v u/\P k u)->∃us,Vals vs us/\∀(k:Nat) u,us[k]? =some u->P k u
 | [],_=>⟨[],.nil,λk u e=>by simp at e⟩
 | v::r,h=>by
  obtain⟨u,a,b⟩:=h 0 v rfl;obtain⟨us,c,ps⟩:=T6 (P:=λk u=>P (k+1) u) (vs:=r) λk v e=>h (k+1) v (by simpa using e);refine⟨u::us,.cons a c,λk w e=>?_⟩
  cases k with
  | zero=>simp at e;subst e;exact b
  | succ k=>exact ps k w (by simpa using e)
theorem JL{K:aJn}{elts:List Expr}{x1}{z TI TO:Addr}{qs:List Src}(D:oT z TI TO qs)(C:qs≠[])(hsz:qs.length<=sizeLine):
  Turn P w K (.Tuple elts x1 pos) (Itz K (qs.map λq=>(q.l,q.tup))) (z::TI::TO::qs.map (·.it)) z (λi h=>lM h z TI TO qs .none i) where
 mem:=aFr
 obj:=λi h Z b hb=>by
  rcases aFy.mp hb with rfl | hb
  ·exact⟨_,Z.obj,λv e=>by cases e⟩
  rcases aFy.mp hb with rfl | hb
  ·obtain⟨n,e⟩:=Z.aN;exact⟨_,e,λv e=>by cases e⟩
  rcases aFy.mp hb with rfl | hb
  ·obtain⟨xs,n,_,e⟩:=Z.own;exact⟨_,e,λv e=>by cases e⟩
  obtain⟨q,c,rfl⟩:=aFv.mp hb;obtain⟨o,ho,hd⟩:=(Z.at_ q c).obj;exact⟨o,ho,λv e=>by rw[hd]at e;cases e⟩
 keep:=λi h h' Z k=>by
  refine⟨k z (by simp) _ Z.obj,?_,?_,λq c=>(Z.at_ q c).to λo e=>k q.it (by simp;exact .inr (.inr (.inr ⟨q,c,rfl⟩))) o e⟩
  ·obtain⟨n,e⟩:=Z.aN;exact⟨n,k TI (by simp) _ e⟩
  ·obtain⟨xs,n,l,e⟩:=Z.own;exact⟨xs,n,l,k TO (by simp) _ e⟩
 item:=by
  intro X F G J Y i pins s σ H E I y Z hg;subst F G J;obtain⟨vs,B,hv⟩:=hg;have L:vs.length=qs.length:=by simpa using B
  obtain⟨us,ru,pu⟩:=T6 (P:=λk u=>∀q,qs[k]? =some q->∃items,q.Sq s.heap items/\items[i]? =some u) (vs:=vs) λk v e=>by
   have hk:k<qs.length:=by have:=(aFp.mp e).1;lia
   have d:qs[k]? =some qs[k]:=aGi hk;obtain⟨xs,g,hi⟩:=hv k qs[k].l qs[k].tup v (by rw[List.getElem?_map,d];rfl) e;obtain⟨aN,rv,m⟩:=I.JB g;obtain⟨u,M,r⟩:=rv.get hi;refine⟨u,r,λq c=>?_⟩;rw[d]at c;cases c;exact⟨aN.toArray,m qs[k].it,by simpa using M⟩
  have N:us.length=qs.length:=by rw[<-ru.length,L]
  refine vP D Z C N (λk q x c g=>pu k x g q c) hsz λh1 Z1 t1 z1 k1=>?_;refine⟨_,rfl,X9 (s:={s with heap:=h1}) D Z1 λh2 Z2 p=>?_⟩;have f:s.heap.objs.size≠z:=aGp (aFu Z.obj)
  have kk:∀b o,b∉(z::TI::TO::qs.map (·.it))->s.heap.get? b=some o->h2.get? b=some o:=λb o hb e=>by
   have b1:b≠z:=λz=>hb (by simp[z]);have b2:b≠TO:=λz=>hb (by simp[z]);exact p.extBut _ _ b1 (k1 b o b1 b2 (λq c z=>hb (by simp;exact .inr (.inr (.inr ⟨q,c,z.symm⟩)))) e)
  refine⟨.ref s.heap.objs.size,upd H s.heap.objs.size (.tup vs),I.GD (t' :=s.toks) y kk (aFq _) ⟨by lia,us,ru,⟨_,p.extBut _ _ f t1,rfl,0,rfl⟩,λo e=>by rw[p.extBut _ _ f t1]at e;cases e;rfl⟩,rfl,?_,Z2,λb hb=>?_⟩
  ·refine⟨s.heap.objs.size,vs,I.bG.fresh (aFq _),rfl,rfl,B,λk a t v m O xs g=>?_⟩;obtain⟨ys,R,hi⟩:=hv k a t v m O;rw[I.sJ g R];exact hi
  ·have S:=(y b hb).1
   have:b≠s.heap.objs.size:=by
    rintro rfl
    have ho:∃o,s.heap.get? s.heap.objs.size=some o:=by
     rcases aFy.mp hb with e | hb
     ·rw[e];exact⟨_,Z.obj⟩
     rcases aFy.mp hb with e | hb
     ·rw[e];obtain⟨n,e⟩:=Z.aN;exact⟨_,e⟩
     rcases aFy.mp hb with e | hb
     ·rw[e];obtain⟨xs,n,_,e⟩:=Z.own;exact⟨_,e⟩
     obtain⟨q,c,e⟩:=aFv.mp hb;have e' :q.it=s.heap.objs.size:=e;rw[<-e'];obtain⟨o,ho,_⟩:=(Z.at_ q c).obj;exact⟨o,ho⟩
    obtain⟨o,ho⟩:=ho;exact absurd (aFu ho) (aH6 _)
   rw[aK this];exact S
 done:=by
  intro X F G J Y i pins s σ H E I y Z hg;subst F G J;obtain⟨k,a,t,xs,hk,g,hle,T⟩:=hg;rw[List.getElem?_map]at hk
  cases d:qs[k]? with
  | none=>rw[d]at hk;cases hk
  | some q=>
   rw[d]at hk;have U :(q.l,q.tup)=(a,t):=aGe hk;injection U with e1 e2;subst e1 e2
   refine yM (k:=k) (I.ok.hd Y) D Z (λj V hj W=>?_) ⟨q,?_⟩ hsz λh' kp=>⟨rfl,I.DZ (t' :=s.toks) y λb o hb e=>kp b o (λz=>hb (by simp[z])) (λz=>hb (by simp[z])) (λq c z=>hb (by simp;exact .inr (.inr (.inr ⟨q,c,z.symm⟩)))) e⟩
   ·obtain⟨ys,R,B⟩:=T j V.l V.tup W (by rw[List.getElem?_map,hj];rfl);obtain⟨aN,r,m⟩:=I.JB R;obtain⟨u,M,_⟩:=r.get (aGi B);exact⟨aN.toArray,u,m V.it,by simpa using M⟩
   ·obtain⟨aN,r,m⟩:=I.JB g;refine⟨aN.toArray,d,m q.it,?_⟩;have:=r.length;rw[List.getElem?_toArray];exact aI5.mpr (by lia)
 self:=λA i s Q E Z h=>BM Z h
structure aCh(m:Nat):Prop where
 t:∀us:List Value,us.length=m->checkTypeCall "zip" ⟨us,[]⟩=pure ()
 n:∀us:List Value,us.length=m->checkBuiltinCall "zip.__new__" ⟨.type "zip"::us,[]⟩=pure ()
 i:∀(us:List Value) (o:Value),us.length=m->argsOk "object.__init__" ⟨o::us,[]⟩
theorem EV:aCh 2:=⟨λus h=>match us,h with | [a,b],_=>F.typeCall_zip_2 a b,λus h=>match us,h with | [a,b],_=>F.newCall_zip_2 a b,λus o h=>match us,h with | [a,b],_=>F.args_object_init_3 o a b⟩
def aF6(K:aJn)(n:Nat)(b:TA):TI:=λσ H R=>b σ H λvs a=>∃src:List (Addr×Bool),vs=src.map (λp=>V.ref p.1)/\src.length=n/\(∀p∈src,∃xs,rQ K a p.2 p.1 xs)/\R (Itz K src) a
theorem gZ:∀{src:List (Addr×Bool)} {us:List Value},Vals (src.map λp=>V.ref p.1) us->us=src.map λp=>Value.ref p.1
 | [],us,h=>by cases h;rfl
 | p::r,us,h=>by
  cases h with
  | cons a b=>rw[gZ b];cases a;rfl
theorem t9:∀(src:List (Addr×Bool)) (m:Nat),((bH m (src.map λp=>(⟨0,p.1,p.2⟩:Src))).map λq=>(q.l,q.tup))=src
 | [],_=>rfl
 | p::r,m=>by simp only[List.map_cons,bH];rw[t9 r (m+1)]
theorem VL{e:Expr}{es:List Expr}{u:TA}{p pos:Pos}{elts:List Expr}{x1}{v:Pos}(z:aCh n)(S:0<n/\n<=1000)(hg:Gl X "zip")(x:X.mg "zip"=none)(y:PA X (e::es) u)
  (hv:bootBuiltins "zip"=some (.type "zip"):=by decide+kernel)
  (he:starEach (e::es) X.env=(false,eval e X.env)::starEach es X.env:=by rfl) (k:(backTo pos (starEach es X.env)).any (·.1)=false:=by rfl):
  PI X (.Tuple elts x1 v) (.Call (.Name "zip" p) (e::es) [] pos) (aF6 X.K n u):=by
 intro pins s σ H R I h;refine aH9 (jE I hg x hv ?_);refine aGj (bV (y pos pins s σ H _ I h) λus s1 ⟨vs,m,g,r1,q1⟩=>?_) he k;obtain⟨src,rfl,o,A,B⟩:=q1;have C:=gZ r1;subst C;have em:(src.map λp=>Value.ref p.1)=(src.map λp=>(⟨0,p.1,p.2⟩:Src)).map λq=>Value.ref q.l:=by rw[List.map_map];rfl
 have hz:src.length<=sizeLine:=aGs (wR (by lia));rw[em];refine xR (by simpa using hz) (z.t _ (by simpa using o)) (z.n _ (by simpa using o)) (λobj=>z.i _ obj (by simpa using o)) (λq j=>?_) λh' E TI TO F G J D Z kp=>?_
 ·obtain⟨p,L,rfl⟩:=aFv.mp j;obtain⟨xs,M⟩:=A p L;obtain⟨aN,_,r⟩:=g.JB M;exact⟨aN.toArray,r 0⟩
 ·generalize a:bH s1.heap.objs.size (src.map λp=>(⟨0,p.1,p.2⟩:Src))=qs at D Z;have d:qs.length=src.length:=by rw[<-a,jF];simp
  have c:(qs.map λq=>(q.l,q.tup))=src:=by rw[<-a];exact t9 _ _
  have N:Inv X pins σ m {s1 with heap:=h'}:=g.kept (t' :=s1.toks) kp;have T:=JL (P:=X.prog) (w:=X.w) (K:=X.K) (elts:=elts) (x1:=x1) (pos:=v) D (by intro O;rw[O]at d;simp at d;lia) (by lia);rw[c]at T;refine BM Z ⟨E,_,_,Itz X.K src,m,rfl,N,T,Z,λb hb=>?_,B⟩
  have f:s1.heap.objs.size<=b:=by
   rcases aFy.mp hb with e | hb
   ·rw[e];exact J
   rcases aFy.mp hb with e | hb
   ·rw[e];exact F
   rcases aFy.mp hb with e | hb
   ·rw[e];exact G
   obtain⟨q,j,e⟩:=aFv.mp hb;rw[<-a]at j;have Q :q.it=b:=e;rw[<-Q];exact(fC j).1
  exact(g.D0 f (g.bG.fresh f):qA X pins m b)
variable {b:Bool}
abbrev cmA(b:Bool):String:=match b with
 | false=>"list.append"
 | true=>"set.add"
abbrev bP(b:Bool)(elt tg iter:Expr)(ifs:List Expr)(a c:Expr)(d:List Expr)(scope:Scope)(pos:Pos):Expr:=cmE b elt [⟨tg,iter,ifs,0⟩,⟨a,c,d,0⟩] scope pos
def BodyOk(X:Cx)(o1 o:Nat)(e c:Expr)(acc:Addr)(tb:TBd):Prop:=∀(pins:List (Addr×Obj)) (s:Shared) (σ:St) (H:Hp) (d:List V) (N:List V->Hp->Prop),Inv X pins σ H s->(∀j,o1<=j->j<o->σ[j]? =some none)->tb d σ H N->
 wpAny (model X.prog X.w) X.A (eval c X.env) (λx s1=>wpAny (model X.prog X.w) X.A (pyIter x) (λa s2=>
  codeAny (model X.prog X.w) X.A (.compStart e 1 a (.ref acc) X.env) (λr f =>r= .ok .next/\∃b H',Inv X pins σ H' f /\N b H') s2) (λ_ _=>False) s1) (λ_ _=>False) s
theorem zP(elt tg iter:Expr)(ifs:List Expr)(a d:Expr)(e:List Expr)(scope:Scope)(pos:Pos)(it:Value)(acc:Addr)(env:Env):
  compTurn (bP b elt tg iter ifs a d e scope pos) 0 it (.ref acc) env=(do
   standAt iter.pos
   match<-pyNext it with
   | none=>pure (.done .next)
   | some v=>
    letOwnedTupleGo tg it v
    assign tg env v
    let mut ok:=true
    for c in ifs do
     if ok then ok<-isTrue c env (eval c env)
    if ok then
     let x<-eval d env
     standAt d.pos
     let x<-foldedSetIterable d env x
     let _<-runOwn (.compStart (bP b elt tg iter ifs a d e scope pos) 1 (<-holding [x] (pyIter x)) (.ref acc) env) env
    again (.compLoop (bP b elt tg iter ifs a d e scope pos) 0 it (.ref acc) env)):=by cases b <;> rfl
theorem vV(elt tg iter:Expr)(ifs:List Expr)(a d:Expr)(e:List Expr)(scope:Scope)(pos:Pos)(it acc:Value)(env:Env):
  compTurn (bP b elt tg iter ifs a d e scope pos) 1 it acc env=(do
   standAt d.pos
   match<-pyNext it with
   | none=>pure (.done .next)
   | some v=>
    letOwnedTupleGo a it v
    assign a env v
    let mut ok:=true
    for c in e do
     if ok then ok<-isTrue c env (eval c env)
    if ok then
     (match b with | false=>(do let _<-call (.builtin "list.append") [acc,<-eval elt env]) | true=>(do let v<-eval elt env;standAt elt.pos;let _<-call (.builtin "set.add") [acc,v]))
    again (.compLoop (bP b elt tg iter ifs a d e scope pos) 1 it acc env)):=by cases b <;> rfl
variable{cR:List Expr}
theorem zQ{elt a iter f q:Expr}{acc:Addr}(I:Nat->Shared->Prop)
  (t:∀n s,I n s->wpAny (model prog w) A (pyNext it) (λr d=>match r with
   | none=>R (.ok .next) d
   | some v=>wpAny (model prog w) A (letOwnedTupleGo a it v) (λ_ d=>wpAny (model prog w) A (assign a env v) (λ_ j=>
     wpAny (model prog w) A (forIn ifs true λc r=>if r=true then do let ok<-isTrue c env (eval c env);pure (ForInStep.yield ok) else pure (ForInStep.yield r)) (λok g=>
      if ok=true then wpAny (model prog w) A (eval q env) (λx k=>wpAny (model prog w) A (pyIter x) (λu l=>
       codeAny (model prog w) A (.compStart (bP b elt a iter ifs f q cR scope pos) 1 u (.ref acc) env) (λr o=>r= .ok .next/\∃m,m<n/\I m o) l) (λ_ _=>False) k) (λ_ _=>False) g
      else ∃m,m<n/\I m g) (λ_ _=>False) j) (λ_ _=>False) d) (λ_ _=>False) d) (λ_ _=>False) s)
  (n:Nat) (h:I n s) (C:∀x,foldedSetIterable q env x=pure x):codeAny (model prog w) A (.compLoop (bP b elt a iter ifs f q cR scope pos) 0 it (.ref acc) env) R s:=by
 refine codeAny_loop (by cases b <;> rfl) I (λn s D=>?_) n h;have hd:(model prog w).den (.compLoop (bP b elt a iter ifs f q cR scope pos) 0 it (.ref acc) env)=(compTurn (bP b elt a iter ifs f q cR scope pos) 0 it (.ref acc) env).onRaise (λx=>do noteFrame x env;theTreesLotGoes x):=by cases b <;> rfl
 have E:A.under (.compLoop (bP b elt a iter ifs f q cR scope pos) 0 it (.ref acc) env)=A:=by cases b <;> rfl
 rw[hd,E];refine wpAny_noted ?_;rw[zP];refine aFm (aH1 (aFm (aGa (t n s D) (λr d e=>?_) λ_ _ h' =>h'.elim)))
 cases r with
 | none=>exact aFo e
 | some v=>
  refine aFm (aGa e (λ_ d e=>?_) λ_ _ h' =>h'.elim);refine aFm (aGa e (λ_ j y=>aFm (aGa y (λok g p=>?_) λ_ _ h' =>h'.elim)) λ_ _ h' =>h'.elim)
  cases ok with
  | false=>exact aFo ⟨rfl,p⟩
  | true=>
   refine aFm (aGa p (λx k z=>aFm (aH1 ?_)) λ_ _ h' =>h'.elim);rw[C];refine aFm (aFo ?_);refine aFm (aGf (aGa z (λu l B=>?_) λ_ _ h' =>h'.elim));refine aFm (wpAny_runOwn (aHl B λr o i=>?_));obtain⟨rfl,i⟩:=i;exact aFo ⟨rfl,i⟩
theorem vW{elt a iter f u:Expr}(I:Nat->Shared->Prop)
  (q:∀n s,I n s->wpAny (model prog w) A (pyNext it) (λr d=>match r with
   | none=>R (.ok .next) d
   | some v=>wpAny (model prog w) A (letOwnedTupleGo f it v) (λ_ d=>wpAny (model prog w) A (assign f env v) (λ_ p=>
     wpAny (model prog w) A (forIn cR true λc r=>if r=true then do let ok<-isTrue c env (eval c env);pure (ForInStep.yield ok) else pure (ForInStep.yield r)) (λok g=>
      if ok=true then wpAny (model prog w) A (eval elt env) (λx i=>
       wpAny (model prog w) A (call (.builtin (cmA b)) [acc,x]) (λ_ j=>∃m,m<n/\I m j) (λ_ _=>False) i) (λ_ _=>False) g
      else ∃m,m<n/\I m g) (λ_ _=>False) p) (λ_ _=>False) d) (λ_ _=>False) d) (λ_ _=>False) s)
  (n:Nat) (h:I n s):codeAny (model prog w) A (.compLoop (bP b elt a iter ifs f u cR scope pos) 1 it acc env) R s:=by
 refine codeAny_loop (by cases b <;> rfl) I (λn s y=>?_) n h;have hd:(model prog w).den (.compLoop (bP b elt a iter ifs f u cR scope pos) 1 it acc env)=(compTurn (bP b elt a iter ifs f u cR scope pos) 1 it acc env).onRaise (λx=>do noteFrame x env;theTreesLotGoes x):=by cases b <;> rfl
 have z:A.under (.compLoop (bP b elt a iter ifs f u cR scope pos) 1 it acc env)=A:=by cases b <;> rfl
 rw[hd,z];refine wpAny_noted ?_;rw[vV];refine aFm (aH1 (aFm (aGa (q n s y) (λr d e=>?_) λ_ _ h' =>h'.elim)))
 cases r with
 | none=>exact aFo e
 | some v=>
  refine aFm (aGa e (λ_ d e=>?_) λ_ _ h' =>h'.elim);refine aFm (aGa e (λ_ p t=>aFm (aGa t (λok g k=>?_) λ_ _ h' =>h'.elim)) λ_ _ h' =>h'.elim)
  cases ok with
  | false=>exact aFo ⟨rfl,k⟩
  | true=>
   refine aFm ?_
   cases b with
   | false=>exact aFm (aGa k (λx i l=>aFm (aGa l (λ_ j o=>aFo (aFo ⟨rfl,o⟩)) λ_ _ h' =>h'.elim)) λ_ _ h' =>h'.elim)
   | true=>exact aFm (aGa k (λx i l=>aFm (aH1 (aFm (aGa l (λ_ j o=>aFo (aFo ⟨rfl,o⟩)) λ_ _ h' =>h'.elim)))) λ_ _ h' =>h'.elim)
theorem VW{tg iter a c elt:Expr}{wi:TI}{g:TG}{tt:TT}{tb:Addr->TBd}(own:List Str)(o1:Nat)(aD:List Nat)
  (hN:X.N=N) (hsc:X.env.scope=sc) (chk:bW N sc scope aD=true) (cS:X.calm=true) (hi:PI X tg iter wi) (f:o1<=own.length) (ho:j7 o1 g)
  (hg:∀cl C fp s₀ H₀,PG (aG X own aD scope cl C fp s₀ H₀) tg g) (ht:∀cl C fp s₀ H₀,OH (aG X own aD scope cl C fp s₀ H₀) ifs tt)
  (he:∀acc cl C fp s₀ H₀,BodyOk (aG X own aD scope cl C fp s₀ H₀) o1 own.length (bP b elt tg iter ifs a c cR scope pos) c acc (tb acc))
  (i:∀env x,foldedSetIterable c env x=pure x)
  (m:∀x,foldedSetIterable iter X.env x=pure x:=by intro _;rfl):PE X (bP b elt tg iter ifs a c cR scope pos) (UX X.prog X.w b own aD wi g tt tb):=by
 intro pins s σ H Q I h;have o:eval (bP b elt tg iter ifs a c cR scope pos) X.env=comprehension (bP b elt tg iter ifs a c cR scope pos) scope X.env (firstIterPos [⟨tg,iter,ifs,0⟩,⟨a,c,cR,0⟩] pos) (cmN b) (firstAsync [⟨tg,iter,ifs,0⟩,⟨a,c,cR,0⟩]) (firstIter [⟨tg,iter,ifs,0⟩,⟨a,c,cR,0⟩] X.env):=by cases b <;> rfl
 rw[o]
 refine qR NM own o1 aD (λenv acc K s=>wpAny (model X.prog X.w) X.A (eval c env) (λx s1=>wpAny (model X.prog X.w) X.A (pyIter x) (λd s2=>
  codeAny (model X.prog X.w) X.A (.compStart (bP b elt tg iter ifs a c cR scope pos) 1 d (.ref acc) env) (λr p =>r= .ok .next/\K p) s2) (λ_ _=>False) s1) (λ_ _=>False) s)
  hN hsc chk cS hi f ho hg ht (λacc cl C fp s₀ H₀ pins s σ H t u K v fresh q k=>?_) (λit acc env R I e n s h=>zQ I e n h (i _)) m I h uX
 refine bV (he _ _ _ _ _ _ _ s σ H t u v fresh q) λx F y=>bV y λd G z=>aHl z λr sc B=>?_;obtain⟨rfl,D,E,j,l⟩:=B;exact⟨rfl,k _ _ _ j l⟩
variable {b:Bool}
def GIn(lo hi:Nat)(g:TG):Prop:=∀v σ H Q,g v σ H Q->g v σ H λa H' =>Q a H' /\a.length=σ.length/\∀j,(j<lo\/hi<=j)->a[j]? =σ[j]?
theorem NA{lo hi i:Nat}(h:lo<=i)(a:i<hi):GIn lo hi (oD i):=λv σ H Q q=>⟨q,by simp,λj b=>by rw[List.getElem?_set_ne (by lia)]⟩
def C1(P:Program)(w:World)(b:Bool)(wi:TI)(g:TG)(tt:TT)(te:TE)(acc:Addr):TBd:=λa σ H N=>wi σ H λJ l=>
 ∃W:Nat->Nat->List V->Hp->Prop,(∃m,W 0 m a l)/\∀i m a H,W i m a H->
  ((J.stop i H/\N a H)\/(J.go i H/\∃e:List V->Hp->Prop,(∀c H',e c H' ->∃f,f<m/\W (i+1) f c H')/\
   ∀x H',J.OL i H x H' ->g x σ H' λd n=>tt d n λo h=>if o =true then (a.length<sizeLine/\(b=true->(ST.bL [] (a.filterMap vJ)).length+1<scanBound))/\te d h λy j=>(b=true->∃k,y=kV k)/\j acc=some (CT P w b acc a)/\e (a++[y]) (upd j acc (CT P w b acc (a++[y]))) else e a h))
theorem YM{σ:St}{H:Hp}{acc:Addr}{a:List V}{y:V}{d:Value}{N:Hp->Prop}(I:Inv X pins σ H s)(hz:a.length<sizeLine/\(b=true->(ST.bL [] (a.filterMap vJ)).length+1<scanBound))(hk:b=true->∃k,y=kV k)
  (h:H acc=some (CT X.prog X.w b acc a)) (g:RelV y d) (q:N (upd H acc (CT X.prog X.w b acc (a++[y])))):
  wpAny (model X.prog X.w) X.A (call (.builtin (cmA b)) [.ref acc,d]) (λ_ m =>∃H',Inv X pins σ H' m /\N H') X.xe s:=by
 cases b with
 | false=>
  refine bV (qH _ s σ H (.ref acc) [y] (.ref acc) [d] (λv H' =>v= .bU/\N H') I rfl (.cons g .nil) ⟨_,_,_,rfl,rfl,h,hz.1,rfl,q⟩) λ_ s1 n=>?_;obtain⟨_,o,p,_,_,q1⟩:=n;exact⟨o,p,q1⟩
 | true=>
  obtain⟨k,rfl⟩:=hk rfl;have l:ST.lQ (aR X.prog X.w) (ST.eP X.w) s.heap acc (ST.bL [] (a.filterMap vJ)):=(I.bG acc _ h).1;have c:=oB (P:=X.prog) (w:=X.w) g
  have hsc:d.scannable=true:=by
   cases k with
   | inl i=>obtain⟨t,rfl⟩:=g;rfl
   | inr x=>obtain⟨t,rfl⟩:=g;rfl
  have r:vJ (kV k)=some k:=by cases k <;> rfl
  show wpAny _ _ (call (.builtin "set.add") [.ref acc,d]) _ _ _;refine aG1 F.slot_set_add l.typeIs F.entry_set_add ?_ (F.args_set_add_2 _ _);unfold Builtin.«set.add» Builtin.Frozenset.oneOther;simp only[List.isEmpty_nil,bind_assoc];unfold Builtin.Frozenset.addrOf setAdd;refine aFm (aFo ?_)
  try dsimp only
  refine aFm (aFo ?_);refine aFm (aGf (aFm ((aR X.prog X.w).pyHash (k:=k) c ?_)));refine ST.xX (s:={s with toks:=s.toks+1}) c hsc l (hz.2 rfl) λb h' j f=>?_;refine aFo ⟨_,rfl,upd H acc (CT X.prog X.w true acc (a++[kV k])),?_,q⟩;have e:ST.bL [] ((a++[kV k]).filterMap vJ)=ST.m5 (ST.bL [] (a.filterMap vJ)) k:=by simp[ST.bL,r]
  refine(show Inv X pins σ _ {s with heap:=h',toks:=s.toks+1} from i6 I (by rw[h];trivial) j ⟨_,f.choose_spec.choose_spec.choose_spec.choose_spec.1⟩ ?_);unfold CT;rw[e];exact yF f
theorem IW{o1 o:Nat}{elt tg iter a C:Expr}{acc:Addr}{wi:TI}{g:TG}{tt:TT}{te:TE}(hc:X.calm=true)(D:X.xe=λ_ _=>False)(hi:PI X a C wi)(hg:PG X a g)(hn:GIn o1 o g)(ht:OH X cR tt)(he:PE X elt te):
  BodyOk X o1 o (bP b elt tg iter ifs a C cR scope pos) C acc (C1 X.prog X.w b wi g tt te acc):=by
 intro pins s σ H E N I fresh h;have F :=hi pins s σ H _ I h;rw[D]at F;refine bV F λv s1 h1=>bV h1 λitv s2 h2=>?_;obtain⟨it,fp,tn,J,H2,e,I2,T,G,f2,W,⟨m0,w0⟩,K⟩:=h2;subst e
 have c:∀{H' :Hp},(∀b∈fp,H' b=none)->∀b∈fp,qA X pins H' b:=λhn b f=>⟨hn b f,(f2 b f).2⟩
 have l:codeAny (model X.prog X.w) X.A (.compLoop (bP b elt tg iter ifs a C cR scope pos) 1 (.ref it) (.ref acc) X.env) (λr Y =>r= .ok .next/\∃ys' H',Inv X pins σ H' Y /\N ys' H') s2:=by
  refine vW (λn Y =>∃i E H',Inv X pins σ H' Y /\tn i Y.heap/\(∀b∈fp,H' b=none)/\W i n E H') ?_ m0 ⟨0,E,H2,I2,G,λb f=>(f2 b f).1,w0⟩;rintro n s3 ⟨i,L,Z,I3,M,O,w3⟩
  rcases K i n L Z w3 with ⟨stop,qn⟩ | ⟨go,NN,hNN,step⟩
  ·refine bV (T.done X rfl rfl rfl hc i pins s3 σ Z (λ_ _=>False) I3 (c O) M stop) λr s4 zz0=>?_;obtain⟨hr,I4⟩:=zz0;subst hr;exact⟨rfl,L,Z,I4,qn⟩
  ·refine bV (T.item X rfl rfl rfl hc i pins s3 σ Z (λ_ _=>False) I3 (c O) M go) λr s4 zz1=>?_;obtain⟨u,hr,h4⟩:=zz1;subst hr;refine bV h4 λ_ s5 zz2=>?_;obtain⟨x,H5,I5,r5,y5,p,fr5⟩:=zz2;have I5' :=I5.pinned (c fr5) (T.obj _ _ p);have P :=hg _ s5 σ H5 x u _ I5' r5 (hn _ _ _ _ (step x H5 y5));rw[D]at P;refine bV P λ_ s6 zz3=>?_;obtain⟨q,H6,I6,q6,l6,k6⟩:=zz3;have Q :=ht _ s6 q H6 _ I6 q6;rw[D]at Q;refine bV Q λok s7 zz4=>?_;obtain⟨H7,I7,R⟩:=zz4
   have again:∀{k:List V} {t:Hp} {B:Shared},Inv X (pins++qE fp s5.heap) q t B->NN k t->∃m,m<n/\∃i E H',Inv X pins σ H' B/\tn i B.heap/\(∀b∈fp,H' b=none)/\W i m E H' :=λ{k t B} S n8=>by
    obtain⟨m',hm,w8⟩:=hNN k t n8
    have I8' :Inv X pins σ t B:=S.mH.weak l6.symm λj v e=>by
     by_cases hj:j<o1\/o<=j
     ·rw[k6 j hj];exact e
     ·rw[fresh j (by lia) (by lia)]at e;cases e
    refine⟨m',hm,i+1,k,t,I8',T.keep _ _ _ p λb f o e=>(S.pin (b,o) (aG8 _ (aG8 _ (fB f e)))).1,λb f=>?_,w8⟩;obtain⟨o,e,d⟩:=T.obj _ _ p b f;exact(S.pin (b,o) (aG8 _ (aG8 _ (fB f e)))).2.1
   cases ok with
   | false=>exact again I7 R
   | true=>
    rw[if_pos rfl]at R⊢;obtain⟨hsz,R⟩:=R;have U :=he _ s7 q H7 _ I7 R;rw[D]at U;refine bV U λyv B zz5=>?_;obtain⟨y,t,S,ry,hk8,z,q8⟩:=zz5;have ma:=YM (b:=b) S hsz hk8 z ry q8;rw[D]at ma;refine bV ma λ_ s9 zz6=>?_;obtain⟨H9,I9,q9⟩:=zz6;exact again I9 q9
 exact B9 NM (g:=⟨a,C,cR,0⟩) rfl rfl l (T.self _ 0 _ _ _ G l)
end L2
namespace TS
open PySem PyProof.Rows
structure Wk(lt:aJp):Prop where
 NZ:∀x y,lt x y=true->lt y x=false
 tr:∀x y z,lt y x=false->lt z y=false->lt z x=false
theorem Wk.MS{lt:aJp}(O:Wk lt)(x:Keyed):lt x x=false:=by
 cases h:lt x x with
 | false=>rfl
 | true=>exact(O.NZ x x h).symm.trans h |>.symm▸rfl
def d4(xs:aJr)(i:Nat):Keyed:=(xs[i]?).getD (Value.none,Value.none)
variable{xs:aJr}{i:Nat}
theorem F4(h:i<xs.size):xs[i]? =some (d4 xs i):=by unfold d4;rw[getElem?_pos xs i h];rfl
def Seg(lt:aJp)(xs:aJr)(i j:Nat):Prop:=∀p q,i<=p->p<=q->q<j->lt (d4 xs q) (d4 xs p)=false
def TH(lt:aJp)(xs:aJr)(i j:Nat):Prop:=∀p q,i<=p->p<=q->q<j->lt (d4 xs p) (d4 xs q)=false
structure Base(κ:SortKind)(a₀:aJr)(st:SortSt):Prop where
 perm:(arrOf st).Perm a₀
 kind:kindOf st=κ
 YE:failedOf st=none
variable{κ:SortKind}{st:SortSt}
theorem Base.size{a₀:aJr}(h:Base κ a₀ st):(arrOf st).size=a₀.size:=h.perm.size_eq
theorem Base.arr{a₀:aJr}(h:Base κ a₀ st)(p:xs.Perm (arrOf st)):Base κ a₀ (setArr st xs):=⟨p.trans h.perm,h.kind,h.YE⟩
theorem Base.mem{a₀:aJr}(h:Base κ a₀ st)(hi:i<a₀.size):d4 (arrOf st) i∈a₀.toList:=by
 have hz:i<(arrOf st).size:=by rw[h.size];exact hi
 have e:=F4 hz;have:d4 (arrOf st) i∈arrOf st:=Array.mem_of_getElem? e;exact(Array.perm_iff_toList_perm.mp h.perm).mem_iff.mp this.val
def EU(prog:Program)(w:World)(A:Around)(s:Shared)(κ:SortKind)(lt:aJp)(a₀:aJr):Prop:=
 ∀x y,x∈a₀.toList->y∈a₀.toList->∀Q:Bool->Shared->Prop,Q (lt x y) s->wpAny (model prog w) A (keyLt' κ x.1 y.1) Q (λ_ _=>False) s
section
variable {prog:Program}{w:World}{A:Around}{E:aJo}{s:Shared}{a₀:aJr}{κ:SortKind}{lt:aJp}
variable{Q:Option Bool->SortSt->Prop}
theorem wlt{x y:Keyed}(C:EU prog w A s κ lt a₀)(hk:kindOf st=κ)(c:x∈a₀.toList)(d:y∈a₀.toList)(h:Q (some (lt x y)) st):wpS (model prog w) A E s (lt' x y) Q st:=by
 rw[lt'_eq];refine aGk (wpS_get ?_);rw[hk];refine aGk (wpS_lift (aH0 (aGa (C x y c d (λb a =>b=lt x y/\a =s) ⟨rfl,rfl⟩) (λb a f=>?_) λ_ _ e=>e.elim)));obtain⟨rfl,rfl⟩:=f;exact⟨rfl,aH5 h⟩
theorem TQ{arr:aJr}{Q:Keyed->SortSt->Prop}(hi:i<arr.size)(h:Q (d4 arr i) st):wpS (model prog w) A E s (elem' arr i) Q st:=by
 rw[elem'_eq,F4 hi];exact aH5 h
theorem AH{i j:Nat}(C:EU prog w A s κ lt a₀)(a:Base κ a₀ st)(hi:i<a₀.size)(b:j<a₀.size)(h:Q (some (lt (d4 (arrOf st) i) (d4 (arrOf st) j))) st):
  wpS (model prog w) A E s (ltAt' i j) Q st:=by
 rw[ltAt'_eq];refine aGk (wpS_get ?_);have z:=a.size;exact aGk (TQ (by rw[z];exact hi) (aGk (TQ (by rw[z];exact b) (wlt C a.kind (a.mem hi) (a.mem b) h))))
theorem oO{src d:Nat}(a:src<xs.size)(hd:d<=src)(k:Nat):d4 (bubble xs src d) k=if k=src-d then d4 xs src else if src-d<k/\k<=src then d4 xs (k-1) else d4 xs k:=by
 have e:=getElem?_bubble a d hd k;unfold d4;rw[e]
 repeat' split
 all_goals rfl
theorem iC{i j:Nat}(a:j<=xs.size)(k:Nat):d4 (mirror xs i j ((j-i) / 2)) k=if i<=k/\k<j then d4 xs (i+j-1-k) else d4 xs k:=by
 have e:=getElem?_mirror_all (i:=i) a k;unfold d4;rw[e];split <;> rfl
theorem OO(O:Wk lt)(C:EU prog w A s κ lt a₀){lo n ok:Nat}{Q:Bool->SortSt->Prop}(H:lo+n<=a₀.size)(bG:ok<=n)(K:Base κ a₀ st)(L:Seg lt (arrOf st) lo (lo+ok))
  (h:∀a,Base κ a₀ a ->Seg lt (arrOf a) lo (lo+n)->(∀k,k<lo->d4 (arrOf a) k=d4 (arrOf st) k)->pendingOf a =pendingOf st->Q true a):wpS (model prog w) A E s (binarySort' lo n ok) Q st:=by
 rw[binarySort'_eq]
 refine aGk (wpS_mono (aIq (I:=λk c a =>c=(none,())/\Base κ a₀ a /\Seg lt (arrOf a) lo (lo+min k n)/\(∀k,k<lo->d4 (arrOf a) k=d4 (arrOf st) k)/\pendingOf a =pendingOf st)
  (Q:=λc a =>c=(none,())/\Base κ a₀ a /\Seg lt (arrOf a) lo (lo+n)/\(∀k,k<lo->d4 (arrOf a) k=d4 (arrOf st) k)/\pendingOf a =pendingOf st) ?step ?fin ?init) ?post)
 case post=>
  rintro c a ⟨rfl,e,d,o,t⟩;exact aH5 (h a e d o t)
 case init=>
  refine⟨rfl,K,λp q B u J=>?_,λ_ _=>rfl,rfl⟩;by_cases z:p=q
  ·subst z;exact O.MS _
  ·exact L p q B u (by lia)
 case fin=>
  rintro c a ⟨M,e,d,r⟩;refine⟨M,e,?_,r⟩
  rwa [show min (max (max ok 1) n) n=n by (clear r bG H;lia)]at d
 case step=>
  rintro k c a D F ⟨rfl,e,d,o,t⟩;rw[show min k n=k by lia]at d;have hk:lo+k<a₀.size:=by lia
  refine aGk (wpS_mono (aIq (I:=λx c b =>b =a /\∃l r,c=(none,l,r)/\l<=r/\r<=k/\r-l<=k-x/\
    (∀i,i<l->lt (d4 (arrOf a) (lo+k)) (d4 (arrOf a) (lo+i))=false)/\(∀i,r<=i->i<k->lt (d4 (arrOf a) (lo+k)) (d4 (arrOf a) (lo+i))=true))
   (Q:=λc b =>b =a /\∃l r,c=(none,l,r)/\l<=k/\
    (∀i,i<l->lt (d4 (arrOf a) (lo+k)) (d4 (arrOf a) (lo+i))=false)/\(∀i,l<=i->i<k->lt (d4 (arrOf a) (lo+k)) (d4 (arrOf a) (lo+i))=true)) ?istep ?ifin ?iinit) ?ipost)
  case iinit=>exact⟨rfl,0,k,rfl,by lia,by lia,by lia,λi hi=>by lia,λi z N=>by lia⟩
  case ifin=>
   rintro c b ⟨rfl,l,r,rfl,G,v,P,f,g⟩;obtain rfl:l=r:=by lia
   exact⟨rfl,l,l,rfl,v,f,g⟩
  case istep=>
   rintro x c b _ R ⟨rfl,l,r,rfl,G,v,P,f,g⟩;dsimp only;by_cases y:l>=r
   ·rw[if_pos y];obtain rfl:l=r:=by lia
    exact aH5 ⟨rfl,l,l,rfl,v,f,g⟩
   ·rw[if_neg y];refine aGk (AH C e hk (by lia) ?_)
    cases hless:lt (d4 (arrOf b) (lo+k)) (d4 (arrOf b) (lo+(l+r) / 2)) with
    | true=>
     simp only[if_true];refine aH5 ⟨rfl,l,(l+r) / 2,rfl,by lia,by lia,by lia,f,λi z N=>?_⟩
     cases hx:lt (d4 (arrOf b) (lo+k)) (d4 (arrOf b) (lo+i)) with
     | true=>rfl
     | false=>rw[O.tr _ _ _ (d (lo+(l+r) / 2) (lo+i) (by lia) (by lia) (by lia)) hx]at hless;cases hless
    | false=>
     simp only[Bool.false_eq_true,if_false];refine aH5 ⟨rfl,(l+r) / 2+1,r,rfl,by lia,by lia,by lia,λi z=>?_,g⟩;exact O.tr _ _ _ (d (lo+i) (lo+(l+r) / 2) (by lia) (by lia) (by lia)) hless
  case ipost=>
   rintro c b ⟨rfl,l,r,rfl,S,f,g⟩;show wpS _ _ _ _ (do moveDown' (lo+k) (lo+l);pure (ForInStep.yield (none,()))) _ _;rw[moveDown'_eq];have m:lo+k<(arrOf b).size:=by rw[e.size];exact hk
   have T:lo+k-(lo+l)=k-l:=by lia
   refine aGk (wpS_modify (aH5 ⟨rfl,e.arr (bubble_perm _ _ _),?_,λj U=>?_,t⟩))
   ·rw[show min (k+1) n=k+1 by lia];intro p q B u J;show lt (d4 (bubble (arrOf b) (lo+k) (lo+k-(lo+l))) q) (d4 (bubble (arrOf b) (lo+k) (lo+k-(lo+l))) p)=false;rw[oO m (by lia),oO m (by lia),show lo+k-(lo+k-(lo+l))=lo+l by (clear J u B T m hk F D bG H;lia)]
    repeat' split
    all_goals first
     | (exfalso;lia)
     | exact O.MS _
     | (have:=f (p-lo) (by lia);rwa [show lo+(p-lo)=p by lia]at this)
     | (have:=O.NZ _ _ (g (q-1-lo) (by lia) (by lia));rwa [show lo+(q-1-lo)=q-1 by lia]at this)
     | exact d _ _ (by lia) (by lia) (by lia)
   ·show d4 (bubble (arrOf b) (lo+k) (lo+k-(lo+l))) j=_;rw[oO m (by lia),if_neg (by lia),if_neg (by lia)];exact o j U
end
def ZQ(lo a d:Nat):StateT SortSt Sem (Option (Option Nat)×Nat):=
 forIn [a:d] ((none,a):Option (Option Nat)×Nat) λ_ c=>do
  let x<-ltAt' (lo+c.snd) (lo+c.snd-1)
  match x with
  | some b=>if b=true then pure (ForInStep.done (none,c.snd)) else pure (ForInStep.yield (none,c.snd+1))
  | _=>pure (ForInStep.done (some none,c.snd))
def BH(lo n a:Nat):StateT SortSt Sem (Option Nat):=do
 reverseSlice' lo (lo+n)
 let c<-ZQ lo n a
 match c.fst with
 | some r=>pure r
 | none=>pure (some c.snd)
def GK(lo n d:Nat):StateT SortSt Sem (Option (Option Nat)×Nat×Nat):=
 forIn [n:d] ((none,n,0):Option (Option Nat)×Nat×Nat) λ_ c=>do
  let x<-ltAt' (lo+c.snd.fst) (lo+c.snd.fst-1)
  match x with
  | some a=>
   if a=true then
    if c.snd.snd > 0 then do
     reverseSlice' (lo+c.snd.fst-(c.snd.snd+1)) (lo+c.snd.fst)
     pure (ForInStep.yield (none,c.snd.fst+1,0))
    else pure (ForInStep.yield (none,c.snd.fst+1,0))
   else do
    let y<-ltAt' (lo+c.snd.fst-1) (lo+c.snd.fst)
    match y with
    | some b=>if b=true then pure (ForInStep.done (none,c.snd.fst,c.snd.snd)) else pure (ForInStep.yield (none,c.snd.fst+1,c.snd.snd+1))
    | _=>pure (ForInStep.done (some none,c.snd.fst,c.snd.snd))
  | _=>pure (ForInStep.done (some none,c.snd.fst,c.snd.snd))
def BY(lo n a:Nat):StateT SortSt Sem (Option Nat):=do
 liftM (rule "list.sort.descending-run")
 let c<-GK lo (n+1) a
 match c.fst with
 | some r=>pure r
 | none=>
  if c.snd.snd > 0 then do
   reverseSlice' (lo+c.snd.fst-(c.snd.snd+1)) (lo+c.snd.fst)
   BH lo c.snd.fst a
  else BH lo c.snd.fst a
theorem IQ(lo d:Nat):countRun' lo d=(do
  let c<-ZQ lo 1 d
  match c.fst with
  | some r=>pure r
  | none=>
   if (c.snd==d)=true then pure (some c.snd)
   else if c.snd > 1 then do
    let x<-ltAt' lo (lo+c.snd-1)
    match x with
    | some b=>if b=true then pure (some c.snd) else do
      reverseSlice' lo (lo+c.snd)
      BY lo c.snd d
    | _=>pure none
   else BY lo c.snd d):=by
 rw[countRun'_eq];dsimp only;unfold BY BH GK ZQ;congr 1;funext c;obtain⟨r,n⟩:=c
 cases r with
 | some r=>rfl
 | none=>
  dsimp only;have e:∀(a:Option (Option Nat)×Nat),(match a.fst with | some r=>(pure r:StateT SortSt Sem (Option Nat)) | none=>pure (some a.snd))=(match a.fst with | some r=>pure r | none=>pure (some a.snd)):=λ_=>rfl;split
  ·rfl
  ·split
   ·congr 1;funext x
    cases x with
    | none=>rfl
    | some b=>
     dsimp only;split
     ·rfl
     ·congr 1;funext u;congr 1;funext u1;congr 1;congr 1;funext c2;obtain⟨r2,n2,q2⟩:=c2
      cases r2 with
      | some r2=>rfl
      | none=>
       dsimp only;split
       ·congr 1;funext v;congr 1;funext v1;congr 1;funext a;obtain⟨r3,n3⟩:=a;cases r3 <;> rfl
       ·congr 1;funext v1;congr 1;funext a;obtain⟨r3,n3⟩:=a;cases r3 <;> rfl
   ·congr 1;funext u1;congr 1;congr 1;funext c2;obtain⟨r2,n2,q2⟩:=c2
    cases r2 with
    | some r2=>rfl
    | none=>
     dsimp only;split
     ·congr 1;funext v;congr 1;funext v1;congr 1;funext a;obtain⟨r3,n3⟩:=a;cases r3 <;> rfl
     ·congr 1;funext v1;congr 1;funext a;obtain⟨r3,n3⟩:=a;cases r3 <;> rfl
section
variable {prog:Program}{w:World}{A:Around}{E:aJo}{s:Shared}{a₀:aJr}{κ:SortKind}{lt:aJp}
theorem ON{i j:Nat}{Q:Unit->SortSt->Prop}(h:Q () (setArr st (mirror (arrOf st) i j ((j-i) / 2)))):wpS (model prog w) A E s (reverseSlice' i j) Q st:=by
 rw[reverseSlice'_eq];exact wpS_modify h
def j6(lo:Nat)(st a :SortSt):Prop:=(∀k,k<lo->d4 (arrOf a) k=d4 (arrOf st) k)/\pendingOf a =pendingOf st
variable{lo:Nat}
theorem j6.refl:j6 lo st st:=⟨λ_ _=>rfl,rfl⟩
theorem j6.trans{a b c:SortSt}(h:j6 lo a b)(h' :j6 lo b c):j6 lo a c:=⟨λk hk=>(h'.1 k hk).trans (h.1 k hk),h'.2.trans h.2⟩
theorem j6.mirror{lo i j:Nat}(hi:lo<=i)(a:j<=(arrOf st).size):j6 lo st (setArr st (PyProof.Rows.mirror (arrOf st) i j ((j-i) / 2))):=
 ⟨λk hk=>by show d4 (PyProof.Rows.mirror (arrOf st) i j ((j-i) / 2)) k=_;rw[iC a,if_neg (by lia)],rfl⟩
theorem wup(O:Wk lt)(C:EU prog w A s κ lt a₀){lo a e:Nat}{Q:Option (Option Nat)×Nat->SortSt->Prop}(t:lo+e<=a₀.size)(u:1<=a)(f:a<=e)(m:Base κ a₀ st)(o:Seg lt (arrOf st) lo (lo+a))
  (h:∀n,a<=n->n<=e->Seg lt (arrOf st) lo (lo+n)->(n=e\/lt (d4 (arrOf st) (lo+n)) (d4 (arrOf st) (lo+n-1))=true)->Q (none,n) st):wpS (model prog w) A E s (ZQ lo a e) Q st:=by
 unfold ZQ;refine aIq (I:=λx c d =>d =st/\c=(none,x)/\Seg lt (arrOf st) lo (lo+x)) ?step ?fin ⟨rfl,rfl,o⟩
 case fin=>
  rintro c d ⟨rfl,rfl,b⟩;rw[show max a e=e by lia]at b ⊢;exact h e f (aFq _) b (.inl rfl)
 case step=>
  rintro x c d g r ⟨rfl,rfl,b⟩;dsimp only;refine aGk (AH C m (by lia) (by lia) ?_)
  cases hless:lt (d4 (arrOf d) (lo+x)) (d4 (arrOf d) (lo+x-1)) with
  | true=>
   simp only[if_true];exact aH5 (h x g (by lia) b (.inr hless))
  | false=>
   simp only[Bool.false_eq_true,if_false];refine aH5 ⟨rfl,rfl,λp q l i v=>?_⟩;by_cases j:q<lo+x
   ·exact b p q l i j
   ·obtain rfl:q=lo+x:=by lia
    by_cases k :p=lo+x
    ·subst k;exact O.MS _
    ·exact O.tr _ _ _ (b p (lo+x-1) l (by lia) (by lia)) hless
variable{n bY:Nat}{Q:Option Nat->SortSt->Prop}
theorem TM(O:Wk lt)(C:EU prog w A s κ lt a₀)(g:lo+bY<=a₀.size)(i:1<=n)(c:n<=bY)(f:Base κ a₀ st)(j:TH lt (arrOf st) lo (lo+n))
  (h:∀m a,Base κ a₀ a ->1<=m->m<=bY->Seg lt (arrOf a) lo (lo+m)->j6 lo st a ->Q (some m) a):wpS (model prog w) A E s (BH lo n bY) Q st:=by
 unfold BH;have hsz:lo+n<=(arrOf st).size:=by rw[f.size];lia
 refine aGk (ON ?_);have b :Base κ a₀ (setArr st (mirror (arrOf st) lo (lo+n) ((lo+n-lo) / 2))):=f.arr (mirror_perm _ _ _ _);refine aGk (wup O C g i c b ?_ λm k d e _=>aH5 (h m _ b (by lia) d e (j6.mirror (aFq _) hsz)));intro p q o l r;show lt (d4 (mirror (arrOf st) lo (lo+n) ((lo+n-lo) / 2)) q) (d4 (mirror (arrOf st) lo (lo+n) ((lo+n-lo) / 2)) p)=false;rw[iC hsz,iC hsz,if_pos (by lia),if_pos (by lia)];exact j _ _ (by lia) (by lia) (by lia)
def Alike(lt:aJp)(xs:aJr)(i j:Nat):Prop:=∀p q,i<=p->p<j->i<=q->q<j->lt (d4 xs p) (d4 xs q)=false
theorem oQ(O:Wk lt){lo i j n:Nat}(d:j<=xs.size)(he:Alike lt xs i j)(b:TH lt xs lo n)(hi:lo<=i)(h:j<=n):TH lt (mirror xs i j ((j-i) / 2)) lo n:=by
 intro p q e c f;rw[iC d,iC d];by_cases g:i<=p/\p<j
 ·rw[if_pos g];by_cases a:i<=q/\q<j
  ·rw[if_pos a];exact he _ _ (by lia) (by lia) (by lia) (by lia)
  ·rw[if_neg a];exact b _ _ (by lia) (by lia) f
 ·rw[if_neg g];by_cases a:i<=q/\q<j
  ·rw[if_pos a];exact b _ _ e (by lia) (by lia)
  ·rw[if_neg a];exact b _ _ e c f
theorem ZO(O:Wk lt)(C:EU prog w A s κ lt a₀){Q:Option (Option Nat)×Nat×Nat->SortSt->Prop}(J:lo+bY<=a₀.size)(t:1<=n)(u:n<=bY)(z:Base κ a₀ st)(B:TH lt (arrOf st) lo (lo+n))
  (h:∀m b a,Base κ a₀ a ->n<=m->m<=bY->TH lt (arrOf a) lo (lo+m)->b+1<=m->Alike lt (arrOf a) (lo+m-(b+1)) (lo+m)->j6 lo st a ->Q (none,m,b) a):wpS (model prog w) A E s (GK lo n bY) Q st:=by
 unfold GK
 have one:∀(xs:aJr) (x:Nat),1<=x->Alike lt xs (lo+x-(0+1)) (lo+x):=λxs x K p q t D F G=>by
  obtain rfl:p=q:=by lia
  exact O.MS _
 refine aIq (I:=λx c a =>∃b,c=(none,x,b)/\Base κ a₀ a /\TH lt (arrOf a) lo (lo+x)/\b+1<=x/\Alike lt (arrOf a) (lo+x-(b+1)) (lo+x)/\j6 lo st a) ?step ?fin ⟨0,rfl,z,B,by lia,one _ _ t,j6.refl⟩
 case fin=>
  rintro c a ⟨b,rfl,d,e,l,he,o⟩;rw[show max n bY=bY by lia]at e l he⊢;exact h bY b a d u (aFq _) e l he o
 case step=>
  rintro x c a v H ⟨b,rfl,d,e,l,he,o⟩;dsimp only;have hsz:lo+x<=(arrOf a).size:=by rw[d.size];lia
  refine aGk (AH C d (by lia) (by lia) ?_)
  cases hless:lt (d4 (arrOf a) (lo+x)) (d4 (arrOf a) (lo+x-1)) with
  | true=>
   simp only[if_true]
   have g:TH lt (arrOf a) lo (lo+x+1):=by
    intro p q r j l;by_cases f:q<lo+x
    ·exact e p q r j f
    ·obtain rfl:q=lo+x:=by lia
     by_cases k :p=lo+x
     ·subst k;exact O.MS _
     ·exact O.tr _ _ _ (O.NZ _ _ hless) (e p (lo+x-1) r (by lia) (by lia))
   by_cases i:b > 0
   ·rw[if_pos i];refine aGk (ON (aH5 ⟨0,rfl,d.arr (mirror_perm _ _ _ _),?_,by lia,one _ _ (by lia),o.trans (j6.mirror (by lia) hsz)⟩));exact oQ O hsz he g (by lia) (by lia)
   ·rw[if_neg i];exact aH5 ⟨0,rfl,d,g,by lia,one _ _ (by lia),o⟩
  | false=>
   simp only[Bool.false_eq_true,if_false];refine aGk (AH C d (by lia) (by lia) ?_)
   cases hlarger:lt (d4 (arrOf a) (lo+x-1)) (d4 (arrOf a) (lo+x)) with
   | true=>
    simp only[if_true];exact aH5 (h x b a d v (by lia) e l he o)
   | false=>
    simp only[Bool.false_eq_true,if_false];refine aH5 ⟨b+1,rfl,d,λp q r j l=>?_,by lia,λp q t D F G=>?_,o⟩
    ·by_cases f:q<lo+x
     ·exact e p q r j f
     ·obtain rfl:q=lo+x:=by lia
      by_cases k :p=lo+x
      ·subst k;exact O.MS _
      ·exact O.tr _ _ _ hlarger (e p (lo+x-1) r (by lia) (by lia))
    ·by_cases y:p=lo+x
     ·subst y;by_cases f:q=lo+x
      ·subst f;exact O.MS _
      ·exact O.tr _ _ _ (he (lo+x-1) q (by lia) (by lia) (by lia) (by lia)) hless
     ·by_cases f:q=lo+x
      ·subst f;exact O.tr _ _ _ hlarger (he p (lo+x-1) (by lia) (by lia) (by lia) (by lia))
      ·exact he p q (by lia) (by lia) (by lia) (by lia)
theorem TN(O:Wk lt)(C:EU prog w A s κ lt a₀)(g:lo+bY<=a₀.size)(i:n+1<=bY)(t:Base κ a₀ st)(u:TH lt (arrOf st) lo (lo+(n+1)))
  (h:∀m a,Base κ a₀ a ->1<=m->m<=bY->Seg lt (arrOf a) lo (lo+m)->j6 lo st a ->Q (some m) a):wpS (model prog w) A E s (BY lo n bY) Q st:=by
 unfold BY;refine aGk (wpS_lift (aGt ⟨rfl,?_⟩));refine aGk (ZO O C g (by lia) i t u λm j a c v e f x he r=>?_);dsimp only;have hsz:lo+m<=(arrOf a).size:=by rw[c.size];lia
 by_cases b:j > 0
 ·rw[if_pos b];refine aGk (ON (TM O C g (by lia) e (c.arr (mirror_perm _ _ _ _)) ?_ λm d k l o p q=>h m d k l o p (r.trans ((j6.mirror (by lia) hsz).trans q))));exact oQ O hsz he f (by lia) (aFq _)
 ·rw[if_neg b];exact TM O C g (by lia) e c f λm d k l o p q=>h m d k l o p (r.trans q)
theorem UL(O:Wk lt)(C:EU prog w A s κ lt a₀)(l:lo+bY<=a₀.size)(x:1<=bY)(d:Base κ a₀ st)
  (h:∀m b,Base κ a₀ b ->1<=m->m<=bY->Seg lt (arrOf b) lo (lo+m)->j6 lo st b ->Q (some m) b):wpS (model prog w) A E s (countRun' lo bY) Q st:=by
 rw[IQ]
 refine aGk (wup O C l (aFq 1) x d (λp q x K L=>by
  obtain rfl:p=q:=by lia
  exact O.MS _) λn g i c o=>?_)
 dsimp only;by_cases e:n=bY
 ·rw[if_pos (by simpa using e)];exact aH5 (h n st d g i c j6.refl)
 ·rw[if_neg (by simpa using e)];have j:lt (d4 (arrOf st) (lo+n)) (d4 (arrOf st) (lo+n-1))=true:=o.resolve_left e;by_cases k:n > 1
  ·rw[if_pos k];refine aGk (AH C d (by lia) (by lia) ?_)
   cases hrose:lt (d4 (arrOf st) lo) (d4 (arrOf st) (lo+n-1)) with
   | true=>
    simp only[if_true];exact aH5 (h n st d g i c j6.refl)
   | false=>
    simp only[Bool.false_eq_true,if_false];have hsz:lo+n<=(arrOf st).size:=by rw[d.size];lia
    have a:Alike lt (arrOf st) lo (lo+n):=λp q M N y P=>by
     have z:=c lo p (aFq _) (by lia) (by lia);have B:=c q (lo+n-1) y (by lia) (by lia);exact O.tr _ _ _ (O.tr _ _ _ B hrose) z
    have hd:TH lt (arrOf st) lo (lo+(n+1)):=λp q r t D=>by
     by_cases u:q<lo+n
     ·exact a p q r (by lia) (by lia) u
     ·obtain rfl:q=lo+n:=by lia
      by_cases f :p=lo+n
      ·subst f;exact O.MS _
      ·exact O.tr _ _ _ (O.NZ _ _ j) (a p (lo+n-1) r (by lia) (by lia) (by lia))
    refine aGk (ON (TN O C l (by lia) (d.arr (mirror_perm _ _ _ _)) ?_ λm v F G H I J=>h m v F G H I ((j6.mirror (aFq _) hsz).trans J)));exact oQ O hsz a hd (aFq _) (by lia)
  ·rw[if_neg k];obtain rfl:n=1:=by lia
   refine TN O C l (by lia) d (λp q r t D=>?_) h;by_cases f :p=q
   ·subst f;exact O.MS _
   ·obtain rfl:p=lo:=by lia
    obtain rfl:q=p+1:=by lia
    exact O.NZ _ _ j
end
section
variable {prog:Program}{w:World}{A:Around}{E:aJo}{s:Shared}{a₀:aJr}{κ:SortKind}{lt:aJp}
theorem ZN(O:Wk lt)(C:EU prog w A s κ lt a₀){Q:Unit->SortSt->Prop}(B:Base κ a₀ st)(v:pendingOf st= #[])(F:2<=a₀.size)(g:a₀.size<64)
  (h:∀a,Base κ a₀ a ->Seg lt (arrOf a) 0 a₀.size->Q () a):wpS (model prog w) A E s sortRuns' Q st:=by
 have k:minRun' a₀.size a₀.size 0=a₀.size:=by
  cases hz:a₀.size with
  | zero=>(clear g;omega)
  | succ f=>rw[minRun'_succ,if_pos (by omega)];try rfl
 have l:=B.size;rw[sortRuns'_eq];refine aGk (wpS_get ?_);dsimp only;simp only[l,k]
 refine aGk (wpS_mono (aIq
  (I:=λx c a =>(x=0/\c=(none,0)/\Base κ a₀ a /\pendingOf a = #[])\/(0<x/\c=(none,a₀.size)/\Base κ a₀ a /\Seg lt (arrOf a) 0 a₀.size/\(pendingOf a).size<=1))
  (Q:=λc a =>c=(none,a₀.size)/\Base κ a₀ a /\Seg lt (arrOf a) 0 a₀.size/\(pendingOf a).size<=1) ?turn ?last (.inl ⟨rfl,rfl,B,v⟩)) ?rest)
 case last=>
  rintro c a (⟨u,_⟩ | ⟨_,r⟩)
  ·(clear l k g;omega)
  ·exact r
 case turn=>
  have i:∀{d:SortSt},Base κ a₀ d->Seg lt (arrOf d) 0 a₀.size->pendingOf d= #[]->∀n,Base κ a₀ (setPending d ((pendingOf d).push (0,n,0)))/\Seg lt (arrOf (setPending d ((pendingOf d).push (0,n,0)))) 0 a₀.size/\(pendingOf (setPending d ((pendingOf d).push (0,n,0)))).size<=1:=λ{d} b y p n=>by
   refine⟨⟨b.perm,b.kind,b.YE⟩,y,?_⟩;show ((pendingOf d).push (0,n,0)).size<=1;rw[p];simp
  rintro x c a _ u (⟨rfl,rfl,b,p⟩ | ⟨_,rfl,r⟩)
  ·dsimp only;rw[if_neg (by (clear u l k g;omega))];simp only[Nat.sub_zero,Nat.min_self,Nat.zero_add];refine aGk (UL O C (by omega) (by (clear u l k g;omega)) b λm e D m1 G j o=>?_);have z:pendingOf e= #[]:=o.2.trans p;simp only[Nat.zero_add]at j;dsimp only;by_cases less:m<a₀.size
   ·rw[if_pos less];refine aGk (wpS_lift (aGt ⟨rfl,?_⟩));refine aGk (OO O C (by omega) G D (by simpa using j) λd H q _ J=>?_);have t :pendingOf d= #[]:=J.trans z;simp only[Nat.zero_add]at q;simp only[Bool.not_true,Bool.false_eq_true,if_false];refine aGk (wpS_get ?_);rw[show (pendingOf d).back? =none by rw[t];rfl];dsimp only;obtain⟨q1,q2,q3⟩:=i H q t a₀.size;exact aGk (wpS_modify (aH5 (.inr ⟨by omega,rfl,q1,q2,q3⟩)))
   ·obtain rfl:m=a₀.size:=by (clear m1 u l k g F;omega)
    rw[if_neg less];refine aGk (wpS_get ?_);rw[show (pendingOf e).back? =none by rw[z];rfl];dsimp only;obtain⟨q1,q2,q3⟩:=i D j z a₀.size;exact aGk (wpS_modify (aH5 (.inr ⟨by omega,rfl,q1,q2,q3⟩)))
  ·dsimp only;rw[if_pos (Nat.le_refl _)];exact aH5 ⟨rfl,r⟩
 case rest=>
  rintro c a ⟨rfl,b,y,p⟩;dsimp only;refine aGk (wpS_mono (aIq (I:=λ_ c e=>c=(none,())/\e=a) (Q:=λc e=>c=(none,())/\e=a) ?_ (λ_ _ r=>r) ⟨rfl,rfl⟩) ?_)
  ·rintro x c e _ _ ⟨rfl,rfl⟩;refine aGk (wpS_get ?_);rw[if_pos p];exact aH5 ⟨rfl,rfl⟩
  ·rintro c e ⟨rfl,rfl⟩;exact aH5 (h _ b y)
variable{vs:List Value}
theorem O7(g:xs.Perm (pairsOf vs))(m:Seg lt xs 0 vs.length):
  ((xs.map (·.2)).toList).Perm vs/\((xs.map (·.2)).toList).Pairwise (λx y=>lt (y,y) (x,x)=false):=by
 have h:xs.toList.Perm (vs.zip vs):=by rw[<-pairsOf_toList];exact Array.perm_iff_toList_perm.mp g
 have same:∀p∈xs.toList,p=(p.2,p.2):=λp b=>by
  have n:=h.mem_iff.mp b
  have:∀(l:List Value) (q:Keyed),q∈l.zip l->q=(q.2,q.2):=λl q c=>by
   induction l with
   | nil=>simp at c
   | cons v r o=>
    rw[List.zip_cons_cons]at c;rcases aFy.mp c with e | e
    ·rw[e]
    ·exact o e
  exact this vs p n
 have hsz:xs.size=vs.length:=by have:=g.size_eq;rw[pairsOf_size]at this;exact this
 refine⟨?_,?_⟩
 ·rw[Array.toList_map];have:=h.map (·.2)
  rwa [show (vs.zip vs).map (·.2)=vs from List.map_snd_zip (aFq _)]at this
 ·rw[Array.toList_map,List.pairwise_map];rw[List.pairwise_iff_getElem];intro i j hi k d;have f :i<xs.size:=by simpa using hi
  have a :j<xs.size:=by simpa using k
  have q:=m i j (aGm _) (aGs d) (by rw[<-hsz];exact a);have s:d4 xs i=xs.toList[i]:=by unfold d4;rw[getElem?_pos xs i f];simp
  have t:d4 xs j=xs.toList[j]:=by unfold d4;rw[getElem?_pos xs j a];simp
  rw[s,t]at q;rw[same _ (List.getElem_mem hi),same _ (List.getElem_mem k)]at q;exact q
theorem C4(O:Wk lt){a:Addr}{n:Nat}{P:PySem.Fin->Shared->Prop}(ho:s.heap.get? a=some (seqObj "list" vs.toArray n))(k:vs.length<64)
  (t:2<=vs.length->∀h' :Heap,(∀b o,b≠a->s.heap.get? b=some o->h'.get? b=some o)->EU prog w A {s with heap:=h'} κ lt (pairsOf vs)/\
   ∀v,v κ {s with heap:=h'}->wpAny (model prog w) A (keyKind' vs.toArray) v E {s with heap:=h'})
  (h:∀out:List Value,out.Perm vs->out.Pairwise (λx y=>lt (y,y) (x,x)=false)->P (.done (.ret .none)) {s with heap:=sortedHeap s.heap a vs out.toArray}):
  wpAny (model prog w) A (Builtin.«list.sort» ⟨[.ref a],[]⟩) P E s:=by
 have z:a<s.heap.objs.size:=aFu ho;have B:sizeLine=16777216:=aGb
 obtain⟨m,o1⟩:∃m,(s.heap.update a (Obj.mapSeq λ_=>#[])).get? a=some (seqObj "list" #[] m):=⟨_,get?_update_seq ho λ_=>#[]⟩
 have C:(((s.heap.update a (Obj.mapSeq λ_=>#[])).push (seqObj "tuple" vs.toArray 0)).push (seqObj "list" #[] 0)).get? a=some (seqObj "list" #[] m):=aFn _ (aFn _ o1)
 have g:∀b o,b≠a->s.heap.get? b=some o->(((s.heap.update a (Obj.mapSeq λ_=>#[])).push (seqObj "tuple" vs.toArray 0)).push (seqObj "list" #[] 0)).get? b=some o:=λb o F e=>
  aFn _ (aFn _ (by rw[Heap.get?_update_ne _ _ _ _ F];exact e))
 have d:∀c :SortSt,(arrOf c).Perm (pairsOf vs)->Seg lt (arrOf c) 0 vs.length->failedOf c =none->wpAny (model prog w) A (do
   let touched:=(<-seqEpoch a) !=m
   Builtin.List.listUpdate (.ref a) λ_=>(arrOf c).map (·.2)
   if let some e:=failedOf c then rule "list.sort.comparison-raised";throw e
   if touched then rule "list.sort.modified";raiseError "ValueError" "list modified during sort"
   ret .none) P E {s with heap:=((s.heap.update a (Obj.mapSeq λ_=>#[])).push (seqObj "tuple" vs.toArray 0)).push (seqObj "list" #[] 0)}:=λc D j G=>by
  obtain⟨H,I⟩:=O7 D j
  have L:((arrOf c).map (·.2)).size<=sizeLine:=by
   rw[Array.size_map];have:=D.size_eq;rw[pairsOf_size]at this;omega
  refine aFm (seqEpoch_at C rfl ?_);refine aFm (listUpdate_at C rfl ?_ (hsz2:=by (clear B z t k;omega)));rw[G];simp only[bne_self_eq_false,Bool.false_eq_true,if_false];have l:=h _ H I;rw[Array.toArray_toList]at l;exact aFo l
 rw[list_sort_plain];refine aFm (listItems_at ho rfl ?_);refine aFm (listUpdate_at ho rfl ?_ (by rw[List.size_toArray];omega) (aGm _));refine aFm (seqEpoch_at o1 rfl ?_);refine aFm (aHa ?_ (by show vs.length<=_;omega));refine aFm (aJi ?_ (aGm _));refine aGf ?_;dsimp only;by_cases SG:vs.length<2
 ·have f :vs.toArray.size<2:=by rw[List.size_toArray];exact SG
  rw[if_pos f,if_pos f];refine aFm (aFo ?_);rw[StateT.run_pure];refine aFm (aFo ?_)
  exact d (SortSt.mk' general' (vs.toArray.zip vs.toArray) #[] 7 none) (Array.Perm.refl _) (λp q _ J M=>by
   obtain rfl:p=q:=by (clear f B z t k;omega)
   exact O.MS _) rfl
 ·have i:¬vs.toArray.size<2:=by rw[List.size_toArray];exact SG
  rw[if_neg i,if_neg i];obtain⟨u,kind⟩:=t (by omega) _ g;refine aFm (kind _ ?_)
  refine aFm (aGa (ZN (Q:=λ_ c =>Base κ (pairsOf vs) c /\Seg lt (arrOf c) 0 (pairsOf vs).size) O u (st:=SortSt.mk' κ (vs.toArray.zip vs.toArray) #[] 7 none) ⟨Array.Perm.refl _,rfl,rfl⟩ rfl
   (by rw[pairsOf_size];omega) (by rw[pairsOf_size];omega) λc b j=>⟨b,j⟩) (λr N K=>?_) λ_ _ e=>e)
  obtain⟨⟨⟩,c⟩:=r;obtain⟨rfl,b,j⟩:=K;rw[pairsOf_size]at j;exact d c b.perm j b.YE
theorem JZ(O:Wk lt){l:Addr}{Q:aJo}(d:s.heap.IsList l vs.toArray)(c:vs.length<64)
  (f:2<=vs.length->∀h' :Heap,(∀b o,s.heap.get? b=some o->h'.get? b=some o)->EU prog w A.in1.in1 {s with heap:=h'} κ lt (pairsOf vs)/\
   ∀a g,a κ {s with heap:=h'}->wpAny (model prog w) A.in1.in1 (keyKind' vs.toArray) a g {s with heap:=h'})
  (h:∀out:List Value,out.Perm vs->out.Pairwise (λx y=>lt (y,y) (x,x)=false)->Q (.ref (s.heap.objs.size+1)) {s with heap:=sortedAll s.heap vs out.toArray}):
  wpAny (model prog w) A (call (.builtin "sorted") [.ref l]) Q E s:=by
 have u:sizeLine=16777216:=aGb;have grown:((s.heap.push (seqObj "list" #[] 0)).update s.heap.objs.size (Obj.mapSeq (· ++vs.toArray))).objs.size=s.heap.objs.size+1:=by rw[Heap.size_update,size_push']
 have kept:∀b o,s.heap.get? b=some o->(((s.heap.push (seqObj "list" #[] 0)).update s.heap.objs.size (Obj.mapSeq (· ++vs.toArray))).push (seqObj "list" vs.toArray 0)).get? b=some o:=λb o e=>by
  have i:=aFu e;refine aFn _ ?_;rw[Heap.get?_update_ne _ _ _ _ (Nat.ne_of_lt i)];exact aFn _ e
 refine aI6 kind_sorted plain_sorted entry_sorted (args_sorted1 _) ?_;unfold Builtin.«sorted»;refine aFm (m:=checkCount "sorted" 1 1 _) (aFo ?_);refine aFm (collect_list d ?_ (by omega));refine aFm (aJi ?_ (by omega))
 have ob:(((s.heap.push (seqObj "list" #[] 0)).update s.heap.objs.size (Obj.mapSeq (· ++vs.toArray))).push (seqObj "list" vs.toArray 0)).get? (s.heap.objs.size+1)=some (seqObj "list" vs.toArray 0):=by
  rw[<-grown];exact aFs _ rfl
 show wpAny _ _ _ _ _ {s with heap:=((s.heap.push (seqObj "list" #[] 0)).update s.heap.objs.size (Obj.mapSeq (· ++vs.toArray))).push (seqObj "list" vs.toArray 0)};rw[grown];refine aFm (aGf (aG1 slot_list_sort ⟨_,ob,rfl⟩ entry_list_sort (C4 (κ:=κ) (s:={s with heap:=((s.heap.push (seqObj "list" #[] 0)).update s.heap.objs.size (Obj.mapSeq (· ++vs.toArray))).push (seqObj "list" vs.toArray 0)}) O ob c (λj h' k=>?_) λout n p=>⟨_,rfl,aFo ⟨_,rfl,h out n p⟩⟩) (args_list_sort _)));obtain⟨r,t⟩:=f j h' λb o e=>k b o (aFz (aGr (aFu e))) (kept b o e);exact⟨r,λa q=>t a _ q⟩
end
end TS
namespace D3
open PySem PySem.Spec PyProof.Rows L2
inductive D where
 | bU | bl (b:Bool) | int (i:Int) | str (x:Str) | ty (n:String)
 | tup (ds:List D) | fl (ds:List D) | ref (n:Nat)
inductive MO where
 | lst (ds:List D)
 | bI (t:Bool) (kvs:List (D×D))
 | eY (t:Bool) (kvs:List (D×D)) (ob:Obj)
 | oth (ds:List D) (f:Addr->List V->HO)
abbrev MH:=List MO
abbrev c9:=List (Option D)
def OG(K:aJn)(H:Hp)(a:Addr)(xs:List V):Prop:=
 (∃o,H a=some (.rY o (.lst xs)))\/
  ∃(o:Obj) (aN:Array Value) (n:Nat),K.lookup a=some o/\o.cls= .type "list"/\o.dict=none/\o.data= .seq aN n/\aN.size<=sizeLine/\Vals xs aN.toList
variable{K:aJn}{H:Hp}{a:Addr}{xs:List V}
theorem OG.sq(h:OG K H a xs):p7 K H a xs:=by
 rcases h with h | h
 ·exact .inl (.inr h)
 ·exact .inr h
def IZ(K:aJn)(H:Hp)(a:Addr)(xs:List V):Prop:=
 H a=some (.tup xs)\/
  ∃(o:Obj) (aN:Array Value) (n:Nat),K.lookup a=some o/\o.cls= .type "tuple"/\o.dict=none/\o.data= .seq aN n/\aN.size<=sizeLine/\Vals xs aN.toList
theorem IZ.of(h:H a=some (.tup xs)):IZ K H a xs:= .inl h
theorem IZ.sq(h:IZ K H a xs):sX K H a xs:=by
 rcases h with h | h
 ·exact .inl (.inl h)
 ·exact .inr h
mutual
def Is(K:aJn)(μ:List Addr)(H:Hp):D->V->Prop
 | .bU,v=>v= .bU
 | .bl b,v=>v= .bl b
 | .int i,v=>v= .int i
 | .str x,v=>v= .str x
 | .ty n,v=>v= .ty n
 | .tup ds,v=>∃a vs,v= .ref a/\IZ K H a vs/\IsL K μ H ds vs
 | .fl ds,v=>∃a vs,v= .ref a/\OG K H a vs/\IsL K μ H ds vs
 | .ref n,v=>∃a,μ[n]? =some a/\v= .ref a
def IsL(K:aJn)(μ:List Addr)(H:Hp):List D->List V->Prop
 | [],vs=>vs=[]
 | d::ds,vs=>∃v r,vs=v::r/\Is K μ H d v/\IsL K μ H ds r
end
def aS:Key->D
 | .inl i=>.int i
 | .inr x=>.str x
def rR(o:Option HO)(ks:List D)(vs:List V):Bool->Prop
 | false=>∃kk:List (Key×V),o=some (.dK kk)/\ks=kk.map (λp=>aS p.1)/\vs=kk.map (·.2)
 | true=>∃kk:List (List Key×V),o=some (.dT kk)/\ks=kk.map (λp=>.tup (p.1.map aS))/\vs=kk.map (·.2)
def Own:Option HO->Prop
 | some (.rY _ (.dK _))=>True
 | some (.rY _ (.dT _))=>True
 | o=>EN o
def m7(K:aJn)(μ:List Addr)(H:Hp):MO->Addr->Prop
 | .lst ds,a=>∃vs,H a=some (.lst vs)/\IsL K μ H ds vs
 | .bI t kvs,a=>∃vs,rR (H a) (kvs.map (·.1)) vs t/\IsL K μ H (kvs.map (·.2)) vs
 | .eY t kvs ob,a=>∃vs u,H a=some (.rY ob u)/\rR (some u) (kvs.map (·.1)) vs t/\IsL K μ H (kvs.map (·.2)) vs
 | .oth ds f,a=>∃vs,(H a=some (f a vs)/\Own (some (f a vs)))/\IsL K μ H ds vs
structure Rep(K:aJn)(μ:List Addr)(mh:MH)(H:Hp):Prop where
 len:μ.length=mh.length
 nd:μ.Nodup
 obj:∀(n:Nat) a o,μ[n]? =some a->mh[n]? =some o->m7 K μ H o a
structure aI(μ:List Addr)(H:Hp)(μ' :List Addr)(H' :Hp):Prop where
 pre:∃t,μ' =μ++t
 fr:∀b o,H b=some o->b∉μ->H' b=some o
 nw:∀a∈μ',a∈μ\/H a=none
def bX(K:aJn)(μ:List Addr)(H:Hp)(a:c9)(σ:L2.St):Prop:=
 a.length=σ.length/\∀(i:Nat) d,a[i]? =some (some d)->∃v,σ[i]? =some (some v)/\Is K μ H d v
section
variable {K:aJn}{μ μ1 μ2 μ' :List Addr}{mh mh' :MH}{H H1 H2 H' :Hp}
theorem m7.mut{o:MO}(h:m7 K μ H o a):Own (H a):=by
 cases o with
 | lst ds=>obtain⟨vs,e,_⟩:=h;rw[e];trivial
 | bI t kvs=>cases t <;> (obtain⟨vs,⟨kk,e,_⟩,_⟩:=h;rw[e];trivial)
 | eY t kvs ob=>cases t <;> (obtain⟨vs,u,e,⟨kk,b,_⟩,_⟩:=h;cases b;rw[e];trivial)
 | oth ds f=>obtain⟨vs,⟨e,m⟩,_⟩:=h;rw[e];exact m
theorem Rep.at(R:Rep K μ mh H)(h:a∈μ):∃(n:Nat) (o:MO),μ[n]? =some a/\mh[n]? =some o/\m7 K μ H o a:=by
 obtain⟨n,b⟩:=aGw.mp h;have c:n<mh.length:=by rw[<-R.len];exact(aFp.mp b).1
 exact⟨n,mh[n],b,by simp[c],R.obj n a _ b (by simp[c])⟩
theorem Rep.mut(R:Rep K μ mh H)(h:a∈μ):Own (H a):=let ⟨_,_,_,_,q⟩:=R.at h;q.mut
theorem aI.refl:aI μ H μ H:=⟨⟨[],by simp⟩,λ_ _ h _=>h,λ_ h=>.inl h⟩
theorem aI.trans(p:aI μ H μ1 H1)(q:aI μ1 H1 μ2 H2):aI μ H μ2 H2:=by
 refine⟨?_,λb o e n=>?_,λa d=>?_⟩
 ·obtain⟨t,rfl⟩:=p.pre;obtain⟨u,rfl⟩:=q.pre;exact⟨t++u,by simp⟩
 ·refine q.fr b o (p.fr b o e n) λf=>?_;rcases p.nw b f with z | z
  ·exact n z
  ·rw[e]at z;cases z
 ·rcases q.nw a d with z | z
  ·exact p.nw a z
  ·by_cases c:a∈μ
   ·exact .inl c
   ·right
    cases e:H a with
    | none=>rfl
    | some o=>rw[p.fr a o e c]at z;cases z
variable{n:Nat}
theorem aI.get(p:aI μ H μ' H')(h:μ[n]? =some a):μ'[n]? =some a:=by
 obtain⟨t,rfl⟩:=p.pre;rw[List.getElem?_append_left (List.getElem?_eq_some_iff.mp h).1];exact h
variable{vs:List V}
theorem Rep.Z6(R:Rep K μ mh H)(p:aI μ H μ' H')(h:IZ K H a vs):IZ K H' a vs:=by
 rcases h with h | h
 ·refine .inl (p.fr _ _ h λb=>?_);have:=R.mut b;rw[h]at this;exact this
 ·exact .inr h
theorem Rep.Z7(R:Rep K μ mh H)(p:aI μ H μ' H')(h:OG K H a vs):OG K H' a vs:=by
 rcases h with ⟨o,h⟩ | h
 ·refine .inl ⟨o,p.fr _ _ h λb=>?_⟩;have:=R.mut b;rw[h]at this;exact this
 ·exact .inr h
mutual
theorem Is.mono(R:Rep K μ mh H)(p:aI μ H μ' H'):∀(d:D) (v:V),Is K μ H d v->Is K μ' H' d v
 | .bU,v,h=>by unfold Is at*;exact h
 | .bl _,v,h=>by unfold Is at*;exact h
 | .int _,v,h=>by unfold Is at*;exact h
 | .str _,v,h=>by unfold Is at*;exact h
 | .ty _,v,h=>by unfold Is at*;exact h
 | .tup ds,v,h=>by
  unfold Is at*;obtain⟨a,vs,e,s,l⟩:=h;exact⟨a,vs,e,R.Z6 p s,IsL.mono R p ds vs l⟩
 | .fl ds,v,h=>by
  unfold Is at*;obtain⟨a,vs,e,s,l⟩:=h;exact⟨a,vs,e,R.Z7 p s,IsL.mono R p ds vs l⟩
 | .ref n,v,h=>by
  unfold Is at*;obtain⟨a,e,q⟩:=h;exact⟨a,p.get e,q⟩
theorem IsL.mono(R:Rep K μ mh H)(p:aI μ H μ' H'):∀(ds:List D) (vs:List V),IsL K μ H ds vs->IsL K μ' H' ds vs
 | [],vs,h=>by unfold IsL at*;exact h
 | d::ds,vs,h=>by
  unfold IsL at*;obtain⟨v,r,e,q,l⟩:=h;exact⟨v,r,e,Is.mono R p d v q,IsL.mono R p ds r l⟩
end
theorem bX.mono{a:c9}{σ:L2.St}(R:Rep K μ mh H)(p:aI μ H μ' H')(E:bX K μ H a σ):bX K μ' H' a σ:=⟨E.1,λi d e=>by
 obtain⟨v,b,c⟩:=E.2 i d e
 exact⟨v,b,Is.mono R p d v c⟩⟩
theorem m7.mono{o:MO}(R:Rep K μ mh H)(p:aI μ H μ' H')(e:H' a=H a)(h:m7 K μ H o a):m7 K μ' H' o a:=by
 cases o with
 | lst ds=>obtain⟨vs,q,l⟩:=h;exact⟨vs,by rw[e];exact q,IsL.mono R p ds vs l⟩
 | bI t kvs=>obtain⟨vs,q,l⟩:=h;exact⟨vs,by rw[e];exact q,IsL.mono R p _ vs l⟩
 | eY t kvs ob=>obtain⟨vs,u,q,q2,l⟩:=h;exact⟨vs,u,by rw[e];exact q,q2,IsL.mono R p _ vs l⟩
 | oth ds f=>obtain⟨vs,⟨q,m⟩,l⟩:=h;exact⟨vs,⟨by rw[e];exact q,m⟩,IsL.mono R p ds vs l⟩
variable{q:Addr}
theorem aI.new{o:HO}(R:Rep K μ mh H)(a:H q=none):aI μ H μ (upd H q o):=
 ⟨⟨[],by simp⟩,λb u e _=>by rw[aK (bN e a)];exact e,λ_ h=>.inl h⟩
theorem Rep.ne(R:Rep K μ mh H)(b:H q=none)(h:a∈μ):a≠q:=by
 rintro rfl;have:=R.mut h;rw[b]at this;exact this
theorem Rep.new{o:HO}(R:Rep K μ mh H)(b:H q=none):Rep K μ mh (upd H q o):=
 ⟨R.len,R.nd,λn a ob c d=>(R.obj n a ob c d).mono R (aI.new R b) (aK (R.ne b (aFx c)))⟩
theorem aI.BC{o:HO}(R:Rep K μ mh H)(c:H q=none):aI μ H (μ++[q]) (upd H q o):=
 ⟨⟨[q],rfl⟩,λb u e _=>by rw[aK (bN e c)];exact e,λa h=>by
  rcases aG5.mp h with h | h
  ·exact .inl h
  ·simp at h;subst h;exact .inr c⟩
theorem Rep.BC{ds:List D}(R:Rep K μ mh H)(e:H q=none)(l:IsL K μ H ds vs):Rep K (μ++[q]) (mh++[.lst ds]) (upd H q (.lst vs)):=by
 have P:aI μ H (μ++[q]) (upd H q (.lst vs)):=aI.BC R e;refine⟨by simp[R.len],?_,λn a ob c d=>?_⟩
 ·rw[List.nodup_append];refine⟨R.nd,by simp,λa h b f=>?_⟩;simp at f;subst f;exact R.ne e h
 ·by_cases g:n<μ.length
  ·rw[List.getElem?_append_left g]at c;rw[List.getElem?_append_left (by rw[<-R.len];exact g)]at d;exact(R.obj n a ob c d).mono R P (aK (R.ne e (aFx c)))
  ·rw[List.getElem?_append_right (by lia)]at c;rw[List.getElem?_append_right (by rw[<-R.len];lia)]at d
   have hz:n-μ.length=0:=by
    have:=(aFp.mp c).1;simp at this;lia
   rw[hz]at c;rw[<-R.len,hz]at d;simp at c d;subst c d;exact⟨vs,aP,l.mono R P⟩
theorem aI.set{o:HO}(R:Rep K μ mh H)(h:μ[n]? =some a):aI μ H μ (upd H a o):=
 ⟨⟨[],by simp⟩,λb u e c=>by rw[aK (λz=>c (by rw[z];exact List.mem_of_getElem? h))];exact e,λ_ h=>.inl h⟩
theorem w4{n m:Nat}(nd:μ.Nodup)(b:μ[n]? =some a)(c:μ[m]? =some a):n=m:=by
 obtain⟨l1,d⟩:=aFp.mp b;obtain⟨l2,e⟩:=aFp.mp c;exact(List.getElem_inj nd).mp (d.trans e.symm)
theorem Rep.set{ds:List D}(R:Rep K μ mh H)(h:μ[n]? =some a)(l:IsL K μ H ds vs):Rep K μ (mh.set n (.lst ds)) (upd H a (.lst vs)):=by
 have P:aI μ H μ (upd H a (.lst vs)):=aI.set R h;refine⟨by simp[R.len],R.nd,λm b ob c d=>?_⟩;by_cases e:m=n
 ·subst e;rw[h]at c;cases c;have f:m<mh.length:=by rw[<-R.len];exact(aFp.mp h).1
  rw[List.getElem?_set_self f]at d;cases d;exact⟨vs,aP,l.mono R P⟩
 ·rw[List.getElem?_set_ne (Ne.symm e)]at d;exact(R.obj m b ob c d).mono R P (aK λz=>e (w4 R.nd c (by rw[z];exact h)))
end
abbrev DK:=D->MH->Prop
abbrev WE:=c9->MH->DK->Prop
def Fin(K:aJn)(μ:List Addr)(H:Hp)(R:DK)(Q:VK):Prop:=
 ∀d mh',R d mh' ->∀μ' v H',aI μ H μ' H' ->Rep K μ' mh' H' ->Is K μ' H' d v->Q v H'
def tL(K:aJn)(w:WE):TE:=λσ H Q=>∃μ a mh R,Rep K μ mh H/\bX K μ H a σ/\w a mh R/\Fin K μ H R Q
def LE(X:Cx)(e:Expr)(w:WE):Prop:=PE X e (tL X.K w)
variable{X:Cx}
theorem PE.imp{e:Expr}{t t' :TE}(h:PE X e t)(i:∀σ H Q,t' σ H Q->t σ H Q):PE X e t' :=λpins s σ H Q I q=>h pins s σ H Q I (i σ H Q q)
variable{μ μ1:List Addr}{R:DK}{Q:VK}
theorem Fin.at{H a:Hp}(F:Fin K μ H R Q)(P:aI μ H μ1 a):Fin K μ1 a R Q:=
 λd mh' r μ' v H' b c I=>F d mh' r μ' v H' (P.trans b) c I
def aA(i:Nat):WE:=λa mh Q=>∃d,a[i]? =some (some d)/\Q d mh
def wC(d:D):WE:=λ_ mh Q=>Q d mh
section
variable {X:Cx}{a b c:Expr}{wa wb wc:WE}{pos:Pos}
theorem W7(i:Nat){x:Str}(hN:X.N[i]? =some x:=by rfl)(hv:Vis X.env.scope x:=by first | exact Or.inl rfl | exact Or.inr (Or.inl rfl) | exact Or.inr (Or.inr rfl))(hd:(x==("__debug__":Str))=false:=by decide)
  (a:(x==("__classdict__":Str))=false:=by decide):LE X (.Name x pos) (aA i):=PE.imp (VP hN hv hd a) λσ H Q h=>by
 obtain⟨μ,c,mh,R,r,E,⟨d,hd,b⟩,F⟩:=h;obtain⟨v,e,i⟩:=E.2 _ d hd;exact⟨v,e,F d mh b μ v H aI.refl r i⟩
theorem L7{e:Expr}{v:V}{d:D}(h:PE X e (tC v))(a:∀μ H,Is X.K μ H d v):LE X e (wC d):=PE.imp h λσ H Q h=>by
 obtain⟨μ,c,mh,R,r,E,b,F⟩:=h;exact F d mh b μ v H aI.refl r (a μ H)
theorem le_int{i:Int}{j}:LE X (.Constant (.int i) j pos) (wC (.int i)):=L7 VX λ_ _=>by unfold Is;rfl
theorem aBj{i:Bool}{j}:LE X (.Constant (.bool i) j pos) (wC (.bl i)):=L7 aAo λ_ _=>by unfold Is;rfl
theorem XB{j}:LE X (.Constant .none j pos) (wC .bU):=L7 VT λ_ _=>by unfold Is;rfl
theorem le_str{i:Str}{j}:LE X (.Constant (.str i) j pos) (wC (.str i)):=L7 VQ λ_ _=>by unfold Is;rfl
theorem RM{x:Str}{T:String}(hg:Gl X x)(a:X.mg x=none)(hv:bootBuiltins x=some (.type T))(b:x≠ "__name__":=by decide)(hd:(x==("__debug__":Str))=false:=by decide):LE X (.Name x pos) (wC (.ty T)):=
 L7 (QP (v:= .ty T) hg a hv rfl b hd) λ_ _=>by unfold Is;rfl
abbrev O1:=D->MH->DK->Prop
abbrev O2:=D->D->MH->DK->Prop
def bE(K:aJn)(f:O2):R2:=λx y H Q=>∃μ mh dx a R,Rep K μ mh H/\Is K μ H dx x/\Is K μ H a y/\f dx a mh R/\Fin K μ H R Q
def LU(K:aJn)(f:O1):V->Hp->VK->Prop:=λx H Q=>∃μ mh dx R,Rep K μ mh H/\Is K μ H dx x/\f dx mh R/\Fin K μ H R Q
def bD(f:O2)(wa wb:WE):WE:=λc mh Q=>wa c mh λx a=>wb c a λy b=>f x y b Q
def ZA(f:O1)(wa:WE):WE:=λb mh Q=>wa b mh λx a=>f x a Q
variable{f:O2}{σ:L2.St}
theorem FR(h:tL K (bD f wa wb) σ H Q):ZV (bE K f) (tL K wa) (tL K wb) σ H Q:=by
 obtain⟨μ,d,mh,R,e,E,h,F⟩:=h;refine⟨μ,d,mh,_,e,E,h,λdx a k μ1 l q g i m=>⟨μ1,d,a,_,i,E.mono e g,k,λn b o c r s j R2 p=>?_⟩⟩;exact⟨c,b,dx,n,R,R2,Is.mono i j dx l m,p,o,F.at (g.trans j)⟩
theorem ZR{f:O1}(h:tL K (ZA f wa) σ H Q):tUn (LU K f) (tL K wa) σ H Q:=by
 obtain⟨μ,b,mh,R,c,E,h,F⟩:=h;exact⟨μ,b,mh,_,c,E,h,λdx a d μ1 j k e g i=>⟨μ1,a,dx,R,g,i,d,F.at e⟩⟩
theorem aBd{c:Operator}(ho:dP X (binaryOp c) (bE X.K f))(d:LE X a wa)(e:LE X b wb):LE X (.BinOp a c b pos) (bD f wa wb):=PE.imp (aAj ho d e) λ_ _ _ h=>FR h
theorem aBc{b:UnaryOp}{f:O1}(ho:ZK X (unaryOp b) (LU X.K f))(c:LE X a wa):LE X (.UnaryOp b a pos) (ZA f wa):=PE.imp (aAi ho c) λ_ _ _ h=>ZR h
variable{op:CmpOp}
theorem LZ(ho:dP X (compareOp op) (bE X.K f))(c:LE X a wa)(d:LE X b wb)(e:behindInMarks op b=false):LE X (.Compare a [op] [b] pos) (bD f wa wb):=PE.imp (QM ho c d e) λ_ _ _ h=>FR h
theorem FY(ho:OI X (bE X.K f))(c:LE X a wa)(d:LE X b wb)(e:GS b):LE X (.Subscript a b pos) (bD f wa wb):=PE.imp (aAl ho c d e) λ_ _ _ h=>FR h
def tE(f g:O2)(wa wb wc:WE):WE:=λb mh Q=>wa b mh λx c=>wb b c λy d=>f x y d λz a=>∃k,z= .bl k/\if k=true then wc b a λu e=>g y u e Q else Q (.bl false) a
theorem NR{f g:O2}(h:tL K (tE f g wa wb wc) σ H Q):JU (bE K f) (bE K g) (tL K wa) (tL K wb) (tL K wc) σ H Q:=by
 obtain⟨μ,i,mh,R,j,E,h,F⟩:=h;refine⟨μ,i,mh,_,j,E,h,λdx l z μ1 A M r s B=>⟨μ1,i,l,_,s,E.mono j r,z,λe m C n t N u R2 v=>?_⟩⟩;refine⟨n,m,dx,e,_,R2,Is.mono s u dx A B,v,C,λO c b d P D w o x=>?_⟩;obtain⟨k,rfl,b⟩:=b;unfold Is at x;refine⟨k,x,?_⟩;have a:=(r.trans u).trans w
 cases k with
 | false=>rw[if_neg Bool.false_ne_true]at b⊢;exact F _ c b d _ D a o (by unfold Is;rfl)
 | true=>
  rw[if_pos rfl]at b⊢;refine⟨d,i,c,_,o,(E.mono j a),b,λG p I q S T y J L=>?_⟩;exact⟨q,p,e,G,R,J,Is.mono o y e t (Is.mono R2 w e t v),L,I,F.at (a.trans y)⟩
abbrev WT:=c9->MH->(Bool->MH->Prop)->Prop
def TC(K:aJn)(μ:List Addr)(H:Hp)(R:Bool->MH->Prop)(Q:Bool->Hp->Prop):Prop:=
 ∀b mh',R b mh' ->∀μ' H',aI μ H μ' H' ->Rep K μ' mh' H' ->Q b H'
def FC(K:aJn)(w:WT):TT:=λσ H Q=>∃μ a mh R,Rep K μ mh H/\bX K μ H a σ/\w a mh R/\TC K μ H R Q
def LT(X:Cx)(e:Expr)(w:WT):Prop:=PT X e (FC X.K w)
def LW(X:Cx)(e:Expr)(w:WT):Prop:=PW X e (FC X.K w)
theorem PT.imp{X:Cx}{e:Expr}{t t' :TT}(h:PT X e t)(i:∀σ H Q,t' σ H Q->t σ H Q):PT X e t' :=λpins s σ H Q I q=>h pins s σ H Q I (i σ H Q q)
theorem PW.imp{X:Cx}{e:Expr}{t t' :TT}(h:PW X e t)(i:∀σ H Q,t' σ H Q->t σ H Q):PW X e t' :=λa pins s σ H Q I q=>h a pins s σ H Q I (i σ H Q q)
variable{Q:Bool->Hp->Prop}
theorem TC.at{H a:Hp}{R:Bool->MH->Prop}(F:TC K μ H R Q)(P:aI μ H μ1 a):TC K μ1 a R Q:=
 λb mh' r μ' H' c d =>F b mh' r μ' H' (P.trans c) d
def cL(w:WE):WT:=λb mh Q=>w b mh λx a=>∃k,x= .bl k/\Q k a
theorem JO{t:TE}{w:WE}(i:∀σ H Q,tL K w σ H Q->t σ H Q)(h:FC K (cL w) σ H Q):JQ t σ H Q:=by
 obtain⟨μ,d,mh,R,e,E,h,F⟩:=h;refine i σ H _ ⟨μ,d,mh,_,e,E,h,λdx a b μ1 l f g j c=>?_⟩;obtain⟨k,rfl,b⟩:=b;unfold Is at c;exact⟨k,c,F k a b μ1 f g j⟩
theorem LH(ho:dP X (compareOp op) (bE X.K f))(c:LE X a wa)(d:LE X b wb)(e:behindInMarks op b=false):LT X (.Compare a [op] [b] pos) (cL (bD f wa wb)):=
 PT.imp (P0 ho c d e) λ_ _ _ h=>JO (λ_ _ _ z=>FR z) h
theorem LJ{op d :CmpOp}{f g:O2}(ho:dP X (compareOp op) (bE X.K f))(e :dP X (compareOp d) (bE X.K g))(i:LE X a wa)(j:LE X b wb)(k:LE X c wc)
  (l:lastMarks [op,d] [b,c]=false:=by with_unfolding_all rfl):LT X (.Compare a [op,d] [b,c] pos) (cL (tE f g wa wb wc)):=
 PT.imp (KJ ho e i j k l) λ_ _ _ h=>JO (λ_ _ _ z=>NR z) h
def jA(mh:MH):D->Option Bool
 | .bU=>some false
 | .bl b=>some b
 | .int i=>some (i !=0)
 | .str y=>if y.length<=sizeLine then some ((y.length:Int) !=0) else none
 | .tup ds=>some !ds.isEmpty
 | .fl ds=>some !ds.isEmpty
 | .ref n=>match mh[n]? with | some (.lst ds)=>some !ds.isEmpty | _=>none
 | .ty _=>none
theorem aW{K:aJn}{μ:List Addr}{H:Hp}:∀{ds:List D} {vs:List V},IsL K μ H ds vs->vs.length=ds.length
 | [],vs,h=>by unfold IsL at h;subst h;rfl
 | d::ds,vs,h=>by unfold IsL at h;obtain⟨v,r,rfl,_,l⟩:=h;simp[aW l]
theorem zB{ds:List D}{vs:List V}(h:IsL K μ H ds vs):vs.isEmpty=ds.isEmpty:=by
 have:=aW h;cases vs <;> cases ds <;> simp_all
theorem US{mh:MH}{d:D}{v:V}{k:Bool}(R:Rep K μ mh H)(h:Is K μ H d v)(e:jA mh d=some k):Y5 K v H k:=by
 cases d with
 | bU=>unfold Is at h;subst h;simp[jA]at e;subst e;rfl
 | bl b=>unfold Is at h;subst h;simp[jA]at e;subst e;rfl
 | int i=>unfold Is at h;subst h;simp[jA]at e;subst e;rfl
 | str y=>
  unfold Is at h;subst h;simp only[jA]at e;split at e
  ·rename_i hl;exact⟨hl,(aGe e).symm⟩
  ·cases e
 | ty n=>simp[jA]at e
 | tup ds=>
  unfold Is at h;obtain⟨a,vs,rfl,s,l⟩:=h;obtain rfl:(!ds.isEmpty)=k:=aGe e;exact .inr (.inl ⟨vs,s.sq,by rw[zB l]⟩)
 | fl ds=>
  unfold Is at h;obtain⟨a,vs,rfl,s,l⟩:=h;obtain rfl:(!ds.isEmpty)=k:=aGe e;exact .inl ⟨vs,s.sq,by rw[zB l]⟩
 | ref n=>
  unfold Is at h;obtain⟨a,q,rfl⟩:=h;simp only[jA]at e
  cases o:mh[n]? with
  | none=>rw[o]at e;cases e
  | some ob=>
   cases ob with
   | lst ds=>
    rw[o]at e;cases e;obtain⟨vs,hv,l⟩:=R.obj n a _ q o;exact .inl ⟨vs,.of hv,by rw[zB l]⟩
   | bI t kvs=>rw[o]at e;cases e
   | eY t kvs ob=>rw[o]at e;cases e
   | oth ds f=>rw[o]at e;cases e
def mB(w:WE):WT:=λb mh Q=>w b mh λx a=>∃k,jA a x=some k/\Q k a
theorem LG(g:LE X a wa)(he:∀b,isTrue a X.env b=(do let v<-b;standAt a.pos;holding [v] (truthy v)):=by intro _;rfl):LT X a (mB wa):=PT.imp (KI g he) λσ H Q h=>by
 obtain⟨μ,i,mh,R,j,E,h,F⟩:=h;refine⟨μ,i,mh,_,j,E,h,λdx c d μ1 o l m f n=>?_⟩;obtain⟨k,e,d⟩:=d;exact⟨k,US f n e,F k c d μ1 l m f⟩
def lD(t u:WT):WT:=λb mh Q=>t b mh λc a=>if c=true then u b a Q else Q false a
def x4(t u:WT):WT:=λb mh Q=>t b mh λc a=>if c=true then Q true a else u b a Q
def lC(t:WT):WT:=λb mh Q=>t b mh λc a=>Q (!c) a
variable {ta tb:WT}{rest:List Expr}
theorem Q9(b:LT X a ta):LW X (.BoolOp .And [a] pos) ta:=PX b
theorem WQ(b:LT X a ta):LW X (.BoolOp .Or [a] pos) ta:=VD b
theorem LF(k:LT X a ta)(l:LW X (.BoolOp .And (b::rest) pos) tb):LW X (.BoolOp .And (a::b::rest) pos) (lD ta tb):=PW.imp (VE k l) λσ H Q h=>by
 obtain⟨μ,g,mh,R,i,E,h,F⟩:=h;refine⟨μ,g,mh,_,i,E,h,λc d e μ1 m f j=>?_⟩
 cases c with
 | true=>rw[if_pos rfl]at e⊢;exact⟨μ1,g,d,R,j,E.mono i f,e,F.at f⟩
 | false=>rw[if_neg Bool.false_ne_true]at e⊢;exact F false d e μ1 m f j
theorem UB(k:LT X a ta)(l:LW X (.BoolOp .Or (b::rest) pos) tb):LW X (.BoolOp .Or (a::b::rest) pos) (x4 ta tb):=PW.imp (aAf k l) λσ H Q h=>by
 obtain⟨μ,g,mh,R,i,E,h,F⟩:=h;refine⟨μ,g,mh,_,i,E,h,λc d e μ1 m f j=>?_⟩
 cases c with
 | true=>rw[if_pos rfl]at e⊢;exact F true d e μ1 m f j
 | false=>rw[if_neg Bool.false_ne_true]at e⊢;exact⟨μ1,g,d,R,j,E.mono i f,e,F.at f⟩
theorem LW.lt(h:LW X a ta):LT X a ta:=PW.pt h
theorem WR(d:LT X a ta):LT X (.UnaryOp .Not a pos) (lC ta):=PT.imp (VF d) λσ H Q h=>by
 obtain⟨μ,e,mh,R,f,E,h,F⟩:=h;exact⟨μ,e,mh,_,f,E,h,λc b g μ1 i j k=>F (!c) b g μ1 i j k⟩
def wJ(wa wb:WE):WE:=λb mh Q=>wa b mh λx a=>∃c,x= .bl c/\if c=true then wb b a Q else Q (.bl false) a
theorem W9{op}(b:LE X a wa):LE X (.BoolOp op [a] pos) wa:=VR b
theorem XH(l:LE X a wa)(m:LE X (.BoolOp .And (b::rest) pos) wb):LE X (.BoolOp .And (a::b::rest) pos) (wJ wa wb):=PE.imp (VY l m) λσ H Q h=>by
 obtain⟨μ,g,mh,R,i,E,h,F⟩:=h;refine⟨μ,g,mh,_,i,E,h,λdx e d μ1 o n f j k=>?_⟩;obtain⟨c,rfl,d⟩:=d;unfold Is at k;refine⟨c,k,?_⟩
 cases c with
 | true=>rw[if_pos rfl]at d⊢;exact⟨μ1,g,e,R,j,E.mono i f,d,F.at f⟩
 | false=>rw[if_neg Bool.false_ne_true]at d⊢;exact F _ e d μ1 _ n f j (by unfold Is;rfl)
def E6(wa:WE):WE:=λb mh Q=>wa b mh λx a=>∃c,x= .bl c/\Q (.bl !c) a
theorem XA(f:LE X a wa):LE X (.UnaryOp .Not a pos) (E6 wa):=PE.imp (VS f) λσ H Q h=>by
 obtain⟨μ,g,mh,R,i,E,h,F⟩:=h;refine⟨μ,g,mh,_,i,E,h,λdx b d μ1 m j k l e=>?_⟩;obtain⟨c,rfl,d⟩:=d;unfold Is at e;exact⟨c,e,F _ b d μ1 _ j k l (by unfold Is;rfl)⟩
end
abbrev WA:=c9->MH->(List D->MH->Prop)->Prop
def FinA(K:aJn)(μ:List Addr)(H:Hp)(R:List D->MH->Prop)(Q:List V->Hp->Prop):Prop:=
 ∀ds mh',R ds mh' ->∀μ' vs H',aI μ H μ' H' ->Rep K μ' mh' H' ->IsL K μ' H' ds vs->Q vs H'
def tLA(K:aJn)(w:WA):TA:=λσ H Q=>∃μ a mh R,Rep K μ mh H/\bX K μ H a σ/\w a mh R/\FinA K μ H R Q
def LA(X:Cx)(es:List Expr)(w:WA):Prop:=PA X es (tLA X.K w)
theorem PA.imp{e:List Expr}{t t' :TA}(h:PA X e t)(i:∀σ H Q,t' σ H Q->t σ H Q):PA X e t' :=λpos pins s σ H Q I q=>h pos pins s σ H Q I (i σ H Q q)
def aJ:WA:=λ_ mh Q=>Q [] mh
def aB(w:WE)(d:WA):WA:=λc mh Q=>w c mh λx a=>d c a λxs b=>Q (x::xs) b
def WL(ds:List D)(mh:MH)(Q:DK):Prop:=ds.length<=sizeLine/\Q (.tup ds) mh
def DG(ds:List D)(mh:MH)(Q:DK):Prop:=ds.length<=sizeLine/\Q (.ref mh.length) (mh++[.lst ds])
section
variable {K:aJn}{μ:List Addr}{mh:MH}{H:Hp}{R:DK}{Q:VK}{ds:List D}{vs:List V}
theorem nH(a:Rep K μ mh H)(F:Fin K μ H R Q)(l:IsL K μ H ds vs)(h:R (.tup ds) mh):∀p,H p=none->Q (.ref p) (upd H p (.tup vs)):=λp b=>
 F _ mh h μ _ _ (aI.new a b) (a.new b) (by unfold Is;exact⟨p,vs,rfl,.of aP,IsL.mono a (aI.new a b) ds vs l⟩)
theorem gW(a:Rep K μ mh H)(F:Fin K μ H R Q)(l:IsL K μ H ds vs)(h:R (.ref mh.length) (mh++[.lst ds])):∀p,H p=none->Q (.ref p) (upd H p (.lst vs)):=λp b=>
 F _ _ h (μ++[p]) _ _ (aI.BC a b) (a.BC b l) (by unfold Is;exact⟨p,by rw[<-a.len];simp,rfl⟩)
end
def lO(w:WA):WE:=λb mh Q=>w b mh λds a=>WL ds a Q
def nM(w:WA):WE:=λb mh Q=>w b mh λds a=>DG ds a Q
section
variable {X:Cx}{e:Expr}{es:List Expr}{w:WE}{wr:WA}{pos:Pos}
theorem XN:LA X [] aJ:=PA.imp qG λσ H Q h=>by
 obtain⟨μ,b,mh,R,a,E,h,F⟩:=h;exact F [] mh h μ [] H aI.refl a (by unfold IsL;rfl)
theorem RX(l:LE X e w)(m:LA X es wr)(n:starEach (e::es) X.env=(false,eval e X.env)::starEach es X.env:=by rfl):LA X (e::es) (aB w wr):=PA.imp (pM l m n) λσ H Q h=>by
 obtain⟨μ,d,mh,R,f,E,h,F⟩:=h;refine⟨μ,d,mh,_,f,E,h,λdx a o μ1 g t i j p=>⟨μ1,d,a,_,j,E.mono f i,o,λds b q c vs r k R2 s=>?_⟩⟩;exact F _ b q c _ r (i.trans k) R2 (by unfold IsL;exact⟨g,vs,rfl,Is.mono j k dx g p,s⟩)
theorem W8{x1}(h:LA X es wr):LE X (.Tuple es x1 pos) (lO wr):=PE.imp (KW h) λσ H Q h=>by
 obtain⟨μ,c,mh,R,d,E,h,F⟩:=h;refine⟨μ,c,mh,_,d,E,h,λds e a μ1 vs i f g b=>⟨by rw[aW b];exact a.1,nH g (F.at f) b a.2⟩⟩
theorem XC(h:LA X es wr):LE X (.List es pos) (nM wr):=PE.imp (VU h) λσ H Q h=>by
 obtain⟨μ,c,mh,R,d,E,h,F⟩:=h;refine⟨μ,c,mh,_,d,E,h,λds e a μ1 vs i f g b=>⟨by rw[aW b];exact a.1,gW g (F.at f) b a.2⟩⟩
abbrev OA:=List D->MH->DK->Prop
def dJ(K:aJn)(f:OA):List V->Hp->VK->Prop:=λxs H Q=>∃μ mh ds R,Rep K μ mh H/\IsL K μ H ds xs/\f ds mh R/\Fin K μ H R Q
def aH(f:OA)(w:WA):WE:=λb mh Q=>w b mh λds a=>f ds a Q
theorem call_in{f:OA}{σ:L2.St}(h:tL K (aH f wr) σ H Q):tCB (dJ K f) (tLA K wr) σ H Q:=by
 obtain⟨μ,b,mh,R,c,E,h,F⟩:=h;exact⟨μ,b,mh,_,c,E,h,λds a d μ1 vs j e g i=>⟨μ1,a,ds,R,g,i,d,F.at e⟩⟩
theorem L6{x:Str}{p:Pos}{id:String}{f:OA}(c:cB X (.builtin id) (dJ X.K f))(hg:Gl X x)(d:X.mg x=none)(hv:bootBuiltins x=some (.builtin id))(g:LA X (e::es) wr)(i:x≠ "__name__":=by decide)(a:(x==("__debug__":Str))=false:=by decide)
  (he:starEach (e::es) X.env=(false,eval e X.env)::starEach es X.env:=by rfl) (b:(backTo pos (starEach es X.env)).any (·.1)=false:=by rfl):LE X (.Call (.Name x p) (e::es) [] pos) (aH f wr):=
 PE.imp (tV c hg d hv g i a he b) λ_ _ _ h=>call_in h
theorem HR{x:Str}{p:Pos}{T:String}{f:OA}(c:cB X (.type T) (dJ X.K f))(hg:Gl X x)(d:X.mg x=none)(hv:bootBuiltins x=some (.type T))(g:LA X (e::es) wr)(i:x≠ "__name__":=by decide)(a:(x==("__debug__":Str))=false:=by decide)
  (he:starEach (e::es) X.env=(false,eval e X.env)::starEach es X.env:=by rfl) (b:(backTo pos (starEach es X.env)).any (·.1)=false:=by rfl):LE X (.Call (.Name x p) (e::es) [] pos) (aH f wr):=
 PE.imp (qF c hg d hv g i a he b) λ_ _ _ h=>call_in h
def OF(K:aJn)(f:OA):Sp:=λvs H Q _=>dJ K f vs H Q
theorem RU{k:Nat}{f:Addr}{fd:FuncData}{ps:List Str}{x:Str}{p:Pos}{s:OA}(F:j8 X.prog X.w X.K X.mg X.base CM k f fd ps (OF X.K s))(d:f9 k X.A)(hg:Gl X x)(g:X.mg x=some (.ref f))(hk:PySem.W.keepIn X.K (.ref f)=true)(i:Binds X.K fd ps [])
  (j:LA X (e::es) wr) (a:(x==("__debug__":Str))=false:=by decide) (he:starEach (e::es) X.env=(false,eval e X.env)::starEach es X.env:=by rfl) (b:(backTo pos (starEach es X.env)).any (·.1)=false:=by rfl):
  LE X (.Call (.Name x p) (e::es) [] pos) (aH s wr):=PE.imp (QO F d hg g hk i .nil aAp j a he b) λσ H Q h=>by
 obtain⟨μ,l,mh,R,m,E,h,n⟩:=h;refine⟨μ,l,mh,_,m,E,h,λds c o μ1 vs q r t u=>?_⟩;show dJ X.K s (vs++[]) q Q;rw[List.append_nil];exact⟨μ1,c,ds,R,t,u,o,n.at r⟩
end
section
variable {K:aJn}{μ:List Addr}{mh:MH}{H:Hp}
theorem Is.int{i:Int}:Is K μ H (.int i) (.int i):=by unfold Is;rfl
theorem Is.str{i:Str}:Is K μ H (.str i) (.str i):=by unfold Is;rfl
theorem Is.bl{i:Bool}:Is K μ H (.bl i) (.bl i):=by unfold Is;rfl
theorem Is.bU:Is K μ H .bU .bU:=by unfold Is;rfl
variable{v:V}
theorem bR{i:Int}(h:Is K μ H (.int i) v):v= .int i:=by unfold Is at h;exact h
theorem dC{i:Str}(h:Is K μ H (.str i) v):v= .str i:=by unfold Is at h;exact h
theorem BO{i:Bool}(h:Is K μ H (.bl i) v):v= .bl i:=by unfold Is at h;exact h
theorem zA(h:Is K μ H .bU v):v= .bU:=by unfold Is at h;exact h
variable{ds:List D}
theorem y9(h:Is K μ H (.tup ds) v):∃a vs,v= .ref a/\IZ K H a vs/\IsL K μ H ds vs:=by unfold Is at h;exact h
theorem dB(h:Is K μ H (.tup ds) v):∃a vs,v= .ref a/\sX K H a vs/\IsL K μ H ds vs:=by obtain⟨a,vs,e,s,l⟩:=y9 h;exact⟨a,vs,e,s.sq,l⟩
theorem oC(h:Is K μ H (.fl ds) v):∃a vs,v= .ref a/\OG K H a vs/\IsL K μ H ds vs:=by unfold Is at h;exact h
theorem jG{n:Nat}(h:Is K μ H (.ref n) v):∃a,μ[n]? =some a/\v= .ref a:=by unfold Is at h;exact h
theorem eQ:∀{ds:List D} {vs:List V} {i:Nat} {d:D},IsL K μ H ds vs->ds[i]? =some d->∃v,vs[i]? =some v/\Is K μ H d v
 | [],_,_,_,_,e=>by simp at e
 | x::ds,vs,i,d,h,e=>by
  unfold IsL at h;obtain⟨v,r,rfl,q,l⟩:=h
  cases i with
  | zero=>simp at e;subst e;exact⟨v,rfl,q⟩
  | succ i=>obtain⟨u,a,b⟩:=eQ (i:=i) l (by simpa using e);exact⟨u,by simpa using a,b⟩
theorem kS:∀{ds es:List D} {vs us:List V},IsL K μ H ds vs->IsL K μ H es us->IsL K μ H (ds++es) (vs++us)
 | [],es,vs,us,h,q=>by unfold IsL at h;subst h;exact q
 | d::ds,es,vs,us,h,q=>by
  unfold IsL at h;obtain⟨v,r,rfl,i,l⟩:=h;show IsL K μ H (d::(ds++es)) (v::(r++us));unfold IsL;exact⟨v,_,rfl,i,kS l q⟩
variable{d:D}
theorem fI(h:Is K μ H d v):IsL K μ H [d] [v]:=by unfold IsL;exact⟨v,[],rfl,h,by unfold IsL;rfl⟩
theorem BQ:∀(n:Nat) {ds:List D} {vs:List V},IsL K μ H ds vs->IsL K μ H (ds.drop n) (vs.drop n)
 | 0,_,_,h=>by simpa using h
 | n+1,[],vs,h=>by unfold IsL at h;subst h;simp[IsL]
 | n+1,d::ds,vs,h=>by unfold IsL at h;obtain⟨v,r,rfl,_,l⟩:=h;simpa using BQ n l
theorem BP:∀(n:Nat) {ds:List D} {vs:List V},IsL K μ H ds vs->IsL K μ H (ds.take n) (vs.take n)
 | 0,_,_,h=>by simp[IsL]
 | n+1,[],vs,h=>by unfold IsL at h;subst h;simp[IsL]
 | n+1,d::ds,vs,h=>by
  unfold IsL at h;obtain⟨v,r,rfl,i,l⟩:=h;simp only[List.take_succ_cons];unfold IsL;exact⟨v,_,rfl,i,BP n l⟩
theorem F9:∀(n:Nat) {ds:List D} {vs:List V} {d:D} {v:V},Is K μ H d v->IsL K μ H ds vs->IsL K μ H (ds.set n d) (vs.set n v)
 | n,[],vs,d,v,_,h=>by unfold IsL at h;subst h;simp[IsL]
 | 0,x::ds,vs,d,v,i,h=>by unfold IsL at h;obtain⟨u,r,rfl,_,l⟩:=h;simp only[List.set_cons_zero];unfold IsL;exact⟨v,r,rfl,i,l⟩
 | n+1,x::ds,vs,d,v,i,h=>by unfold IsL at h;obtain⟨u,r,rfl,q,l⟩:=h;simp only[List.set_cons_succ];unfold IsL;exact⟨u,_,rfl,q,F9 n i l⟩
theorem X3{vs:List V}{i:Int}(l:IsL K μ H ds vs)(e:oS ds i=some d):∃v,oS vs i=some v/\Is K μ H d v:=by
 unfold oS at*;rw[aW l]
 cases q:HW ds.length i with
 | none=>rw[q]at e;cases e
 | some j=>rw[q]at e;exact eQ l e
def aX(mh:MH):D->Option (List D)
 | .tup ds=>some ds
 | .fl ds=>some ds
 | .ref n=>match mh[n]? with | some (.lst ds)=>some ds | _=>none
 | _=>none
theorem tQ(R:Rep K μ mh H)(h:Is K μ H d v)(e:aX mh d=some ds):∃a vs,v= .ref a/\(p7 K H a vs\/sX K H a vs)/\IsL K μ H ds vs:=by
 cases d with
 | tup es=>obtain⟨a,vs,rfl,s,l⟩:=dB h;cases e;exact⟨a,vs,rfl,.inr s,l⟩
 | fl es=>obtain⟨a,vs,rfl,s,l⟩:=oC h;cases e;exact⟨a,vs,rfl,.inl s.sq,l⟩
 | ref n=>
  obtain⟨a,q,rfl⟩:=jG h;simp only[aX]at e
  cases o:mh[n]? with
  | none=>rw[o]at e;cases e
  | some ob=>
   cases ob with
   | lst es=>
    rw[o]at e;cases e;obtain⟨vs,hv,l⟩:=R.obj n a _ q o;exact⟨a,vs,rfl,.inl (.of hv),l⟩
   | bI t kvs=>rw[o]at e;cases e
   | eY t kvs ob=>rw[o]at e;cases e
   | oth ds f=>rw[o]at e;cases e
 | _=>cases e
def jD(mh:MH):D->Option (List D)
 | .fl ds=>some ds
 | .ref n=>match mh[n]? with | some (.lst ds)=>some ds | _=>none
 | _=>none
theorem oM(R:Rep K μ mh H)(h:Is K μ H d v)(e:jD mh d=some ds):∃a vs,v= .ref a/\p7 K H a vs/\IsL K μ H ds vs:=by
 cases d with
 | fl es=>obtain⟨a,vs,rfl,s,l⟩:=oC h;cases e;exact⟨a,vs,rfl,s.sq,l⟩
 | ref n=>
  obtain⟨a,q,rfl⟩:=jG h;simp only[jD]at e
  cases o:mh[n]? with
  | none=>rw[o]at e;cases e
  | some ob=>
   cases ob with
   | lst es=>
    rw[o]at e;cases e;obtain⟨vs,hv,l⟩:=R.obj n a _ q o;exact⟨a,vs,rfl,.of hv,l⟩
   | bI t kvs=>rw[o]at e;cases e
   | eY t kvs ob=>rw[o]at e;cases e
   | oth ds f=>rw[o]at e;cases e
 | _=>cases e
theorem mN{n:Nat}(R:Rep K μ mh H)(h:Is K μ H (.ref n) v)(e:mh[n]? =some (.lst ds)):∃a vs,v= .ref a/\μ[n]? =some a/\H a=some (.lst vs)/\IsL K μ H ds vs:=by
 obtain⟨a,q,rfl⟩:=jG h;obtain⟨vs,hv,l⟩:=R.obj n a _ q e;exact⟨a,vs,rfl,q,hv,l⟩
theorem Fin.here(F:Fin K μ H R Q)(a:Rep K μ mh H)(h:R d mh)(i:Is K μ H d v):Q v H:=F d mh h μ v H aI.refl a i
theorem Fin.put{n:Nat}{vs:List V}(F:Fin K μ H R Q)(b:Rep K μ mh H)(c:μ[n]? =some a)(l:IsL K μ H ds vs)(h:R d (mh.set n (.lst ds)))(i:Is K μ H d v):Q v (upd H a (.lst vs)):=
 F d _ h μ v _ (aI.set b c) (b.set c l) (Is.mono b (aI.set b c) d v i)
end
def A8(C:Int->Int->Prop)(g:Int->Int->D):O2:=λx y mh Q=>∃i j,x= .int i/\y= .int j/\C i j/\Q (g i j) mh
section
variable {X:Cx}
variable{f:Value->Value->Sem Value}{g:Int->Int->V}
theorem tX{C:Int->Int->Prop}{g' :Int->Int->D}(h:dP X f (rI C g))(hg:∀μ H i j,Is X.K μ H (g' i j) (g i j)):dP X f (bE X.K (A8 C g')):=by
 intro pins s σ H x y v u Q I a b q;obtain⟨μ,mh,dx,l,R,d,e,k,⟨i,j,rfl,rfl,c,q⟩,F⟩:=q;cases bR e;cases bR k;exact h pins s σ H _ _ v u Q I a b ⟨i,j,rfl,rfl,c,F.here d q (hg _ _ _ _)⟩
theorem aAd(h:dP X f (T4 g)):dP X f (rI (λ_ _=>True) g):=λpins s σ H x y v u Q I b c a=>by obtain⟨i,j,d,e,_,q⟩:=a;exact h pins s σ H x y v u Q I b c ⟨i,j,d,e,q⟩
abbrev WD:O2:=A8 (λ_ _=>True) λi j=>.int (i-j)
abbrev tZ:O2:=A8 JA λi j=>.int (i*j)
abbrev FT:O2:=A8 aCq λi j=>.int (i / j)
abbrev oMod:O2:=A8 (λ_ j=>0<j) λi j=>.int (i % j)
abbrev K3:O2:=A8 Y9 λi j=>.int (i^j.toNat)
theorem V6:dP X (binaryOp .Sub) (bE X.K WD):=tX (aAd VZ) λ_ _ _ _=>.int
theorem V8:dP X (binaryOp .Mult) (bE X.K tZ):=tX V1 λ_ _ _ _=>.int
theorem QY:dP X (binaryOp .FloorDiv) (bE X.K FT):=tX QV λ_ _ _ _=>.int
theorem V9:dP X (binaryOp .Mod) (bE X.K oMod):=tX V2 λ_ _ _ _=>.int
theorem V7:dP X (binaryOp .Pow) (bE X.K K3):=tX V0 λ_ _ _ _=>.int
def HE:O1:=λx mh Q=>∃i,x= .int i/\Q (.int (-i)) mh
theorem UO:ZK X (unaryOp .USub) (LU X.K HE):=by
 intro pins s σ H x v Q I a q;obtain⟨μ,mh,dx,R,b,c,⟨i,rfl,q⟩,F⟩:=q;cases bR c;exact UN pins s σ H _ v Q I a ⟨i,rfl,F.here b q .int⟩
def iN:O2:=λx y mh Q=>match x with
 | .int i=>match y with | .int j=>Q (.int (i+j)) mh | _=>False
 | .str i=>match y with | .str j=>i.length+j.length<=sizeLine/\Q (.str (i++j)) mh | _=>False
 | .tup i=>match y with | .tup j=>i.length+j.length<=sizeLine/\Q (.tup (i++j)) mh | _=>False
 | .ref n=>match y with | .ref m=>∃i j,mh[n]? =some (.lst i)/\mh[m]? =some (.lst j)/\DG (i++j) mh Q | _=>False
 | _=>False
theorem NS{prog:Program}{w:World}{A:Around}{E:aJo}{s:Shared}{t b:Addr}{g:List Value}{Q:aJo}(ht:IsTup s.heap t ([]:List Value).toArray)(k:IsTup s.heap b g.toArray)
  (h:Q (.ref b) s):wpAny (model prog w) A (binaryOp .Add (.ref t) (.ref b)) Q E s:=by
 obtain⟨⟨cls,l,data,sl⟩,ho,i,n,hd⟩:=id ht;obtain⟨⟨j,e,data2,f⟩,a,c,n2,d⟩:=id k;simp only at i hd c d;subst i hd c d
 exact concat_meets ⟨_,ho,rfl⟩ ⟨_,a,rfl⟩ noFill_tuple_add seq_tuple_add aIk aIh (aIa _ _)
   (tuple_addW0 t b _ g.toArray n n2 l e sl f (by simp)) ⟨ho,a,h⟩
theorem WC:dP X (binaryOp .Add) (bE X.K iN):=by
 intro pins s σ H x y v u Q I g h q;obtain⟨μ,mh,dx,o,R,c,k,l,q,F⟩:=q
 cases dx with
 | int i=>cases o with
  | int j=>cases bR k;cases bR l;exact V4 pins s σ H _ _ v u Q I g h ⟨i,j,rfl,rfl,F.here c q .int⟩
  | _=>exact False.elim q
 | str i=>cases o with
  | str j=>cases dC k;cases dC l;exact DD pins s σ H _ _ v u Q I g h ⟨i,j,rfl,rfl,q.1,F.here c q.2 .str⟩
  | _=>exact False.elim q
 | tup i=>cases o with
  | tup j=>
   obtain⟨a,xs,rfl,p,d⟩:=dB k;obtain⟨b,t,rfl,r,f⟩:=dB l;by_cases w:xs=[]
   ·subst w;cases g;cases h;obtain⟨aN,r1,A,_⟩:=I.tuple p;obtain⟨z,r2,B,_⟩:=I.tuple r;cases r1;have hi:i=[]:=by have:=aW d;cases i <;> simp_all
    subst hi;exact NS A B ⟨.ref b,H,I,rfl,F.here c q.2 l⟩
   ·refine QW pins s σ H _ _ v u Q I g h ⟨a,b,xs,t,rfl,rfl,p,r,w,by rw[aW d,aW f];exact q.1,λe=>?_,λ_=>nH c F (kS d f) q.2⟩;subst e;have C:j=[]:=by have:=aW f;cases j <;> simp_all
    subst C;exact F.here c q.2 (by simpa using k)
  | _=>exact False.elim q
 | ref n=>cases o with
  | ref m=>
   obtain⟨i,j,D,E,q⟩:=q;obtain⟨a,xs,rfl,_,p,d⟩:=mN c k D;obtain⟨b,t,rfl,_,r,f⟩:=mN c l E;exact V3 pins s σ H _ _ v u Q I g h ⟨a,b,xs,t,rfl,rfl,p,r,by rw[aW d,aW f,<-List.length_append];exact q.1,gW c F (kS d f) q.2⟩
  | _=>exact False.elim q
 | _=>exact False.elim q
def iL:O2:=λx y mh Q=>∃i,y= .int i/\match x with
 | .str z=>z.length<=sizeLine/\∃c,oS z.cps.toList i=some c/\Q (.str ⟨#[c]⟩) mh
 | _=>∃ds d,aX mh x=some ds/\oS ds i=some d/\Q d mh
theorem ixl:OI X (bE X.K iL):=by
 intro b f pins s σ H x y v u Q I h j q k;obtain⟨μ,mh,dx,C,R,g,n,r,⟨i,rfl,q⟩,F⟩:=q;cases bR r
 have go:(∃ds d,aX mh dx=some ds/\oS ds i=some d/\R d mh)->wpAny (model X.prog X.w) X.A (subscriptTail b f v u) (EP X pins σ Q) X.xe s:=λm=>by
  obtain⟨ds,d,t,B,q⟩:=m;obtain⟨a,vs,rfl,sq,l⟩:=tQ g n t;obtain⟨z,o,p⟩:=X3 l B;rcases sq with sq | sq
  ·exact RZ b f pins s σ H _ _ v u Q I h j ⟨a,vs,i,z,rfl,rfl,sq,o,F.here g q p⟩ k
  ·exact XY b f pins s σ H _ _ v u Q I h j ⟨a,vs,i,z,rfl,rfl,sq,o,F.here g q p⟩ k
 cases dx with
 | str z=>
  obtain⟨hz,c,e,q⟩:=q;cases dC n;exact XZ b f pins s σ H _ _ v u Q I h j ⟨z,i,c,rfl,rfl,hz,e,F.here g q .str⟩ k
 | _=>exact go q
def mU:D->Bool | .bU=>true | _=>false
theorem MP{d:D}{v:V}(h:Is K μ H d v):decide (v= .bU)=mU d:=by
 cases d with
 | bU=>cases zA h;rfl
 | bl _=>cases BO h;rfl
 | int _=>cases bR h;rfl
 | str _=>cases dC h;rfl
 | ty _=>unfold Is at h;subst h;rfl
 | tup _=>obtain⟨a,vs,rfl,_,_⟩:=dB h;rfl
 | fl _=>obtain⟨a,vs,rfl,_,_⟩:=oC h;rfl
 | ref _=>obtain⟨a,_,rfl⟩:=jG h;rfl
def rG:O2:=λx y mh Q=>y= .bU/\Q (.bl !mU x) mh
theorem QX:dP X (compareOp .IsNot) (bE X.K rG):=by
 intro pins s σ H x y v u Q I a b q;obtain⟨μ,mh,dx,f,R,c,d,e,⟨rfl,q⟩,F⟩:=q;cases zA e;exact QU pins s σ H x _ v u Q I a b ⟨rfl,F.here c q (by rw[MP d];exact .bl)⟩
def fG:OA:=λxs mh Q=>∃x,xs=[x]/\match x with
 | .str z=>z.length<=sizeLine/\Q (.int z.length) mh
 | _=>∃ds,aX mh x=some ds/\Q (.int ds.length) mh
variable{vs:List V}
theorem gO{d:D}(h:IsL K μ H [d] vs):∃v,vs=[v]/\Is K μ H d v:=by
 unfold IsL at h;obtain⟨v,r,rfl,i,l⟩:=h;unfold IsL at l;subst l;exact⟨v,rfl,i⟩
theorem BR{d e:D}(h:IsL K μ H [d,e] vs):∃v u,vs=[v,u]/\Is K μ H d v/\Is K μ H e u:=by
 unfold IsL at h;obtain⟨v,r,rfl,i,l⟩:=h;obtain⟨u,rfl,j⟩:=gO l;exact⟨v,u,rfl,i,j⟩
theorem YN:cB X (.builtin "len") (dJ X.K fG):=by
 intro pins s σ H xs us Q I r q;obtain⟨μ,mh,ds,R,b,f,⟨x,rfl,q⟩,F⟩:=q;obtain⟨v,rfl,d⟩:=gO f
 have go:(∃ds,aX mh x=some ds/\R (.int ds.length) mh)->wpAny (model X.prog X.w) X.A (call (.builtin "len") us) (EP X pins σ Q) X.xe s:=λc=>by
  obtain⟨es,e,q⟩:=c;obtain⟨a,vs,rfl,sq,l⟩:=tQ b d e;exact zV pins s σ H _ us Q I r ⟨a,vs,rfl,sq,F.here b q (by rw[aW l];exact .int)⟩
 cases x with
 | str z=>cases dC d;exact zU pins s σ H _ us Q I r ⟨z,rfl,q.1,F.here b q.2 .int⟩
 | _=>exact go q
def N6:OA:=λxs mh Q=>∃i,xs=[.int i]/\Q (.int (if i<0 then -i else i)) mh
theorem YS:cB X (.builtin "abs") (dJ X.K N6):=by
 intro pins s σ H xs us Q I r q;obtain⟨μ,mh,ds,R,a,b,⟨i,rfl,q⟩,F⟩:=q;obtain⟨v,rfl,c⟩:=gO b;cases bR c;exact NU pins s σ H _ us Q I r ⟨i,rfl,F.here a q .int⟩
def xY:OA:=λxs mh Q=>∃i j,xs=[.int i,.int j]/\Q (.int (if j<i then j else i)) mh
theorem SU(a:X.calm=true):cB X (.builtin "min") (dJ X.K xY):=by
 intro pins s σ H xs us Q I r q;obtain⟨μ,mh,ds,R,b,c,⟨i,j,rfl,q⟩,F⟩:=q;obtain⟨v,u,rfl,d,e⟩:=BR c;cases bR d;cases bR e;exact IV a pins s σ H _ us Q I r ⟨i,j,rfl,F.here b q .int⟩
theorem U0{pins:List (Addr×Obj)}{σ:L2.St}{s:Shared}(I:Inv X pins σ H s)(h:p7 X.K H a vs\/sX X.K H a vs):vs.length<=sizeLine:=by
 rcases h with h | h
 ·obtain⟨_,_,_,z⟩:=I.list h;exact z
 ·obtain⟨_,_,_,z⟩:=I.tuple h;exact z
def m6:OA:=λxs mh Q=>∃x ds,xs=[x]/\aX mh x=some ds/\Q (.tup ds) mh
theorem NO:cB X (.type "tuple") (dJ X.K m6):=by
 intro pins s σ H xs us Q I r q;obtain⟨μ,mh,ds,R,b,d,⟨x,es,rfl,e,q⟩,F⟩:=q;obtain⟨v,rfl,c⟩:=gO d
 cases x with
 | tup f=>
  cases e;obtain⟨a,vs,rfl,sq,l⟩:=dB c;exact jI pins s σ H _ us Q I r ⟨a,vs,rfl,.inr ⟨sq,F.here b q c⟩⟩
 | fl f=>
  cases e;obtain⟨a,vs,rfl,sq,l⟩:=oC c;exact jI pins s σ H _ us Q I r ⟨a,vs,rfl,.inl ⟨sq.sq,nH b F l q⟩⟩
 | ref n=>
  obtain⟨a,vs,rfl,sq,l⟩:=oM b c (show jD mh (.ref n)=some es from e);exact jI pins s σ H _ us Q I r ⟨a,vs,rfl,.inl ⟨sq,nH b F l q⟩⟩
 | _=>cases e
end
def OU(mh:MH):D->Option String
 | .bU=>some "NoneType"
 | .bl _=>some "bool"
 | .int _=>some "int"
 | .str _=>some "str"
 | .tup _=>some "tuple"
 | .fl _=>some "list"
 | .ref n=>match mh[n]? with | some (.lst _)=>some "list" | _=>none
 | .ty _=>none
def tK(t c:String):Bool:=t==c || (t== "bool" && c== "int")
def bO:List String:=["int","bool","str","tuple","list"]
theorem UE:∀t∈ "NoneType"::bO,∀c∈bO,PySem.W.kitOne K (.type t) (.type c)=some (tK t c):=by
 intro t ht c a;simp only[bO,List.mem_cons,List.not_mem_nil,or_false]at ht a;rcases ht with rfl | rfl | rfl | rfl | rfl | rfl <;> rcases a with rfl | rfl | rfl | rfl | rfl <;> kernel_rfl
theorem F2{K:aJn}{t:String}(ht:t∈ "NoneType"::bO):∀a:List String,(∀c∈a,c∈bO)->PySem.W.kitAny K (.type t) (a.map Value.type)=some (a.any (tK t))
 | [],_=>rfl
 | c::a,h=>by
  have e:=UE (K:=K) t ht c (h c aFr);have b:=F2 (K:=K) ht a λx d=>h x (aFt _ d);simp only[List.map_cons,PySem.W.kitAny,e,List.any_cons]
  cases tK t c with
  | true=>rfl
  | false=>simpa using b
def vB:OA:=λxs mh Q=>∃x c t,xs=[x,c]/\OU mh x=some t/\
 ((∃T,c= .ty T/\T∈bO/\Q (.bl (tK t T)) mh)\/∃a:List String,c= .tup (a.map .ty)/\(∀T∈a,T∈bO)/\Q (.bl (a.any (tK t))) mh)
section
variable {X:Cx}
theorem XR{pins:List (Addr×Obj)}{σ:L2.St}{s:Shared}{mh:MH}{d:D}{v:V}{u:Value}{t:String}(I:Inv X pins σ H s)(R:Rep X.K μ mh H)(h:Is X.K μ H d v)(r:RelV v u)(e:OU mh d=some t):
  t∈ "NoneType"::bO/\u≠ .builtin "__main__.__loader__#opaque"/\∃P,PySem.W.KitX X.K u (.type t) P/\P s.heap:=by
 have i:∀{a:Addr} {vs:List V},p7 X.K H a vs->∃P,PySem.W.KitX X.K (.ref a) (.type "list") P/\P s.heap:=λ{a vs} sq=>by
  obtain⟨aN,_,⟨o,n,c,g,_⟩,_⟩:=I.list sq;exact⟨_,PySem.W.kitx_list,⟨o,c,g⟩⟩
 cases d with
 | bU=>cases zA h;cases r;cases e;exact⟨by simp[bO],nofun,_,PySem.W.kitx_none,trivial⟩
 | bl b=>cases BO h;cases r;cases e;exact⟨by simp[bO],nofun,_,PySem.W.kitx_bool,trivial⟩
 | int b=>cases bR h;obtain⟨tk,rfl⟩:=r;cases e;exact⟨by simp[bO],nofun,_,PySem.W.kitx_int,trivial⟩
 | str b=>cases dC h;obtain⟨tk,rfl⟩:=r;cases e;exact⟨by simp[bO],nofun,_,PySem.W.kitx_str,trivial⟩
 | ty b=>cases e
 | tup ds=>
  obtain⟨a,vs,rfl,sq,_⟩:=dB h;cases r;cases e;obtain⟨aN,_,⟨o,c,g,_⟩,_⟩:=I.tuple sq;exact⟨by simp[bO],nofun,_,PySem.W.kitx_tuple,⟨o,c,g⟩⟩
 | fl ds=>
  obtain⟨a,vs,rfl,sq,_⟩:=oC h;cases r;cases e;exact⟨by simp[bO],nofun,i sq.sq⟩
 | ref n=>
  obtain⟨a,q,rfl⟩:=jG h;cases r;simp only[OU]at e
  cases o:mh[n]? with
  | none=>rw[o]at e;cases e
  | some ob=>
   cases ob with
   | lst es=>
    rw[o]at e;cases e;obtain⟨vs,hv,l⟩:=R.obj n a _ q o;exact⟨by simp[bO],nofun,i (.of hv)⟩
   | bI t kvs=>rw[o]at e;cases e
   | eY t kvs ob=>rw[o]at e;cases e
   | oth ds f=>rw[o]at e;cases e
theorem F8{K:aJn}{μ:List Addr}{H:Hp}:∀{a:List String} {vs:List V} {us:List Value},IsL K μ H (a.map .ty) vs->Vals vs us->us=a.map Value.type
 | [],vs,us,h,r=>by simp only[List.map_nil]at h;unfold IsL at h;subst h;cases r;rfl
 | T::a,vs,us,h,r=>by
  simp only[List.map_cons]at h;unfold IsL at h;obtain⟨v,c,rfl,i,l⟩:=h
  cases r with
  | cons r1 r2=>
   unfold Is at i;subst i;have b :_=Value.type T:=r1;subst b;rw[F8 l r2];rfl
theorem YO:cB X (.builtin "isinstance") (dJ X.K vB):=by
 intro pins s σ H xs us Q I r q;obtain⟨μ,mh,ds,R,d,p,⟨x,c,t,rfl,u,q⟩,F⟩:=q;obtain⟨v,w,rfl,y,e⟩:=BR p
 cases r with
 | cons r1 r2=>
  cases r2 with
  | cons r2 r3=>
   cases r3;obtain⟨g,h,P,i,j⟩:=XR I d y r1 u
   rcases q with ⟨T,rfl,f,q⟩ | ⟨z,rfl,f,q⟩
   ·unfold Is at e;subst e;have b :_=Value.type T:=r2;subst b
    exact PySem.W.kia_one i I.XX j (UE t g T f) h λtk=>⟨.bl _,H,I.tok tk,rfl,F.here d q .bl⟩
   ·obtain⟨a,vs,rfl,sq,l⟩:=dB e;have b :_=Value.ref a:=r2;subst b;obtain⟨aN,A,⟨o,B,k,n,m⟩,_⟩:=I.tuple sq;have C:=F8 l A;obtain⟨oc,od,D,osl⟩:=o;simp only at k m;subst k m
    exact PySem.W.kia_tup i I.XX j B (by rw[C];exact F2 g z f) h λtk=>⟨.bl _,H,I.tok tk,rfl,F.here d q .bl⟩
def EK:OA:=λxs mh Q=>∃(x:D) (bs:List Bool),xs=[x]/\jD mh x=some (bs.map .bl)/\Q (.bl (bs.all id)) mh
def EJ:OA:=λxs mh Q=>∃(x:D) (bs:List Bool),xs=[x]/\jD mh x=some (bs.map .bl)/\Q (.bl (bs.any id)) mh
theorem zC{K:aJn}{μ:List Addr}{H:Hp}:∀{bs:List Bool} {vs:List V} {us:List Value},IsL K μ H (bs.map .bl) vs->Vals vs us->us=bs.map Value.bool
 | [],vs,us,h,r=>by simp only[List.map_nil]at h;unfold IsL at h;subst h;cases r;rfl
 | T::Ts,vs,us,h,r=>by
  simp only[List.map_cons]at h;unfold IsL at h;obtain⟨v,b,rfl,i,l⟩:=h
  cases r with
  | cons r1 r2=>
   cases BO i;have a :_=Value.bool T:=r1;subst a;rw[zC l r2];rfl
theorem range_all:∀bs:List Bool,(List.range bs.length).all (λi=>bs.getD i true)=bs.all id
 | []=>rfl
 | b::bs=>by
  have:=range_all bs;simp only[List.length_cons,List.range_succ_eq_map,List.all_cons,List.all_map];simp only[Function.comp_def,List.getD_cons_zero,List.getD_cons_succ,this,id]
theorem range_any:∀bs:List Bool,(List.range bs.length).any (λi=>bs.getD i false)=bs.any id
 | []=>rfl
 | b::bs=>by
  have:=range_any bs;simp only[List.length_cons,List.range_succ_eq_map,List.any_cons,List.any_map];simp only[Function.comp_def,List.getD_cons_zero,List.getD_cons_succ,this,id]
theorem xC{prog:Program}{w:World}{A:Around}{E:aJo}{s:Shared}{l:Addr}{items:Array Value}{Q:aJo}(b:s.heap.IsList l items)
  (h:∀a:Shared,a={s with heap:=s.heap.push {cls:= .type "list_iterator",data:= .fields #[.ref l,.int 0 0]}}->
   (a.heap.IsListIter s.heap.objs.size l 0/\a.heap.IsList l items)->l≠s.heap.objs.size->Q (.ref s.heap.objs.size) a):
  wpAny (model prog w) A (pyIter (.ref l)) Q E s:=by
 have c:l<s.heap.objs.size:=by obtain⟨_,e,_⟩:=b;exact aFu e
 exact aIo b (h _ rfl ⟨⟨_,aFs _ rfl,rfl,rfl⟩,b.push _⟩ (aFz c))
theorem YR(h:X.calm=true):cB X (.builtin "all") (dJ X.K EK):=by
 intro pins s σ H xs us Q I r q;obtain⟨μ,mh,ds,R,f,j,⟨x,bs,rfl,e,q⟩,F⟩:=q;obtain⟨v,rfl,k⟩:=gO j;obtain⟨a,vs,rfl,sq,l⟩:=oM f k e;obtain⟨u,rfl,m⟩:=vals1 r;cases m;obtain⟨aN,n,p,hz⟩:=I.list sq;have t:=zC l n;subst t;refine call_all_walk (xC p.isList λg w st d=>?_);subst w;refine⟨_,_,_,_,_,_,λi=>bs.getD i true,rfl,Walks.list (A:=X.A.in1) (I.ok.hd h) _ a d (bs.map Value.bool).toArray,st,?_,λh' tk hk=>?_⟩
 ·intro i v D E G y z;have c :(bs.map Value.bool).toArray[i]? =some v:=y;rw[List.getElem?_toArray,List.getElem?_map]at c;obtain⟨b,B,rfl⟩:=aFw.mp c;have:bs.getD i true=b:=by rw[List.getD_eq_getElem?_getD,B];rfl
  refine aH7 ?_;rw[<-this];exact z
 ·have J:Inv X pins σ H {s with heap:=s.heap.push {cls:= .type "list_iterator",data:= .fields #[.ref a,.int 0 0]}}:=I.kept (t' :=s.toks) λb o e=>aFn _ e;have C:Inv X pins σ H {s with heap:=h',toks:=tk}:=I.kept (t' :=tk) λb o e=>hk b o (by simp;exact aFz (aFu e)) (aFn _ e);refine⟨.bl (bs.all id),H,C,?_,F.here f q .bl⟩;have:=range_all bs;simp only[List.size_toArray,List.length_map,this];rfl
theorem YQ(h:X.calm=true):cB X (.builtin "any") (dJ X.K EJ):=by
 intro pins s σ H xs us Q I r q;obtain⟨μ,mh,ds,R,f,j,⟨x,bs,rfl,e,q⟩,F⟩:=q;obtain⟨v,rfl,k⟩:=gO j;obtain⟨a,vs,rfl,sq,l⟩:=oM f k e;obtain⟨u,rfl,m⟩:=vals1 r;cases m;obtain⟨aN,n,p,hz⟩:=I.list sq;have t:=zC l n;subst t;refine call_any_walk (xC p.isList λg w st d=>?_);subst w;refine⟨_,_,_,_,_,_,λi=>bs.getD i false,rfl,Walks.list (A:=X.A.in1) (I.ok.hd h) _ a d (bs.map Value.bool).toArray,st,?_,λh' tk hk=>?_⟩
 ·intro i v D E G y z;have c :(bs.map Value.bool).toArray[i]? =some v:=y;rw[List.getElem?_toArray,List.getElem?_map]at c;obtain⟨b,B,rfl⟩:=aFw.mp c;have:bs.getD i false=b:=by rw[List.getD_eq_getElem?_getD,B];rfl
  refine aH7 ?_;rw[<-this];exact z
 ·have C:Inv X pins σ H {s with heap:=h',toks:=tk}:=I.kept (t' :=tk) λb o e=>hk b o (by simp;exact aFz (aFu e)) (aFn _ e);refine⟨.bl (bs.any id),H,C,?_,F.here f q .bl⟩;have:=range_any bs;simp only[List.size_toArray,List.length_map,this];rfl
end
mutual
def Vl(h:Heap):D->Value->Prop
 | .bU,u=>u= .none
 | .bl b,u=>u= .bool b
 | .int i,u=>∃t,u= .int i t
 | .str x,u=>∃t,u= .str x t
 | .ty _,_=>False
 | .tup ds,u=>∃a us,u= .ref a/\IsTup h a us.toArray/\eC h ds us
 | .fl ds,u=>∃a us,u= .ref a/\h.IsList a us.toArray/\eC h ds us
 | .ref _,_=>False
def eC(h:Heap):List D->List Value->Prop
 | [],us=>us=[]
 | d::ds,us=>∃u r,us=u::r/\Vl h d u/\eC h ds r
end
mutual
def bare:D->Bool
 | .ty _=>false
 | .ref _=>false
 | .tup ds=>eB ds
 | .fl ds=>eB ds
 | _=>true
def eB:List D->Bool
 | []=>true
 | d::ds=>bare d && eB ds
end
mutual
def deep:D->Nat
 | .tup ds=>fW ds+1
 | .fl ds=>fW ds+1
 | _=>0
def fW:List D->Nat
 | []=>0
 | d::ds=>max (deep d) (fW ds)
end
mutual
def iZ:D->D->Bool
 | .bU,y=>mU y
 | .bl a,y=>match y with | .bl b=>a==b | .int j=>(if a then 1 else 0)==j | _=>false
 | .int i,y=>match y with | .int j=>i==j | .bl b=>i==(if b then 1 else 0) | _=>false
 | .str a,y=>match y with | .str b=>a==b | _=>false
 | .tup as,y=>match y with | .tup bs=>gX as bs | _=>false
 | .fl as,y=>match y with | .fl bs=>gX as bs | _=>false
 | .ref _,_=>false
 | .ty _,_=>false
def gX:List D->List D->Bool
 | [],y=>y.isEmpty
 | a::as,y=>match y with | b::bs=>iZ a b && gX as bs | []=>false
end
theorem cK:∀(as bs:List D),gX as bs=((List.range (min as.length bs.length)).all (λj=>iZ (as.getD j .bU) (bs.getD j .bU)) && as.length==bs.length)
 | [],[]=>by simp[gX]
 | [],b::bs=>by simp[gX]
 | a::as,[]=>by simp[gX]
 | a::as,b::bs=>by
  have c:=cK as bs;simp only[gX,List.length_cons,Nat.succ_min_succ,List.range_succ_eq_map,List.all_cons,List.all_map,Function.comp_def,List.getD_cons_zero,List.getD_cons_succ,c];cases iZ a b <;> simp
theorem bK{h:Heap}:∀{ds:List D} {us:List Value},eC h ds us->us.length=ds.length
 | [],us,q=>by unfold eC at q;subst q;rfl
 | d::ds,us,q=>by unfold eC at q;obtain⟨u,r,rfl,_,l⟩:=q;simp[bK l]
theorem dE{h:Heap}:∀{ds:List D} {us:List Value} {j:Nat} {u:Value},eC h ds us->us[j]? =some u->Vl h (ds.getD j .bU) u
 | [],us,j,u,q,e=>by unfold eC at q;subst q;simp at e
 | d::ds,us,j,u,q,e=>by
  unfold eC at q;obtain⟨w,r,rfl,i,l⟩:=q
  cases j with
  | zero=>simp at e;subst e;exact i
  | succ j=>exact dE (j:=j) l (by simpa using e)
theorem fF:∀(ds:List D) (j:Nat),deep (ds.getD j .bU)<=fW ds
 | [],j=>by simp[deep]
 | d::ds,0=>by simp[fW];lia
 | d::ds,j+1=>by have:=fF ds j;simp[fW]at*;lia
variable{h:Heap}
theorem sQ{x y:Array Value}(d:h.IsList a x)(e:IsTup h a y):False:=by
 obtain⟨o,ho,f,_⟩:=d;obtain⟨g,b,c,_⟩:=e;rw[ho]at b;cases b;rw[f]at c;exact absurd c (by simp)
mutual
theorem x8{h:Heap}:∀{d e:D} {u:Value},Vl h d u->Vl h e u->iZ d e=true
 | .bU,e,u,p,q=>by
  unfold Vl at p;subst p
  cases e <;> unfold Vl at q <;> first | rfl | (cases q;done) | (obtain⟨_,q⟩:=q;cases q;done) | (obtain⟨_,_,q,_⟩:=q;cases q;done)
 | .bl a,e,u,p,q=>by
  unfold Vl at p;subst p
  cases e <;> unfold Vl at q <;> first | (subst q;simp[iZ];done) | (cases q;simp[iZ];done) | (cases q;done) | (obtain⟨_,q⟩:=q;cases q;done) | (obtain⟨_,_,q,_⟩:=q;cases q;done)
 | .int a,e,u,p,q=>by
  unfold Vl at p;obtain⟨t,rfl⟩:=p
  cases e <;> unfold Vl at q <;> first | (cases q;done) | (obtain⟨_,q⟩:=q;cases q;simp[iZ];done) | (obtain⟨_,q⟩:=q;cases q;done) | (obtain⟨_,_,q,_⟩:=q;cases q;done)
 | .str a,e,u,p,q=>by
  unfold Vl at p;obtain⟨t,rfl⟩:=p
  cases e <;> unfold Vl at q <;> first | (cases q;done) | (obtain⟨_,q⟩:=q;cases q;simp[iZ];done) | (obtain⟨_,q⟩:=q;cases q;done) | (obtain⟨_,_,q,_⟩:=q;cases q;done)
 | .ty _,e,u,p,q=>by unfold Vl at p;exact p.elim
 | .ref _,e,u,p,q=>by unfold Vl at p;exact p.elim
 | .tup as,e,u,p,q=>by
  unfold Vl at p;obtain⟨a,us,rfl,ht,l⟩:=p
  cases e with
  | tup bs=>
   unfold Vl at q;obtain⟨b,f,e,c,l2⟩:=q;cases e;obtain⟨o,j,_,n,k⟩:=ht;obtain⟨s,g,_,n2,i⟩:=c;rw[j]at g;cases g;rw[k]at i;injection i with m;have r:us=f:=by simpa using aGx Array.toList m
   subst r;show gX as bs=true;exact tF l l2
  | fl bs=>
   unfold Vl at q;obtain⟨b,f,e,c,l2⟩:=q;cases e;exact(sQ c ht).elim
  | _=>unfold Vl at q;first | (cases q;done) | (obtain⟨_,q⟩:=q;cases q;done)
 | .fl as,e,u,p,q=>by
  unfold Vl at p;obtain⟨a,us,rfl,ht,l⟩:=p
  cases e with
  | fl bs=>
   unfold Vl at q;obtain⟨b,f,e,c,l2⟩:=q;cases e;obtain⟨o,j,_,n,k⟩:=ht;obtain⟨s,g,_,n2,i⟩:=c;rw[j]at g;cases g;rw[k]at i;injection i with m;have r:us=f:=by simpa using aGx Array.toList m
   subst r;show gX as bs=true;exact tF l l2
  | tup bs=>
   unfold Vl at q;obtain⟨b,f,e,c,l2⟩:=q;cases e;exact(sQ ht c).elim
  | _=>unfold Vl at q;first | (cases q;done) | (obtain⟨_,q⟩:=q;cases q;done)
theorem tF{h:Heap}:∀{ds es:List D} {us:List Value},eC h ds us->eC h es us->gX ds es=true
 | [],es,us,p,q=>by unfold eC at p;subst p;cases es with | nil=>rfl | cons=>unfold eC at q;obtain⟨_,_,e,_⟩:=q;cases e
 | d::ds,es,us,p,q=>by
  unfold eC at p;obtain⟨u,r,rfl,i,l⟩:=p
  cases es with
  | nil=>unfold eC at q;cases q
  | cons e es=>
   unfold eC at q;obtain⟨b,r2,a,i2,l2⟩:=q;cases a;simp only[gX,x8 i i2,tF l l2,Bool.and_self]
end
open SeqAt in
theorem mY{s:Shared}:∀(k:Nat) {A:Around} {d e:D} {u v:Value},deep d<=k->A.units+k+1<cLine->Vl s.heap d u->Vl s.heap e v->EqAt A s u v (iZ d e)
 | k,A,.bU,e,u,v,hk,hu,p,q=>by
  unfold Vl at p;subst p;cases e <;> unfold Vl at q
  ·subst q;exact EqAt.same _
  ·subst q;exact EqAt.none_bool _
  ·obtain⟨t,rfl⟩:=q;exact EqAt.none_int _ t
  ·obtain⟨t,rfl⟩:=q;exact EqAt.none_str _ t
  ·exact q.elim
  ·obtain⟨a,us,rfl,ht,_⟩:=q;exact EqAt.none_tuple ht (by lia)
  ·obtain⟨a,us,rfl,ht,_⟩:=q;exact EqAt.none_list ht (by lia)
  ·exact q.elim
 | k,A,.bl x,e,u,v,hk,hu,p,q=>by
  unfold Vl at p;subst p;cases e <;> unfold Vl at q
  ·subst q;exact EqAt.bool_none _
  ·subst q;exact EqAt.bool_bool _ _
  ·obtain⟨t,rfl⟩:=q;exact EqAt.bool_int _ _ t
  ·obtain⟨t,rfl⟩:=q;exact EqAt.bool_str _ _ t
  ·exact q.elim
  ·obtain⟨a,us,rfl,ht,_⟩:=q;exact EqAt.bool_tuple _ ht (by lia)
  ·obtain⟨a,us,rfl,ht,_⟩:=q;exact EqAt.bool_list _ ht (by lia)
  ·exact q.elim
 | k,A,.int x,e,u,v,hk,hu,p,q=>by
  unfold Vl at p;obtain⟨o,rfl⟩:=p;cases e <;> unfold Vl at q
  ·subst q;exact EqAt.int_none _ _
  ·subst q;exact EqAt.int_bool _ _ _
  ·obtain⟨t,rfl⟩:=q;exact EqAt.int_int _ _ _ t
  ·obtain⟨t,rfl⟩:=q;exact EqAt.int_str _ _ _ t
  ·exact q.elim
  ·obtain⟨a,us,rfl,ht,_⟩:=q;exact EqAt.int_tuple _ _ ht (by lia)
  ·obtain⟨a,us,rfl,ht,_⟩:=q;exact EqAt.int_list _ _ ht (by lia)
  ·exact q.elim
 | k,A,.str x,e,u,v,hk,hu,p,q=>by
  unfold Vl at p;obtain⟨o,rfl⟩:=p;cases e <;> unfold Vl at q
  ·subst q;exact EqAt.str_none _ _
  ·subst q;exact EqAt.str_bool _ _ _
  ·obtain⟨t,rfl⟩:=q;exact EqAt.str_int _ _ _ t
  ·obtain⟨t,rfl⟩:=q;exact EqAt.str_str _ _ _ t
  ·exact q.elim
  ·obtain⟨a,us,rfl,ht,_⟩:=q;exact EqAt.str_tuple _ _ ht (by lia)
  ·obtain⟨a,us,rfl,ht,_⟩:=q;exact EqAt.str_list _ _ ht (by lia)
  ·exact q.elim
 | k,A,.ty x,e,u,v,hk,hu,p,q=>by unfold Vl at p;exact p.elim
 | k,A,.ref x,e,u,v,hk,hu,p,q=>by unfold Vl at p;exact p.elim
 | k,A,.tup as,e,u,v,hk,hu,p,q=>by
  have n:=p;unfold Vl at p;obtain⟨a,us,rfl,ht,l⟩:=p
  cases e with
  | tup bs=>
   by_cases f:Value.ref a=v
   ·subst f;rw[x8 n q];exact EqAt.same _
   unfold Vl at q;obtain⟨b,m,rfl,c,l2⟩:=q;have g:a≠b:=λz=>f (by rw[z])
   cases k with
   | zero=>simp[deep]at hk
   | succ k=>
    refine EqAt.of_refs g ?_;have r:=RcAt.tuples (e:=λj=>iZ (as.getD j .bU) (bs.getD j .bU)) ht c (by lia) (λj h i=>mY k (A:=A.in1) (aG2 (fF as j) (by simp[deep]at hk;exact hk)) (by show A.units+1+k+1<_;lia) (dE l (by simp at h;simp[h])) (dE l2 (by simp at i;simp[i])));show RcAt A s _ _ (gX as bs);rw[cK,<-bK l,<-bK l2];simpa using r
  | bU=>unfold Vl at q;subst q;exact EqAt.tuple_none ht (by lia)
  | bl x=>unfold Vl at q;subst q;exact EqAt.tuple_bool _ ht (by lia)
  | int x=>unfold Vl at q;obtain⟨t,rfl⟩:=q;exact EqAt.tuple_int _ _ ht (by lia)
  | str x=>unfold Vl at q;obtain⟨t,rfl⟩:=q;exact EqAt.tuple_str _ _ ht (by lia)
  | fl bs=>unfold Vl at q;obtain⟨b,m,rfl,c,l2⟩:=q;exact EqAt.tuple_list ht c (by lia)
  | ty x=>unfold Vl at q;exact q.elim
  | ref x=>unfold Vl at q;exact q.elim
 | k,A,.fl as,e,u,v,hk,hu,p,q=>by
  have n:=p;unfold Vl at p;obtain⟨a,us,rfl,ht,l⟩:=p
  cases e with
  | fl bs=>
   by_cases f:Value.ref a=v
   ·subst f;rw[x8 n q];exact EqAt.same _
   unfold Vl at q;obtain⟨b,m,rfl,c,l2⟩:=q;have g:a≠b:=λz=>f (by rw[z])
   cases k with
   | zero=>simp[deep]at hk
   | succ k=>
    refine EqAt.of_refs g ?_;show RcAt A s _ _ (gX as bs);by_cases hsz:us.length=m.length
    ·have r:=RcAt.lists (e:=λj=>iZ (as.getD j .bU) (bs.getD j .bU)) ht c (by simpa using hsz) (by lia) (λj h i=>mY k (A:=A.in1) (aG2 (fF as j) (by simp[deep]at hk;exact hk)) (by show A.units+1+k+1<_;lia) (dE l (by simp at h;simp[h])) (dE l2 (by simp at i;simp[i])));rw[cK,<-bK l,<-bK l2,<-hsz,Nat.min_self,beq_self_eq_true,Bool.and_true];simpa using r
    ·have r:=RcAt.lists_lengths (A:=A) ht c (by simpa using hsz) (by lia);rw[cK,<-bK l,<-bK l2,beq_eq_false_iff_ne.mpr hsz,Bool.and_false];exact r
  | bU=>unfold Vl at q;subst q;exact EqAt.list_none ht (by lia)
  | bl x=>unfold Vl at q;subst q;exact EqAt.list_bool _ ht (by lia)
  | int x=>unfold Vl at q;obtain⟨t,rfl⟩:=q;exact EqAt.list_int _ _ ht (by lia)
  | str x=>unfold Vl at q;obtain⟨t,rfl⟩:=q;exact EqAt.list_str _ _ ht (by lia)
  | tup bs=>unfold Vl at q;obtain⟨b,m,rfl,c,l2⟩:=q;exact EqAt.list_tuple ht c (by lia)
  | ty x=>unfold Vl at q;exact q.elim
  | ref x=>unfold Vl at q;exact q.elim
open SeqAt in
theorem VB{s:Shared}{A:Around}{d e:D}{u v:Value}(hk:deep d<=40)(k:A.units+64<cLine)(p:Vl s.heap d u)(q:Vl s.heap e v):RcAt A s u v (iZ d e):=by
 cases d with
 | bU=>
  unfold Vl at p;subst p;cases e <;> unfold Vl at q
  ·subst q;exact RcAt.none_none
  ·subst q;exact RcAt.none_bool _
  ·obtain⟨t,rfl⟩:=q;exact RcAt.none_int _ _
  ·obtain⟨t,rfl⟩:=q;exact RcAt.none_str _ _
  ·exact q.elim
  ·obtain⟨a,us,rfl,ht,_⟩:=q;exact RcAt.none_tuple ht (by lia)
  ·obtain⟨a,us,rfl,ht,_⟩:=q;exact RcAt.none_list ht (by lia)
  ·exact q.elim
 | bl x=>
  unfold Vl at p;subst p;cases e <;> unfold Vl at q
  ·subst q;exact RcAt.bool_none _
  ·subst q;exact RcAt.bool_bool _ _
  ·obtain⟨t,rfl⟩:=q;exact RcAt.bool_int _ _ _
  ·obtain⟨t,rfl⟩:=q;exact RcAt.bool_str _ _ _
  ·exact q.elim
  ·obtain⟨a,us,rfl,ht,_⟩:=q;exact RcAt.bool_tuple _ ht (by lia)
  ·obtain⟨a,us,rfl,ht,_⟩:=q;exact RcAt.bool_list _ ht (by lia)
  ·exact q.elim
 | int x=>
  unfold Vl at p;obtain⟨i,rfl⟩:=p;cases e <;> unfold Vl at q
  ·subst q;exact RcAt.int_none _ _
  ·subst q;exact RcAt.int_bool _ _ _
  ·obtain⟨t,rfl⟩:=q;exact RcAt.int_int _ _ _ _
  ·obtain⟨t,rfl⟩:=q;exact RcAt.int_str _ _ _ _
  ·exact q.elim
  ·obtain⟨a,us,rfl,ht,_⟩:=q;exact RcAt.int_tuple _ _ ht (by lia)
  ·obtain⟨a,us,rfl,ht,_⟩:=q;exact RcAt.int_list _ _ ht (by lia)
  ·exact q.elim
 | str x=>
  unfold Vl at p;obtain⟨i,rfl⟩:=p;cases e <;> unfold Vl at q
  ·subst q;exact RcAt.str_none _ _
  ·subst q;exact RcAt.str_bool _ _ _
  ·obtain⟨t,rfl⟩:=q;exact RcAt.str_int _ _ _ _
  ·obtain⟨t,rfl⟩:=q;exact RcAt.str_str _ _ _ _
  ·exact q.elim
  ·obtain⟨a,us,rfl,ht,_⟩:=q;exact RcAt.str_tuple _ _ ht (by lia)
  ·obtain⟨a,us,rfl,ht,_⟩:=q;exact RcAt.str_list _ _ ht (by lia)
  ·exact q.elim
 | ty x=>unfold Vl at p;exact p.elim
 | ref x=>unfold Vl at p;exact p.elim
 | tup as=>
  unfold Vl at p;obtain⟨a,us,rfl,ht,l⟩:=p
  cases e with
  | tup bs=>
   unfold Vl at q;obtain⟨b,h,rfl,c,l2⟩:=q;have r:=RcAt.tuples (e:=λj=>iZ (as.getD j .bU) (bs.getD j .bU)) ht c (by lia) (λj f g=>mY 40 (A:=A.in1) (aG2 (fF as j) (by simp[deep]at hk;lia)) (by show A.units+1+40+1<_;lia) (dE l (by simp at f;simp[f])) (dE l2 (by simp at g;simp[g])));show RcAt A s _ _ (gX as bs);rw[cK,<-bK l,<-bK l2];simpa using r
  | fl bs=>unfold Vl at q;obtain⟨b,h,rfl,c,l2⟩:=q;exact RcAt.tuple_list ht c (by lia)
  | bU=>unfold Vl at q;subst q;exact RcAt.tuple_none ht (by lia)
  | bl x=>unfold Vl at q;subst q;exact RcAt.tuple_bool _ ht (by lia)
  | int x=>unfold Vl at q;obtain⟨t,rfl⟩:=q;exact RcAt.tuple_int _ _ ht (by lia)
  | str x=>unfold Vl at q;obtain⟨t,rfl⟩:=q;exact RcAt.tuple_str _ _ ht (by lia)
  | ty x=>unfold Vl at q;exact q.elim
  | ref x=>unfold Vl at q;exact q.elim
 | fl as=>
  unfold Vl at p;obtain⟨a,us,rfl,ht,l⟩:=p
  cases e with
  | fl bs=>
   unfold Vl at q;obtain⟨b,h,rfl,c,l2⟩:=q;show RcAt A s _ _ (gX as bs);by_cases hsz:us.length=h.length
   ·have r:=RcAt.lists (e:=λj=>iZ (as.getD j .bU) (bs.getD j .bU)) ht c (by simpa using hsz) (by lia) (λj f g=>mY 40 (A:=A.in1) (aG2 (fF as j) (by simp[deep]at hk;lia)) (by show A.units+1+40+1<_;lia) (dE l (by simp at f;simp[f])) (dE l2 (by simp at g;simp[g])));rw[cK,<-bK l,<-bK l2,<-hsz,Nat.min_self,beq_self_eq_true,Bool.and_true];simpa using r
   ·have r:=RcAt.lists_lengths (A:=A) ht c (by simpa using hsz) (by lia);rw[cK,<-bK l,<-bK l2,beq_eq_false_iff_ne.mpr hsz,Bool.and_false];exact r
  | tup bs=>unfold Vl at q;obtain⟨b,h,rfl,c,l2⟩:=q;exact RcAt.list_tuple ht c (by lia)
  | bU=>unfold Vl at q;subst q;exact RcAt.list_none ht (by lia)
  | bl x=>unfold Vl at q;subst q;exact RcAt.list_bool _ ht (by lia)
  | int x=>unfold Vl at q;obtain⟨t,rfl⟩:=q;exact RcAt.list_int _ _ ht (by lia)
  | str x=>unfold Vl at q;obtain⟨t,rfl⟩:=q;exact RcAt.list_str _ _ ht (by lia)
  | ty x=>unfold Vl at q;exact q.elim
  | ref x=>unfold Vl at q;exact q.elim
open SeqAt in
theorem KG{s:Shared}{A:Around}{d e:D}{u v:Value}(hk:deep d<=40)(k:A.units+64<cLine)(p:Vl s.heap d u)(q:Vl s.heap e v):RcNeAt A s u v (!iZ d e):=by
 cases d with
 | bU=>
  unfold Vl at p;subst p;cases e <;> unfold Vl at q
  ·subst q;exact RcNeAt.none_none
  ·subst q;exact RcNeAt.none_bool _
  ·obtain⟨t,rfl⟩:=q;exact RcNeAt.none_int _ _
  ·obtain⟨t,rfl⟩:=q;exact RcNeAt.none_str _ _
  ·exact q.elim
  ·obtain⟨a,us,rfl,ht,_⟩:=q;exact RcNeAt.none_tuple ht (by lia)
  ·obtain⟨a,us,rfl,ht,_⟩:=q;exact RcNeAt.none_list ht (by lia)
  ·exact q.elim
 | bl x=>
  unfold Vl at p;subst p;cases e <;> unfold Vl at q
  ·subst q;exact RcNeAt.bool_none _
  ·subst q;exact RcNeAt.bool_bool _ _
  ·obtain⟨t,rfl⟩:=q;exact RcNeAt.bool_int _ _ _
  ·obtain⟨t,rfl⟩:=q;exact RcNeAt.bool_str _ _ _
  ·exact q.elim
  ·obtain⟨a,us,rfl,ht,_⟩:=q;exact RcNeAt.bool_tuple _ ht (by lia)
  ·obtain⟨a,us,rfl,ht,_⟩:=q;exact RcNeAt.bool_list _ ht (by lia)
  ·exact q.elim
 | int x=>
  unfold Vl at p;obtain⟨i,rfl⟩:=p;cases e <;> unfold Vl at q
  ·subst q;exact RcNeAt.int_none _ _
  ·subst q;exact RcNeAt.int_bool _ _ _
  ·obtain⟨t,rfl⟩:=q;exact RcNeAt.int_int _ _ _ _
  ·obtain⟨t,rfl⟩:=q;exact RcNeAt.int_str _ _ _ _
  ·exact q.elim
  ·obtain⟨a,us,rfl,ht,_⟩:=q;exact RcNeAt.int_tuple _ _ ht (by lia)
  ·obtain⟨a,us,rfl,ht,_⟩:=q;exact RcNeAt.int_list _ _ ht (by lia)
  ·exact q.elim
 | str x=>
  unfold Vl at p;obtain⟨i,rfl⟩:=p;cases e <;> unfold Vl at q
  ·subst q;exact RcNeAt.str_none _ _
  ·subst q;exact RcNeAt.str_bool _ _ _
  ·obtain⟨t,rfl⟩:=q;exact RcNeAt.str_int _ _ _ _
  ·obtain⟨t,rfl⟩:=q;exact RcNeAt.str_str _ _ _ _
  ·exact q.elim
  ·obtain⟨a,us,rfl,ht,_⟩:=q;exact RcNeAt.str_tuple _ _ ht (by lia)
  ·obtain⟨a,us,rfl,ht,_⟩:=q;exact RcNeAt.str_list _ _ ht (by lia)
  ·exact q.elim
 | ty x=>unfold Vl at p;exact p.elim
 | ref x=>unfold Vl at p;exact p.elim
 | tup as=>
  unfold Vl at p;obtain⟨a,us,rfl,ht,l⟩:=p
  cases e with
  | tup bs=>
   unfold Vl at q;obtain⟨b,h,rfl,c,l2⟩:=q;have r:=RcNeAt.tuples (e:=λj=>iZ (as.getD j .bU) (bs.getD j .bU)) ht c (by lia) (λj f g=>mY 40 (A:=A.in1) (aG2 (fF as j) (by simp[deep]at hk;lia)) (by show A.units+1+40+1<_;lia) (dE l (by simp at f;simp[f])) (dE l2 (by simp at g;simp[g])));show RcNeAt A s _ _ (!gX as bs);rw[cK,<-bK l,<-bK l2];simpa using r
  | fl bs=>unfold Vl at q;obtain⟨b,h,rfl,c,l2⟩:=q;exact RcNeAt.tuple_list ht c (by lia)
  | bU=>unfold Vl at q;subst q;exact RcNeAt.tuple_none ht (by lia)
  | bl x=>unfold Vl at q;subst q;exact RcNeAt.tuple_bool _ ht (by lia)
  | int x=>unfold Vl at q;obtain⟨t,rfl⟩:=q;exact RcNeAt.tuple_int _ _ ht (by lia)
  | str x=>unfold Vl at q;obtain⟨t,rfl⟩:=q;exact RcNeAt.tuple_str _ _ ht (by lia)
  | ty x=>unfold Vl at q;exact q.elim
  | ref x=>unfold Vl at q;exact q.elim
 | fl as=>
  unfold Vl at p;obtain⟨a,us,rfl,ht,l⟩:=p
  cases e with
  | fl bs=>
   unfold Vl at q;obtain⟨b,h,rfl,c,l2⟩:=q;show RcNeAt A s _ _ (!gX as bs);by_cases hsz:us.length=h.length
   ·have r:=RcNeAt.lists (e:=λj=>iZ (as.getD j .bU) (bs.getD j .bU)) ht c (by simpa using hsz) (by lia) (λj f g=>mY 40 (A:=A.in1) (aG2 (fF as j) (by simp[deep]at hk;lia)) (by show A.units+1+40+1<_;lia) (dE l (by simp at f;simp[f])) (dE l2 (by simp at g;simp[g])));rw[cK,<-bK l,<-bK l2,<-hsz,Nat.min_self,beq_self_eq_true,Bool.and_true];simpa using r
   ·have r:=RcNeAt.lists_lengths (A:=A) ht c (by simpa using hsz) (by lia);rw[cK,<-bK l,<-bK l2,beq_eq_false_iff_ne.mpr hsz,Bool.and_false];exact r
  | tup bs=>unfold Vl at q;obtain⟨b,h,rfl,c,l2⟩:=q;exact RcNeAt.list_tuple ht c (by lia)
  | bU=>unfold Vl at q;subst q;exact RcNeAt.list_none ht (by lia)
  | bl x=>unfold Vl at q;subst q;exact RcNeAt.list_bool _ ht (by lia)
  | int x=>unfold Vl at q;obtain⟨t,rfl⟩:=q;exact RcNeAt.list_int _ _ ht (by lia)
  | str x=>unfold Vl at q;obtain⟨t,rfl⟩:=q;exact RcNeAt.list_str _ _ ht (by lia)
  | ty x=>unfold Vl at q;exact q.elim
  | ref x=>unfold Vl at q;exact q.elim
def cI(mh:MH):D->D
 | .ref n=>match mh[n]? with | some (.lst ds)=>.fl ds | _=>.ref n
 | d=>d
section
variable {X:Cx}{pins:List (Addr×Obj)}{σ:L2.St}{H:Hp}{s:Shared}{μ:List Addr}{mh:MH}
mutual
theorem TR(I:Inv X pins σ H s):∀(d:D) {v:V} {u:Value},bare d=true->Is X.K μ H d v->RelV v u->Vl s.heap d u
 | .bU,v,u,_,i,r=>by cases zA i;unfold Vl;exact r
 | .bl _,v,u,_,i,r=>by cases BO i;unfold Vl;exact r
 | .int _,v,u,_,i,r=>by cases bR i;unfold Vl;exact r
 | .str _,v,u,_,i,r=>by cases dC i;unfold Vl;exact r
 | .ty _,v,u,b,i,r=>by simp[bare]at b
 | .ref _,v,u,b,i,r=>by simp[bare]at b
 | .tup ds,v,u,b,i,r=>by
  obtain⟨a,vs,rfl,sq,l⟩:=dB i;have c :u=Value.ref a:=r;subst c;obtain⟨aN,e,p,_⟩:=I.tuple sq;unfold Vl;exact⟨a,aN,rfl,p,hU I ds (by simpa[bare] using b) l e⟩
 | .fl ds,v,u,b,i,r=>by
  obtain⟨a,vs,rfl,sq,l⟩:=oC i;have c :u=Value.ref a:=r;subst c;obtain⟨aN,e,p,_⟩:=I.list sq.sq;unfold Vl;exact⟨a,aN,rfl,p.isList,hU I ds (by simpa[bare] using b) l e⟩
theorem hU(I:Inv X pins σ H s):∀(ds:List D) {vs:List V} {us:List Value},eB ds=true->IsL X.K μ H ds vs->Vals vs us->eC s.heap ds us
 | [],vs,us,_,l,r=>by unfold IsL at l;subst l;cases r;unfold eC;rfl
 | d::ds,vs,us,b,l,r=>by
  unfold IsL at l;obtain⟨v,a,rfl,i,l⟩:=l
  cases r with
  | cons r1 r2=>
   simp only[eB,Bool.and_eq_true]at b;unfold eC;exact⟨_,_,rfl,TR I d b.1 i r1,hU I ds b.2 l r2⟩
end
theorem qB(I:Inv X pins σ H s)(R:Rep X.K μ mh H){d:D}{v:V}{u:Value}(b:bare (cI mh d)=true)(i:Is X.K μ H d v)(r:RelV v u):Vl s.heap (cI mh d) u:=by
 cases d with
 | ref n=>
  simp only[cI]at b⊢
  cases o:mh[n]? with
  | none=>rw[o]at b;simp[bare]at b
  | some ob=>
   cases ob with
   | lst ds=>
    rw[o]at b;simp only;obtain⟨a,vs,rfl,_,hv,l⟩:=mN R i o;have c :u=Value.ref a:=r;subst c;obtain⟨aN,e,p,_⟩:=I.list (.of hv);unfold Vl;exact⟨a,aN,rfl,p.isList,hU I ds (by simpa[bare] using b) l e⟩
   | bI t kvs=>rw[o]at b;simp[bare]at b
   | eY t kvs ob=>rw[o]at b;simp[bare]at b
   | oth ds f=>rw[o]at b;simp[bare]at b
 | _=>exact TR I _ b i r
end
def oEq:O2:=λx y mh Q=>bare (cI mh x)=true/\bare (cI mh y)=true/\deep (cI mh x)<=40/\Q (.bl (iZ (cI mh x) (cI mh y))) mh
def CS:O2:=λx y mh Q=>bare (cI mh x)=true/\bare (cI mh y)=true/\deep (cI mh x)<=40/\Q (.bl !iZ (cI mh x) (cI mh y)) mh
section
variable {X:Cx}
theorem aAz(b:X.A.units+64<cLine):dP X (compareOp .Eq) (bE X.K oEq):=by
 intro pins s σ H x y v u Q I c d q;obtain⟨μ,mh,dx,i,R,a,e,f,⟨g,h,hd,q⟩,F⟩:=q;exact VB hd b (qB I a g e c) (qB I a h f d) X.prog X.w X.xe _ ⟨.bl _,H,I,rfl,F.here a q .bl⟩
theorem aAu(b:X.A.units+64<cLine):dP X (compareOp .NotEq) (bE X.K CS):=by
 intro pins s σ H x y v u Q I c d q;obtain⟨μ,mh,dx,i,R,a,e,f,⟨g,h,hd,q⟩,F⟩:=q;exact KG hd b (qB I a g e c) (qB I a h f d) X.prog X.w X.xe _ ⟨.bl _,H,I,rfl,F.here a q .bl⟩
def lJ:D->Bool
 | .bU=>true | .bl _=>true | .int _=>true | .str _=>true | _=>false
def D4(x:D)(u:Value):Bool:=match u with
 | .none=>iZ .bU x
 | .bool b=>iZ (.bl b) x
 | .int i _=>iZ (.int i) x
 | .str z _=>iZ (.str z) x
 | _=>false
theorem NG{x y:D}{u:Value}(f:lJ y=true)(p:Vl h y u):D4 x u=iZ y x:=by
 cases y with
 | bU=>unfold Vl at p;subst p;rfl
 | bl b=>unfold Vl at p;subst p;rfl
 | int b=>unfold Vl at p;obtain⟨t,rfl⟩:=p;rfl
 | str b=>unfold Vl at p;obtain⟨t,rfl⟩:=p;rfl
 | _=>simp[lJ]at f
theorem p6{h:Heap}{x:D}:∀{ds:List D} {us:List Value},ds.all lJ=true->eC h ds us->us.any (D4 x)=ds.any λy=>iZ y x
 | [],us,_,l=>by unfold eC at l;subst l;rfl
 | d::ds,us,f,l=>by
  unfold eC at l;obtain⟨u,r,rfl,p,l⟩:=l;rw[List.all_cons,Bool.and_eq_true]at f;rw[List.any_cons,List.any_cons,NG f.1 p,p6 f.2 l]
theorem pO{A:Around}{s:Shared}{x:D}{v:Value}(a:A.units+64<cLine)(q:Vl s.heap x v):∀{ds:List D} {us:List Value},ds.all lJ=true->eC s.heap ds us->∀u∈us,SeqAt.EqAt A.in1 s u v (D4 x u)
 | [],us,_,l=>by unfold eC at l;subst l;intro u a;cases a
 | d::ds,us,f,l=>by
  unfold eC at l;obtain⟨u,r,rfl,p,l⟩:=l;rw[List.all_cons,Bool.and_eq_true]at f;intro b hu';rcases aFy.mp hu' with rfl | hu'
  ·rw[NG f.1 p];refine mY 0 ?_ (by show A.units+1+0+1<_;lia) p q
   cases d <;> first | exact aFq _ | (simp[lJ]at f)
  ·exact pO a q f.2 l b hu'
def inD(x:D)(ds:List D):Bool:=ds.any λy=>iZ y x
theorem iH:∀{ds:List D},ds.all lJ=true->eB ds=true
 | [],_=>rfl
 | d::ds,f=>by
  rw[List.all_cons,Bool.and_eq_true]at f;simp only[eB,iH f.2,Bool.and_true]
  cases d <;> first | rfl | (simp[lJ]at f)
def T9:O2:=λx y mh Q=>match y with
 | .str j=>∃i,x= .str i/\Q (.bl (!(Builtin.Str.occurrences j i 0 j.length 1).isEmpty)) mh
 | _=>∃ds,aX mh y=some ds/\bare (cI mh x)=true/\ds.all lJ=true/\Q (.bl (inD (cI mh x) ds)) mh
def tY:O2:=λx y mh Q=>match y with
 | .str j=>∃i,x= .str i/\Q (.bl (!(!(Builtin.Str.occurrences j i 0 j.length 1).isEmpty))) mh
 | _=>∃ds,aX mh y=some ds/\bare (cI mh x)=true/\ds.all lJ=true/\Q (.bl !inD (cI mh x) ds) mh
theorem aAx(o:X.A.units+64<cLine):dP X (compareOp .In) (bE X.K T9):=by
 intro pins s σ H x y v u Q I p r q;obtain⟨μ,mh,dx,t,R,d,z,B,q,F⟩:=q
 have go:(∃ds,aX mh t=some ds/\bare (cI mh dx)=true/\ds.all lJ=true/\R (.bl (inD (cI mh dx) ds)) mh)->wpAny (model X.prog X.w) X.A (compareOp .In v u) (EP X pins σ Q) X.xe s:=λg=>by
  obtain⟨ds,e,b,f,q⟩:=g;obtain⟨a,vs,rfl,sq,l⟩:=tQ d B e;have h :u=Value.ref a:=r;subst h;have C:=qB I d b z p;rcases sq with sq | sq
  ·obtain⟨aN,k,m,hz⟩:=I.list sq;have c:=hU I ds (iH f) l k;refine SeqAt.in_listAt (D4 (cI mh dx)) m.isList (λw n=>pO o C f c w (by simpa using n)) ⟨.bl _,H,I,rfl,?_⟩;rw[show aN.toArray.any (D4 (cI mh dx))=aN.any (D4 (cI mh dx)) by simp,p6 f c];exact F.here d q .bl
  ·obtain⟨aN,k,m,hz⟩:=I.tuple sq;have c:=hU I ds (iH f) l k;refine SeqAt.in_tupleAt (D4 (cI mh dx)) m (λw n=>pO o C f c w (by simpa using n)) ⟨.bl _,H,I,rfl,?_⟩;rw[show aN.toArray.any (D4 (cI mh dx))=aN.any (D4 (cI mh dx)) by simp,p6 f c];exact F.here d q .bl
 cases t with
 | str j=>
  obtain⟨i,rfl,q⟩:=q;cases dC z;cases dC B;exact HB pins s σ H _ _ v u Q I p r ⟨i,j,rfl,rfl,F.here d q .bl⟩
 | _=>exact go q
theorem K2(o:X.A.units+64<cLine):dP X (compareOp .NotIn) (bE X.K tY):=by
 intro pins s σ H x y v u Q I p r q;obtain⟨μ,mh,dx,t,R,d,z,B,q,F⟩:=q
 have go:(∃ds,aX mh t=some ds/\bare (cI mh dx)=true/\ds.all lJ=true/\R (.bl !inD (cI mh dx) ds) mh)->wpAny (model X.prog X.w) X.A (compareOp .NotIn v u) (EP X pins σ Q) X.xe s:=λg=>by
  obtain⟨ds,e,b,f,q⟩:=g;obtain⟨a,vs,rfl,sq,l⟩:=tQ d B e;have h :u=Value.ref a:=r;subst h;have C:=qB I d b z p;rcases sq with sq | sq
  ·obtain⟨aN,k,m,hz⟩:=I.list sq;have c:=hU I ds (iH f) l k;refine SeqAt.notIn_listAt (D4 (cI mh dx)) m.isList (λw n=>pO o C f c w (by simpa using n)) ⟨.bl _,H,I,rfl,?_⟩;rw[show aN.toArray.any (D4 (cI mh dx))=aN.any (D4 (cI mh dx)) by simp,p6 f c];exact F.here d q .bl
  ·obtain⟨aN,k,m,hz⟩:=I.tuple sq;have c:=hU I ds (iH f) l k;refine SeqAt.notIn_tupleAt (D4 (cI mh dx)) m (λw n=>pO o C f c w (by simpa using n)) ⟨.bl _,H,I,rfl,?_⟩;rw[show aN.toArray.any (D4 (cI mh dx))=aN.any (D4 (cI mh dx)) by simp,p6 f c];exact F.here d q .bl
 cases t with
 | str j=>
  obtain⟨i,rfl,q⟩:=q;cases dC z;cases dC B;exact yI pins s σ H _ _ v u Q I p r ⟨i,j,rfl,rfl,F.here d q .bl⟩
 | _=>exact go q
end
section
variable {prog:Program}{w:World}{A:Around}{E:aJo}{s:Shared}
open HT in
theorem nN{t sl:Addr}{items:Array Value}{e f:Value}{lo hi:Option Int}{Q:aJo}(ht:IsTup s.heap t items)(g:s.heap.IsSliceOf sl e f .none)(j:IsPart e lo)(k:IsPart f hi)
  (i:c6 items.size 0 lo=0/\c6 items.size items.size hi=items.size)
  (h:Q (.ref t) s):wpAny (model prog w) A (getItem (.ref t) (.ref sl)) Q E s:=by
 obtain⟨os,b,c,l⟩:=id g
 have d:s.TypeIs (.ref sl) "slice":=⟨os,b,c⟩
 unfold getItem
 try with_reducible refine aGf ?_
 first | refine aFm (aFo ?_) | skip
 refine aFm (wpAny_sequenceKey ht.typeIs (by decide) ?_)
 refine aFm (aG3 (name:=Str.ofString "__getitem__") ht.typeIs aGn
  (aG1 aGn ht.typeIs entry_tuple_getitem ?_ (args_tuple_getitem _ _)))
 show wpAny _ _ (Builtin.Tuple.tupleItemsOf (.ref t) >>=_) _ _ s;refine aFm (tupleItemsOf_ ht ?_);refine aFm (aIl d ?_);rw[if_pos (by decide)];refine aFm (jY g j k ?_)
 have a:((((c6 items.size 0 lo:Nat):Int)==0 && (1:Int)==1 && (c6 items.size items.size hi-c6 items.size 0 lo)==items.size)=true):=by
  rw[i.1,i.2];simp
 show wpAny _ _ (if (((c6 items.size 0 lo:Nat):Int)==0 && (1:Int)==1 && (c6 items.size items.size hi-c6 items.size 0 lo)==items.size)=true then _ else _) _ _ s;rw[if_pos a];have m:=ht.typeIs;refine aFm ?_
 first
  | (refine aFm (aIl m (aFo ?_));simp only[beq_self_eq_true,if_true];refine aFm (aGt ?_);first | exact aFo (aFo ⟨_,rfl,aFo h⟩) | exact aFm (aFo (aFo ⟨_,rfl,aFo h⟩)) | exact aFm (aFo (aFo (aFo ⟨_,rfl,aFo h⟩))))
  | trace_state
end
section
variable {X:Cx}
theorem O4:ZL X (λx lo hi H Q=>∃a xs,x= .ref a/\sX X.K H a xs/\
  ((HT.c6 xs.length 0 lo=0/\HT.c6 xs.length xs.length hi=xs.length)->Q (.ref a) H)/\(¬(HT.c6 xs.length 0 lo=0/\HT.c6 xs.length xs.length hi=xs.length)->∀p,H p=none->Q (.ref p) (upd H p (.tup (zN xs lo hi))))):=by
 intro pins s σ H x v j k lo hi sl Q I d e f g h;obtain⟨a,xs,rfl,i,q1,q2⟩:=h;by_cases c:HT.c6 xs.length 0 lo=0/\HT.c6 xs.length xs.length hi=xs.length
 ·cases d;obtain⟨aN,r,ht,hz⟩:=I.tuple i;have b:aN.toArray.size=xs.length:=by rw[List.size_toArray];exact r.length.symm
  exact⟨"tuple",_,aGn.lookup,ht.typeIs,nN ht e f g (by rw[b];exact c) ⟨.ref a,H,I,rfl,q1 c⟩⟩
 ·exact U1 pins s σ H _ v j k lo hi sl Q I d e f g ⟨a,xs,rfl,i,c,q2 c⟩
def cutD(xs:List D)(lo hi:Option Int):List D:=(xs.drop (HT.c6 xs.length 0 lo)).take (HT.c6 xs.length xs.length hi-HT.c6 xs.length 0 lo)
abbrev OS:=D->Option Int->Option Int->MH->DK->Prop
def UC(K:aJn)(f:OS):V->Option Int->Option Int->Hp->VK->Prop:=λx lo hi H Q=>∃μ mh dx R,Rep K μ mh H/\Is K μ H dx x/\f dx lo hi mh R/\Fin K μ H R Q
def ZF:OS:=λx lo hi mh Q=>match x with
 | .tup ds=>Q (.tup (cutD ds lo hi)) mh
 | _=>∃ds,jD mh x=some ds/\Q (.ref mh.length) (mh++[.lst (cutD ds lo hi)])
theorem GA{ds:List D}{vs:List V}(l:IsL K μ H ds vs)(lo hi:Option Int):IsL K μ H (cutD ds lo hi) (zN vs lo hi):=by
 unfold cutD zN;rw[aW l];exact BP _ (BQ _ l)
theorem sll:ZL X (UC X.K ZF):=by
 intro pins s σ H x v f g lo hi sl Q I h i j k q;obtain⟨μ,mh,dx,R,c,d,q,F⟩:=q
 have go:(∃ds,jD mh dx=some ds/\R (.ref mh.length) (mh++[.lst (cutD ds lo hi)]))->∃T id,typeLookup (.type T) "__getitem__"=pure (some (.builtin id))/\s.TypeIs v T/\wpAny (model X.prog X.w) X.A (getItem v (.ref sl)) (EP X pins σ Q) X.xe s:=λb=>by
  obtain⟨ds,e,q⟩:=b;obtain⟨a,vs,rfl,sq,l⟩:=oM c d e;exact O5 pins s σ H _ v f g lo hi sl Q I h i j k ⟨a,vs,rfl,sq,gW c F (GA l lo hi) q⟩
 cases dx with
 | tup ds=>
  obtain⟨a,vs,rfl,sq,l⟩:=dB d;refine O4 pins s σ H _ v f g lo hi sl Q I h i j k ⟨a,vs,rfl,sq,λm=>?_,λ_=>nH c F (GA l lo hi) q⟩
  have e:cutD ds lo hi=ds:=by
   unfold cutD;rw[<-aW l,m.1,m.2,aW l];simp
  have n :R (.tup (cutD ds lo hi)) mh:=q;rw[e]at n;exact F.here c n d
 | _=>exact go q
abbrev WO:=c9->MH->(Option Int->MH->Prop)->Prop
def tLO(K:aJn)(w:WO):TO:=λσ H Q=>∃μ a mh R,Rep K μ mh H/\bX K μ H a σ/\w a mh R/\∀o mh',R o mh' ->∀μ' H',aI μ H μ' H' ->Rep K μ' mh' H' ->Q o H'
def LO(X:Cx)(e:Option Expr)(w:WO):Prop:=PO X e (tLO X.K w)
def wNo:WO:=λ_ mh Q=>Q none mh
def AO(w:WE):WO:=λb mh Q=>w b mh λx a=>∃i,x= .int i/\Q (some i) a
variable {e:Expr}{w:WE}{lo hi:Option Expr}{wl wh:WO}{pos p2:Pos}
theorem RK:LO X none wNo:=λpins s σ H Q I q=>QG pins s σ H Q I (by
 obtain⟨μ,b,mh,R,a,E,h,F⟩:=q
 exact F none mh h μ H aI.refl a)
theorem RJ(h:LE X e w):LO X (some e) (AO w):=λpins s σ H Q I q=>QF h pins s σ H Q I (by
 obtain⟨μ,c,mh,R,d,E,h,F⟩:=q;refine⟨μ,c,mh,_,d,E,h,λdx a b μ1 l f g j k=>?_⟩;obtain⟨i,rfl,b⟩:=b
 exact⟨i,bR k,F (some i) a b μ1 f g j⟩)
def ZP(f:OS)(w:WE)(wl wh:WO):WE:=λa mh Q=>w a mh λx b=>wl a b λl c=>wh a c λu d=>f x l u d Q
theorem LX{f:OS}(p:ZL X (UC X.K f))(he:LE X e w)(r:LO X lo wl)(s:LO X hi wh):LE X (.Subscript e (.Slice lo hi none p2) pos) (ZP f w wl wh):=PE.imp (KY p he r s) λσ H Q q=>by
 obtain⟨μ,a,mh,R,b,E,h,F⟩:=q;refine⟨μ,a,mh,_,b,E,h,λdx c t μ1 v B d n x=>⟨μ1,a,c,_,n,E.mono b d,t,λl g y i C j R2=>⟨i,a,g,_,R2,E.mono b (d.trans j),y,λu k z m D o A=>?_⟩⟩⟩;exact⟨m,k,dx,R,A,Is.mono n (j.trans o) dx v x,z,F.at ((d.trans j).trans o)⟩
abbrev OM:=D->List D->MH->DK->Prop
def liftM(K:aJn)(f:OM):V->List V->Hp->VK->Prop:=λx xs H Q=>∃μ mh dx ds R,Rep K μ mh H/\Is K μ H dx x/\IsL K μ H ds xs/\f dx ds mh R/\Fin K μ H R Q
def MF(mh:MH)(T:String):D->Prop
 | .str _=>T= "str"
 | .int _=>T= "int"
 | .ref n=>T= "list"/\∃ds,mh[n]? =some (.lst ds)
 | .fl _=>T= "list"
 | .tup _=>T= "tuple"
 | _=>False
theorem XQ{mh:MH}{T:String}{d:D}{v:V}(b:Rep K μ mh H)(i:Is K μ H d v)(k:MF mh T d):tyV K T v H:=by
 cases d with
 | str z=>cases dC i;exact k
 | int z=>cases bR i;exact k
 | ref n=>obtain⟨e,ds,o⟩:=k;obtain⟨a,vs,rfl,_,hv,_⟩:=mN b i o;exact .inl ⟨e,vs,.of hv⟩
 | fl ds=>obtain⟨a,vs,rfl,sq,_⟩:=oC i;exact .inl ⟨k,vs,sq.sq⟩
 | tup ds=>obtain⟨a,vs,rfl,sq,_⟩:=dB i;exact .inr (.inl ⟨k,vs,sq⟩)
 | _=>exact False.elim k
variable {o:Expr}{es:List Expr}{wo:WE}{wa:WA}{name:Str}{apos cZ:Pos}{T id:String}
def OD(T:String)(f:OM)(wo:WE)(wa:WA):WE:=λc mh Q=>wo c mh λx a=>MF a T x/\wa c a λds b=>f x ds b Q
theorem aBi{f:OM}(u:PlainAttrs T)(slot:Slot T name id)(g:typeOf (.builtin id)=pure (.type "method_descriptor"))(v:MtR X id (liftM X.K f))(ho:LE X o wo)(w:LA X (e::es) wa)
  (b:attributeBase o name X.env (eval o X.env)=eval o X.env:=by rfl)
  (d:((backTo cZ (starEach (e::es) X.env)).all (λx=>!x.1) && (backToKw cZ (keywordEach [] X.env)).all (λx=>x.1.isSome)
   && decide ((e::es).length+([]:List Keyword).length+(if ([]:List Keyword).isEmpty then 0 else 1)<30))=true:=by rfl)
  (c:(apos.endLine==cZ.line)=true:=by rfl) (y:starEach (e::es) X.env=(false,eval e X.env)::starEach es X.env:=by rfl) (a:(backTo cZ (starEach es X.env)).any (·.1)=false:=by rfl):
  LE X (.Call (.Attribute o name apos) (e::es) [] cZ) (OD T f wo wa):=PE.imp (aAn u slot g v ho w b d c y a) λσ H Q q=>by
 obtain⟨μ,m,mh,R,n,E,h,F⟩:=q;refine⟨μ,m,mh,_,n,E,h,λdx i p μ1 z C r j s=>⟨XQ j s p.1,μ1,m,i,_,j,E.mono n r,p.2,λds k A l vs D t R2 B=>?_⟩⟩;exact⟨l,k,dx,ds,R,R2,Is.mono j t dx z s,B,A,F.at (r.trans t)⟩
def dG:OM:=λx ds mh Q=>∃n es d,x= .ref n/\ds=[d]/\mh[n]? =some (.lst es)/\es.length<sizeLine/\Q .bU (mh.set n (.lst (es++[d])))
theorem HI:MtR X "list.append" (liftM X.K dG):=by
 intro pins s σ H x xs v us Q I c f q;obtain⟨μ,mh,dx,ds,R,b,g,h,⟨n,es,d,rfl,rfl,e,hz,q⟩,F⟩:=q;obtain⟨a,vs,rfl,i,hv,l⟩:=mN b g e;obtain⟨z,rfl,j⟩:=gO h;exact qH pins s σ H _ _ v us Q I c f ⟨a,vs,z,rfl,rfl,hv,by rw[aW l];exact hz,F.put b i (kS l (fI j)) q .bU⟩
end
structure iK where
 nx:c9->MH->Prop
 rt:DK
 bk:c9->MH->Prop:=λ_ _=>False
 ct:c9->MH->Prop:=λ_ _=>False
abbrev WS:=iK->c9->MH->Prop
def ER(K:aJn)(μ:List Addr)(H:Hp)(R:c9->MH->Prop)(Q:L2.St->Hp->Prop):Prop:=
 ∀a mh',R a mh' ->∀μ' b H',aI μ H μ' H' ->Rep K μ' mh' H' ->bX K μ' H' a b ->Q b H'
structure AF(K:aJn)(μ:List Addr)(H:Hp)(E:iK)(D:Ends):Prop where
 nx:ER K μ H E.nx D.nx
 rt:Fin K μ H E.rt D.rt
 bk:ER K μ H E.bk D.bk
 ct:ER K μ H E.ct D.ct
def tLS(K:aJn)(w:WS):TS:=λD σ H=>∃μ a mh E,Rep K μ mh H/\bX K μ H a σ/\w E a mh/\AF K μ H E D
def LS(X:Cx)(st:Stmt)(w:WS):Prop:=PS X st (tLS X.K w)
def lR(X:Cx)(st:List Stmt)(w:WS):Prop:=AE X st (tLS X.K w)
theorem PS.imp{e:Stmt}{t t' :TS}(h:PS X e t)(i:∀D σ H,t' D σ H->t D σ H):PS X e t' :=λpins s σ H D I q=>h pins s σ H D I (i D σ H q)
theorem AE.imp{e:List Stmt}{t t' :TS}(h:AE X e t)(i:∀D σ H,t' D σ H->t D σ H):AE X e t' :=λpins s σ H D I q=>h pins s σ H D I (i D σ H q)
section
variable {K:aJn}{μ μ1:List Addr}{H H1:Hp}
theorem ER.at{R:c9->MH->Prop}{Q:L2.St->Hp->Prop}(F:ER K μ H R Q)(P:aI μ H μ1 H1):ER K μ1 H1 R Q:=λa mh' r μ' b H' c d I=>F a mh' r μ' b H' (P.trans c) d I
theorem AF.at{E:iK}{D:Ends}(F:AF K μ H E D)(P:aI μ H μ1 H1):AF K μ1 H1 E D:=⟨F.nx.at P,F.rt.at P,F.bk.at P,F.ct.at P⟩
theorem bX.set{c:c9}{σ:L2.St}{d:D}{v:V}(E:bX K μ H c σ)(i:Nat)(h:Is K μ H d v):bX K μ H (c.set i (some d)) (σ.set i (some v)):=by
 refine⟨by simp[E.1],λj e b=>?_⟩;by_cases a:j=i
 ·subst a
  have f:j<c.length:=by
   have:=(aFp.mp b).1;simpa using this
  rw[List.getElem?_set_self f]at b;cases b;exact⟨v,by rw[List.getElem?_set_self (by rw[<-E.1];exact f)],h⟩
 ·rw[List.getElem?_set_ne (Ne.symm a)]at b;obtain⟨u,g,k⟩:=E.2 j e b;exact⟨u,by rw[List.getElem?_set_ne (Ne.symm a)];exact g,k⟩
end
def cU:WS:=λE a mh=>E.nx a mh
def aV(t u:WS):WS:=λE a mh=>t {E with nx:=u E} a mh
def mC(w:WE):WS:=λE b mh=>w b mh λ_ a=>E.nx b a
def dA(w:WE):WS:=λE a mh=>w a mh E.rt
def fY(t:WT)(a b:WS):WS:=λE e mh=>t e mh λc d=>if c=true then a E e d else b E e d
section
variable {X:Cx}{st:Stmt}{rest a b:List Stmt}{t u:WS}{e:Expr}{w:WE}{wt:WT}{pos:Pos}
theorem WZ:lR X [] cU:=AE.imp QA λD σ H a=>by obtain⟨μ,b,mh,E,R,En,h,F⟩:=a;exact F.nx b mh h μ σ H aI.refl R En
theorem RI(d:LS X st t)(e:lR X rest u):lR X (st::rest) (aV t u):=AE.imp (KL d e) λD σ H a=>by
 obtain⟨μ,f,mh,E,R,En,h,F⟩:=a;exact⟨μ,f,mh,_,R,En,h,⟨λb mh' q μ' g H' i j c =>⟨μ',b,mh',E,j,c,q,F.at i⟩,F.rt,F.bk,F.ct⟩⟩
theorem WY(a:LS X st t):lR X [st] t:=P7 a
theorem RG(he:LE X e w)(f:swapsWith e none pos.line X.env=pure false:=by rfl):LS X (.Expr e pos) (mC w):=PS.imp (QB he f) λD σ H ⟨μ,b,mh,E,R,En,h,F⟩=>
 ⟨μ,b,mh,_,R,En,h,λd a q μ1 v g c i j=>F.nx b a q μ1 σ g c i (En.mono R c)⟩
theorem WW(he:LE X e w):LS X (.Return (some e) pos) (dA w):=PS.imp (VH he) λD σ H a=>by obtain⟨μ,b,mh,E,R,En,h,F⟩:=a;exact⟨μ,b,mh,_,R,En,h,F.rt⟩
theorem aB7{c:Expr}(j:LT X c wt)(l:lR X a t)(m:lR X b u):LS X (.If c a b pos) (fY wt t u):=PS.imp (aAg j l m) λD σ H f=>by
 obtain⟨μ,g,mh,E,R,En,h,F⟩:=f;refine⟨μ,g,mh,_,R,En,h,λk d q μ1 n e i=>?_⟩
 cases k with
 | true=>rw[if_pos rfl]at q⊢;exact⟨μ1,g,d,E,i,En.mono R e,q,F.at e⟩
 | false=>rw[if_neg Bool.false_ne_true]at q⊢;exact⟨μ1,g,d,E,i,En.mono R e,q,F.at e⟩
abbrev WG:=D->c9->(c9->Prop)->Prop
abbrev S8:=List D->c9->(c9->Prop)->Prop
def gA(K:aJn)(g:TG)(e:WG):Prop:=∀v σ H Q μ c mh d R,Rep K μ mh H->bX K μ H c σ->Is K μ H d v->e d c R->(∀a,R a ->∀b,bX K μ H a b ->Q b H)->g v σ H Q
def xZ(K:aJn)(g:GR)(d:S8):Prop:=∀vs σ H Q μ c mh ds R,Rep K μ mh H->bX K μ H c σ->IsL K μ H ds vs->d ds c R->(∀a,R a ->∀b,bX K μ H a b ->Q b H)->g vs σ H Q
def gN(i:Nat):WG:=λd a Q=>Q (a.set i (some d))
def iX:S8:=λds a Q=>ds=[]/\Q a
def bS(t:WG)(u:S8):S8:=λds b Q=>∃d r,ds=d::r/\t d b λa =>u r a Q
def gT(n:Nat)(u:S8):WG:=λd a Q=>∃ds,d= .tup ds/\ds.length=n/\u ds a Q
theorem sV(i:Nat):gA K (oD i) (gN i):=λv σ H Q μ a mh d R b En I h F=>F _ h _ (En.set i I)
theorem SD:xZ K NB iX:=λvs σ H Q μ a mh ds R b En I h F=>by
 obtain⟨rfl,h⟩:=h;unfold IsL at I;exact⟨I,F a h σ En⟩
theorem MX{g:TG}{gs:GR}{f:WG}{a:S8}(k:gA K g f)(l:xZ K gs a):xZ K (BV g gs) (bS f a):=λvs σ H Q μ m mh ds R i En I h F=>by
 obtain⟨d,r,rfl,h⟩:=h;unfold IsL at I;obtain⟨v,j,rfl,n,o⟩:=I;exact⟨v,j,rfl,k v σ H _ μ m mh d _ i En n h λb q c e =>l j c H Q μ b mh r R i e o q F⟩
theorem X8{n:Nat}{gs:GR}{b:S8}(h:xZ K gs b):gA K (YB K n gs) (gT n b):=λv σ H Q μ c mh d R e En I q F=>by
 obtain⟨ds,rfl,f,q⟩:=q;obtain⟨a,vs,rfl,sq,l⟩:=dB I;exact⟨a,vs,rfl,sq,by rw[aW l];exact f,h vs σ H Q μ c mh ds R e En l q F⟩
def bJ(w:WE)(g:WG):WS:=λE c mh=>w c mh λd a=>g d c λb =>E.nx b a
theorem zZ{g:TG}{f:WG}{D:Ends}{σ:L2.St}(m:gA K g f)(h:tLS K (bJ w f) D σ H):JV (tL K w) g D σ H:=by
 obtain⟨μ,i,mh,E,R,En,h,F⟩:=h;refine⟨μ,i,mh,_,R,En,h,λd a q μ1 v j k l n=>?_⟩;exact m v σ j _ μ1 i a d _ l (En.mono R k) n q λb o c e =>F.nx b a o μ1 c j k l e
theorem LN(i:Nat){x:Str}{a :Pos}(hN:X.N.Nodup)(he:LE X e w)(hi:X.N[i]? =some x:=by rfl)(b:Loc X.env.scope x:=by first | exact Or.inl rfl | exact Or.inr rfl)(c:swapsWith e (some (.Name x a)) pos.line X.env=pure false:=by rfl)(d:X.fn x=true\/X.env.scope.names.lookup x=some .local:=by first | exact .inl rfl | exact .inr rfl | assumption):
  LS X (.Assign [.Name x a] e pos) (bJ w (gN i)):=PS.imp (VG hN hi b he c d) λD σ H h=>zZ (sV i) h
theorem W3{tg:Expr}{g:TG}{a:WG}(he:LE X e w)(hg:PG X tg g)(b:gA X.K g a)(c:swapsWithSole [tg] e pos.line X.env=pure false:=by rfl)(d:swappedStores [tg] e X.env=pure none:=by rfl)
  (f:(assignEach [tg] X.env).map (·.2)=[assign tg X.env]:=by rfl):LS X (.Assign [tg] e pos) (bJ w a):=PS.imp (KQ he hg c d f) λD σ H h=>zZ b h
def O6:D->D->D->MH->(MH->Prop)->Prop:=λo i d mh Q=>∃n ds k j,o= .ref n/\i= .int k/\mh[n]? =some (.lst ds)/\HW ds.length k=some j/\Q (mh.set n (.lst (ds.set j d)))
def EZ(w g wi:WE):WS:=λE a mh=>w a mh λd b=>g a b λo c=>wi a c λi e=>O6 o i d e λf=>E.nx a f
theorem RD{o i:Expr}{y wi:WE}{b:Pos}(he:LE X e w)(ho:LE X o y)(hi:LE X i wi)
  (C:∀v,assign (.Subscript o i b) X.env v=(do
   let ov<-holding [v] (eval o X.env)
   let iv<-holding [v,ov] (eval i X.env)
   standAt b
   holding [v,ov,iv] (setItem ov iv v)
   release [v,ov,iv] []):=by intro _;rfl)
  (G:swapsWithSole [.Subscript o i b] e pos.line X.env=pure false:=by rfl) (I:swappedStores [.Subscript o i b] e X.env=pure none:=by rfl)
  (J:(assignEach [.Subscript o i b] X.env).map (·.2)=[assign (.Subscript o i b) X.env]:=by rfl):LS X (.Assign [.Subscript o i b] e pos) (EZ w y wi):=
 PS.imp (KQ he (VO ho hi set_list C) G I J) λD σ H h=>by
  obtain⟨μ,g,mh,E,R,En,h,F⟩:=h;refine⟨μ,g,mh,_,R,En,h,λd m q μ1 v W p z K=>?_⟩;refine⟨μ1,g,m,_,z,En.mono R p,q,λL r q2 s Y Z t R2 M=>?_⟩;refine⟨s,g,r,_,R2,En.mono R (p.trans t),q2,λdi N q3 c vi A u x O=>?_⟩;obtain⟨n,ds,k,j,rfl,rfl,P,Q,S⟩:=q3;obtain⟨a,vs,rfl,B,hv,l⟩:=mN x (Is.mono R2 u _ _ M) P;cases bR O;have T:=Is.mono z (t.trans u) d v K;have U:aI c A c (upd A a (.lst (vs.set j v))):=aI.set x B;have V:=x.set B (F9 j T l);have f:=((p.trans t).trans u).trans U;exact⟨a,vs,k,j,rfl,rfl,hv,by rw[aW l];exact Q,F.nx g _ S c σ _ f V (En.mono R f)⟩
def oF(t:WT)(b:WS):WS:=λE a mh=>∃W:Nat->c9->MH->Prop,(∃m,W m a mh)/\∀m a mh,W m a mh->∃N:c9->MH->Prop,(∀d mh',N d mh' ->∃f,f<m/\W f d mh')/\
 t a mh λc e=>if c=true then b {E with nx:=N,ct:=N,bk:=E.nx} a e else E.nx a e
theorem LM{c:Expr}{body:List Stmt}(y:PassesOwn (model X.prog X.w) X.A X.env X.xe)(z:LT X c wt)(B:lR X body t):LS X (.While c body [] pos) (oF wt t):=PS.imp (KN y z B) λD σ H h=>by
 obtain⟨μ,C,mh,E,R,En,⟨W,⟨m,G⟩,o⟩,F⟩:=h;refine⟨λm j H' =>∃μ' e mh',aI μ H μ' H' /\Rep X.K μ' mh' H' /\bX X.K μ' H' e j /\W m e mh',⟨m,μ,C,mh,aI.refl,R,En,G⟩,?_⟩;rintro m j H' ⟨μ',e,mh',v,u,l,w'⟩;obtain⟨N,hN,tt⟩:=o m e mh' w';refine⟨μ',e,mh',_,u,l,tt,λk p q μ1 I s x=>?_⟩
 cases k with
 | false=>rw[if_neg Bool.false_ne_true]at q⊢;exact F.nx e p q μ1 j I (v.trans s) x (l.mono u s)
 | true=>
  rw[if_pos rfl]at q⊢;refine⟨λg n=>∃a b d,aI μ H a n/\Rep X.K a d n/\bX X.K a n b g/\N b d,?_,?_⟩
  ·rintro g n ⟨a,b,d,r,R2,f,n2⟩;obtain⟨J,L,M⟩:=hN b d n2;exact⟨J,L,a,b,d,r,R2,f,M⟩
  ·have i:=v.trans s;exact⟨μ1,e,p,_,x,l.mono u s,q,⟨λb d n2 a g n r R2 f=>⟨a,b,d,i.trans r,R2,f,n2⟩,F.rt.at i,F.nx.at i,λb d n2 a g n r R2 f=>⟨a,b,d,i.trans r,R2,f,n2⟩⟩⟩
def oE(t:WT)(b:WS)(E:iK):Nat->c9->MH->Prop
 | 0,_,_=>False
 | n+1,ρ,mh=>t ρ mh λc a=>if c=true then b {E with nx:=oE t b E n,ct:=oE t b E n,bk:=E.nx} ρ a else E.nx ρ a
theorem CU{t:WT}{b:WS}{E:iK}{a:c9}{mh:MH}(n:Nat)(h:oE t b E n a mh):oF t b E a mh:=by
 refine⟨λm a mh=>oE t b E m a mh,⟨n,h⟩,λm a mh c=>?_⟩
 cases m with
 | zero=>exact c.elim
 | succ m=>exact⟨oE t b E m,λd mh' q=>⟨m,aGu _,q⟩,c⟩
abbrev WI:=c9->MH->(List D->(MH->Prop)->MH->Prop)->Prop
structure dX(μ:List Addr)(H:Hp)(μ' :List Addr)(H' :Hp):Prop where
 pre:∃t,μ' =μ++t
 fr:∀b o,H b=some o->¬Own (some o)->H' b=some o
section
variable {K:aJn}{μ μ' :List Addr}{mh:MH}{H H' :Hp}
theorem aI.weak(R:Rep K μ mh H)(P:aI μ H μ' H'):dX μ H μ' H' :=⟨P.pre,λb o e n=>P.fr b o e λa=>n (by have:=R.mut a;rwa [e]at this)⟩
theorem dX.trans{a:Hp}(P:dX μ H μ1 a)(Q:dX μ1 a μ' H'):dX μ H μ' H' :=⟨by obtain⟨t,rfl⟩:=P.pre;obtain⟨u,rfl⟩:=Q.pre;exact⟨t++u,by simp⟩,λb o e n=>Q.fr b o (P.fr b o e n) n⟩
theorem dX.get(p:dX μ H μ' H'){n:Nat}{a:Addr}(h:μ[n]? =some a):μ'[n]? =some a:=by
 obtain⟨t,rfl⟩:=p.pre;rw[List.getElem?_append_left (List.getElem?_eq_some_iff.mp h).1];exact h
theorem dX.Z6(p:dX μ H μ' H'){a:Addr}{vs:List V}(h:IZ K H a vs):IZ K H' a vs:=by
 rcases h with h | h
 ·exact .inl (p.fr _ _ h id)
 ·exact .inr h
theorem dX.Z7(p:dX μ H μ' H'){a:Addr}{vs:List V}(h:OG K H a vs):OG K H' a vs:=by
 rcases h with ⟨o,h⟩ | h
 ·exact .inl ⟨o,p.fr _ _ h id⟩
 ·exact .inr h
mutual
theorem Is.iA(p:dX μ H μ' H'):∀(d:D) (v:V),Is K μ H d v->Is K μ' H' d v
 | .bU,v,h=>by unfold Is at*;exact h
 | .bl _,v,h=>by unfold Is at*;exact h
 | .int _,v,h=>by unfold Is at*;exact h
 | .str _,v,h=>by unfold Is at*;exact h
 | .ty _,v,h=>by unfold Is at*;exact h
 | .tup ds,v,h=>by
  unfold Is at*;obtain⟨a,vs,e,s,l⟩:=h;exact⟨a,vs,e,p.Z6 s,IsL.iA p ds vs l⟩
 | .fl ds,v,h=>by
  unfold Is at*;obtain⟨a,vs,e,s,l⟩:=h;exact⟨a,vs,e,p.Z7 s,IsL.iA p ds vs l⟩
 | .ref n,v,h=>by
  unfold Is at*;obtain⟨a,e,q⟩:=h;exact⟨a,p.get e,q⟩
theorem IsL.iA(p:dX μ H μ' H'):∀(ds:List D) (vs:List V),IsL K μ H ds vs->IsL K μ' H' ds vs
 | [],vs,h=>by unfold IsL at*;exact h
 | d::ds,vs,h=>by
  unfold IsL at*;obtain⟨v,r,e,q,l⟩:=h;exact⟨v,r,e,Is.iA p d v q,IsL.iA p ds r l⟩
end
end
structure EO(K:aJn)(μ:List Addr)(H:Hp)(ds:List D)(St:MH->Prop)(J:It):Prop where
 small:ds.length<=sizeLine
 go:∀μ' mh' H',dX μ H μ' H' ->Rep K μ' mh' H' ->St mh' ->∀(i:Nat) d,ds[i]? =some d->J.go i H' /\∀x H'',J.OL i H' x H'' ->aI μ' H' μ' H'' /\Rep K μ' mh' H'' /\Is K μ' H'' d x
 stop:∀μ' mh' H',dX μ H μ' H' ->Rep K μ' mh' H' ->St mh' ->J.stop ds.length H'
def JS(K:aJn)(w:WI):TI:=λσ H R=>∃μ c mh d,Rep K μ mh H/\bX K μ H c σ/\w c mh d /\
 ∀ds St a,d ds St a->∀μ1 J b,aI μ H μ1 b->Rep K μ1 a b->EO K μ1 b ds St J->R J b
def LI(X:Cx)(tg iter:Expr)(w:WI):Prop:=PI X tg iter (JS X.K w)
theorem PI.imp{X:Cx}{tg e:Expr}{t t' :TI}(h:PI X tg e t)(i:∀σ H Q,t' σ H Q->t σ H Q):PI X tg e t' :=λpins s σ H Q I q=>h pins s σ H Q I (i σ H Q q)
def mQ(g:WG)(b:WS)(E:iK)(St:MH->Prop):List D->c9->MH->Prop
 | [],ρ,mh=>St mh/\E.nx ρ mh
 | d::ds,ρ,mh=>St mh/\g d ρ λa=>b {E with nx:=mQ g b E St ds,ct:=mQ g b E St ds,bk:=E.nx} a mh
def i9(wi:WI)(g:WG)(b:WS):WS:=λE c mh=>wi c mh λds St a=>mQ g b E St ds c a
theorem W0{tg iter:Expr}{body:List Stmt}{wi:WI}{g:TG}{p:WG}(V:PassesOwn (model X.prog X.w) X.A X.env X.xe)(W:X.calm=true)(hi:LI X tg iter wi)(hg:PG X tg g)(Y:gA X.K g p)(Z:lR X body t)
  (hs:∀x,foldedSetIterable iter X.env x=pure x:=by intro _;rfl):LS X (.For tg iter body [] pos) (i9 wi p t):=PS.imp (VJ V W hi hg Z hs) λD σ H h=>by
 obtain⟨μ,Q,mh,E,R,En,h,F⟩:=h;refine⟨μ,Q,mh,_,R,En,h,λds St B q μ1 J C G I It=>?_⟩;refine⟨λi m j H' =>∃μ' d mh',aI μ1 C μ' H' /\Rep X.K μ' mh' H' /\bX X.K μ' H' d j /\i<=ds.length/\m=ds.length-i/\mQ p t E St (ds.drop i) d mh',⟨ds.length,μ1,Q,B,aI.refl,I,En.mono R G,aGm _,by simp,by simpa using q⟩,?_⟩;rintro i m j H' ⟨μ',d,mh',v,z,r,hi',rfl,l⟩;by_cases n:i<ds.length
 ·rw[List.drop_eq_getElem_cons n]at l;obtain⟨L,l⟩:=l;obtain⟨M,hy⟩:=It.go μ' mh' H' (v.weak I) z L i ds[i] (by simp[n]);refine .inr ⟨M,λf k=>∃a b c,aI μ1 C a k/\Rep X.K a c k/\bX X.K a k b f/\mQ p t E St (ds.drop (i+1)) b c,?_,λx H'' y=>?_⟩
  ·rintro f k ⟨a,b,c,N,R2,o,l2⟩;exact⟨ds.length-(i+1),by lia,a,b,c,N,R2,o,n,rfl,l2⟩
  ·obtain⟨S,T,Iy⟩:=hy x H'' y;refine Y x j H'' _ μ' d mh' _ _ T (r.mono z S) Iy l λO q3 σ3 P=>?_;have U:=v.trans S;have s:=G.trans U
   have u:ER X.K μ' H'' (mQ p t E St (ds.drop (i+1))) (λf k=>∃a b c,aI μ1 C a k/\Rep X.K a c k/\bX X.K a k b f/\mQ p t E St (ds.drop (i+1)) b c):=
    λb c n2 a f k N R2 o=>⟨a,b,c,U.trans N,R2,o,n2⟩
   exact⟨μ',O,mh',_,T,P,q3,⟨u,F.rt.at s,F.nx.at s,u⟩⟩
 ·have e:i=ds.length:=by lia
  subst e;rw[List.drop_of_length_le (Nat.le_refl _)]at l;exact .inl ⟨It.stop μ' mh' H' (v.weak I) z l.1,F.nx d mh' l.2 μ' j H' (G.trans v) z r⟩
end
def dH(w:WE):WI:=λb mh Q=>w b mh λx a=>∃ds,aX a x=some ds/\Q ds (λmh' =>aX mh' x=some ds) a
section
variable {K:aJn}{μ:List Addr}{mh:MH}{H:Hp}{ds:List D}{vs:List V}{a:Addr}
theorem X0{St:MH->Prop}(R:Rep K μ mh H)(s:IZ K H a vs)(l:IsL K μ H ds vs)(hz:ds.length<=sizeLine):EO K μ H ds St (Itt K a):=by
 refine⟨hz,λμ' mh' H' b c _ i d e=>?_,λμ' mh' H' b c _=>⟨vs,(b.Z6 s).sq,by rw[aW l];exact aFq _⟩⟩;have f :=(b.Z6 s).sq;obtain⟨v,g,h⟩:=eQ (IsL.iA b ds vs l) e;refine⟨⟨vs,v,f,g⟩,λx H'' y=>?_⟩;obtain⟨rfl,y⟩:=y;have:=y vs f;rw[g]at this;cases this;exact⟨aI.refl,c,h⟩
theorem aBn{St:MH->Prop}(R:Rep K μ mh H)(s:OG K H a vs)(l:IsL K μ H ds vs)(hz:ds.length<=sizeLine):EO K μ H ds St (Itl K a):=by
 refine⟨hz,λμ' mh' H' b c _ i d e=>?_,λμ' mh' H' b c _=>⟨vs,(b.Z7 s).sq,by rw[aW l];exact aFq _⟩⟩;have f :=(b.Z7 s).sq;obtain⟨v,g,h⟩:=eQ (IsL.iA b ds vs l) e;refine⟨⟨vs,v,f,g⟩,λx H'' y=>?_⟩;obtain⟨rfl,y⟩:=y;have:=y vs f;rw[g]at this;cases this;exact⟨aI.refl,c,h⟩
theorem sN{mh:MH}{n:Nat}{ds:List D}(h:aX mh (.ref n)=some ds):mh[n]? =some (.lst ds):=by
 simp only[aX]at h
 cases o:mh[n]? with
 | none=>rw[o]at h;cases h
 | some ob=>cases ob with
  | lst es=>rw[o]at h;cases h;rfl
  | bI t kvs=>rw[o]at h;cases h
  | eY t kvs ob=>rw[o]at h;cases h
  | oth ds f=>rw[o]at h;cases h
theorem X1{n:Nat}(R:Rep K μ mh H)(g:μ[n]? =some a)(hz:ds.length<=sizeLine):EO K μ H ds (λmh' =>aX mh' (.ref n)=some ds) (Itl K a):=by
 refine⟨hz,λμ' mh' H' c b f i d e=>?_,λμ' mh' H' c b f=>?_⟩
 ·obtain⟨vs,hv,l⟩:=b.obj n a _ (c.get g) (sN f);obtain⟨v,h,j⟩:=eQ l e;refine⟨⟨vs,v,.of hv,h⟩,λx H'' y=>?_⟩;obtain⟨rfl,y⟩:=y;have:=y vs (.of hv);rw[h]at this;cases this;exact⟨aI.refl,b,j⟩
 ·obtain⟨vs,hv,l⟩:=b.obj n a _ (c.get g) (sN f);exact⟨vs,.of hv,by rw[aW l];exact aFq _⟩
end
section
variable {X:Cx}{tg l:Expr}{w:WE}
theorem W4(C:LE X l w):LI X tg l (dH w):=by
 intro pins s σ H R I h;obtain⟨μ,D,mh,E,G,En,h,F⟩:=h;refine bV (C pins s σ H (λv f=>∃μ1 x c ds,aI μ H μ1 f/\Rep X.K μ1 c f/\Is X.K μ1 f x v/\aX c x=some ds/\E ds (λmh' =>aX mh' x=some ds) c) I ⟨μ,D,mh,_,G,En,h,λd c q μ1 v f u k g=>?_⟩) λv s1 ⟨x,f,g,r1,q1⟩=>?_
 ·obtain⟨ds,e,q⟩:=q;exact⟨μ1,d,c,ds,u,k,g,e,q⟩
 ·obtain⟨μ1,dx,c,ds,u,k,y,e,q⟩:=q1;obtain⟨a,vs,rfl,sq,J⟩:=tQ k y e;have hz:ds.length<=sizeLine:=by rw[<-aW J];exact U0 g sq
  have i:∀{vs:List V},p7 X.K f a vs->EO X.K μ1 f ds (λmh' =>aX mh' dx=some ds) (Itl X.K a)->wpAny (model X.prog X.w) X.A (pyIter v) (PIE X pins σ tg R) X.xe s1:=λ{vs} sq It=>by
   obtain⟨aN,L,p,_⟩:=g.list sq;cases r1;refine aIo p.isList ?_;refine⟨s1.heap.objs.size,[s1.heap.objs.size],_,_,f,rfl,g.kept (t' :=s1.toks) λb o e=>aFn _ e,GY a _,⟨_,aFs _ rfl,rfl,rfl⟩,λb z=>?_,F ds _ c q μ1 _ f u k It⟩;have e:b=s1.heap.objs.size:=by simpa using z
   subst e;exact g.D0 (aFq _) (g.bG.fresh (aFq _))
  cases dx with
  | tup es=>
   cases e;obtain⟨B,r,t,j,m⟩:=y9 y;cases t;obtain⟨aN,L,p,_⟩:=g.tuple j.sq;cases r1;refine aJd (show s1.heap.IsTuple a aN.toArray from p) ?_;refine⟨s1.heap.objs.size,[s1.heap.objs.size],_,_,f,rfl,g.kept (t' :=s1.toks) λb o e=>aFn _ e,CW a _,⟨_,aFs _ rfl,rfl,rfl⟩,λb z=>?_,F ds _ c q μ1 _ f u k (X0 k j m hz)⟩;have e:b=s1.heap.objs.size:=by simpa using z
   subst e;exact g.D0 (aFq _) (g.bG.fresh (aFq _))
  | fl es=>
   cases e;obtain⟨B,r,t,j,m⟩:=oC y;cases t;exact i j.sq (aBn k j m hz)
  | ref n=>
   obtain⟨B,r,t,M,hv,m⟩:=mN k y (sN e);cases t;exact i (.of hv) (X1 k M hz)
  | _=>cases e
def jC(lo:Int)(n:Nat):List D:=(List.range n).map λ(k:Nat)=>D.int (lo+(k:Int))
theorem MM{St:MH->Prop}{lo:Int}{n:Nat}(hz:n<=sizeLine):EO K μ H (jC lo n) St (Itr lo n):=by
 refine⟨by simpa[jC] using hz,λμ' mh' H' b a _ i d e=>?_,λμ' mh' H' b a _=>by show n<=_;simp[jC]⟩;simp only[jC,List.getElem?_map]at e;obtain⟨k,hk,rfl⟩:=aFw.mp e;obtain⟨hi,rfl⟩:=aFp.mp hk;simp at hi;refine⟨hi,λx H'' y=>?_⟩;obtain⟨rfl,rfl⟩:=y;exact⟨aI.refl,a,by simp;exact .int⟩
variable {a b:Expr}{wa:WA}{p pos:Pos}
def pA(wa:WA):WI:=λb mh Q=>wa b mh λds a=>∃j,ds=[.int j]/\ -(2^62)<=j/\j<=sizeLine/\Q (jC 0 j.toNat) (λ_=>True) a
def E4(wa:WA):WI:=λb mh Q=>wa b mh λds a=>∃i j,ds=[.int i,.int j]/\ -(2^62)<=i/\i<2^62/\ -(2^62)<=j/\j<2^62/\j-i<=sizeLine/\Q (jC i (j-i).toNat) (λ_=>True) a
theorem HP(hg:Gl X "range")(d:X.mg "range"=none)(e:LA X [a] wa)(c:starEach [a] X.env=[(false,eval a X.env)]:=by rfl):LI X tg (.Call (.Name "range" p) [a] [] pos) (pA wa):=
 PI.imp (G9 hg d e c) λσ H R h=>by
  obtain⟨μ,f,mh,r,g,En,h,F⟩:=h;refine⟨μ,f,mh,_,g,En,h,λds b q μ1 vs i k l m=>?_⟩;obtain⟨j,rfl,n,s,q⟩:=q;obtain⟨v,rfl,o⟩:=gO m;cases bR o;have t:=mR;have c:sizeLine=16777216:=aGb;exact⟨j,rfl,n,by lia,F _ _ b q μ1 _ i k l (MM (by lia))⟩
theorem HN(hg:Gl X "range")(e:X.mg "range"=none)(f:LA X [a,b] wa)(g:starEach [a,b] X.env=[(false,eval a X.env),(false,eval b X.env)]:=by rfl)(c:starEach [b] X.env=[(false,eval b X.env)]:=by rfl):LI X tg (.Call (.Name "range" p) [a,b] [] pos) (E4 wa):=
 PI.imp (G8 hg e f g c) λσ H R h=>by
  obtain⟨μ,k,mh,A,l,En,h,F⟩:=h;refine⟨μ,k,mh,_,l,En,h,λds d q μ1 vs m n o r=>?_⟩;obtain⟨i,j,rfl,s,t,w,x,B,q⟩:=q;obtain⟨v,u,rfl,y,z⟩:=BR r;cases bR y;cases bR z;exact⟨i,j,rfl,⟨s,t,w,x⟩,F _ _ d q μ1 _ m n o (MM (by lia))⟩
def lN:List D->List D->List D
 | a::as,b::bs=>.tup [a,b]::lN as bs
 | _,_=>[]
theorem dQ:∀(as bs:List D),(lN as bs).length=min as.length bs.length
 | [],bs=>by simp[lN]
 | a::as,[]=>by simp[lN]
 | a::as,b::bs=>by simp[lN,dQ as bs]
theorem g5:∀{as bs:List D} {i:Nat} {d:D},(lN as bs)[i]? =some d->∃x y,as[i]? =some x/\bs[i]? =some y/\d= .tup [x,y]
 | [],bs,i,d,h=>by simp[lN]at h
 | a::as,[],i,d,h=>by simp[lN]at h
 | a::as,b::bs,0,d,h=>by simp[lN]at h;exact⟨a,b,rfl,rfl,h.symm⟩
 | a::as,b::bs,i+1,d,h=>by simpa using g5 (as:=as) (bs:=bs) (i:=i) (by simpa[lN] using h)
def tD(wa:WA):WI:=λb mh Q=>wa b mh λxs a=>∃x y ds es,xs=[x,y]/\aX a x=some ds/\aX a y=some es/\ds.length<=sizeLine/\Q (lN ds es) (λmh' =>aX mh' x=some ds/\aX mh' y=some es) a
def DU:D->Bool | .tup _=>true | _=>false
theorem jB{mh:MH}{d:D}{v:V}{ds:List D}(R:Rep K μ mh H)(h:Is K μ H d v)(e:aX mh d=some ds):∃a vs,v= .ref a/\rQ K H (DU d) a vs/\IsL K μ H ds vs:=by
 cases d with
 | tup es=>obtain⟨a,vs,rfl,s,l⟩:=dB h;cases e;exact⟨a,vs,rfl,s,l⟩
 | fl es=>obtain⟨a,vs,rfl,s,l⟩:=oC h;cases e;exact⟨a,vs,rfl,s.sq,l⟩
 | ref n=>obtain⟨a,vs,rfl,_,hv,l⟩:=mN R h (sN e);exact⟨a,vs,rfl,p7.of hv,l⟩
 | _=>cases e
variable {e1 e2:Expr}{elts:List Expr}{x1:Nat}{jX:Pos}
theorem RL{x1}(hg:Gl X "zip")(P:X.mg "zip"=none)(Q:LA X [e1,e2] wa)
  (he:starEach [e1,e2] X.env=(false,eval e1 X.env)::starEach [e2] X.env:=by rfl) (w:(backTo pos (starEach [e2] X.env)).any (·.1)=false:=by rfl):
  LI X (.Tuple elts x1 jX) (.Call (.Name "zip" p) [e1,e2] [] pos) (tD wa):=
 PI.imp (VL EV ⟨by decide,by decide⟩ hg P Q (by decide+kernel) he w) λσ H R h=>by
  obtain⟨μ,S,mh,g,T,En,h,F⟩:=h;refine⟨μ,S,mh,_,T,En,h,λxs A q μ1 vs G U B V=>?_⟩;obtain⟨x,y,ds,es,rfl,W,Y,hz,q⟩:=q;obtain⟨v,u,rfl,I,J⟩:=BR V;obtain⟨a,xs,rfl,Z,la⟩:=jB B I W;obtain⟨b,r,rfl,sb,lb⟩:=jB B J Y;refine⟨[(a,DU x),(b,DU y)],rfl,rfl,?_,F _ _ A q μ1 _ G U B ?_⟩
  ·intro C n;simp at n;rcases n with rfl | rfl
   ·exact⟨xs,Z⟩
   ·exact⟨r,sb⟩
  ·have l:∀μ' mh' H',dX μ1 G μ' H' ->Rep X.K μ' mh' H' ->(aX mh' x=some ds/\aX mh' y=some es)->∃xs r,rQ X.K H' (DU x) a xs/\IsL X.K μ' H' ds xs/\rQ X.K H' (DU y) b r/\IsL X.K μ' H' es r:=λμ' mh' H' m g st=>by
    obtain⟨a',c,e1,s1,l1⟩:=jB g (Is.iA m _ _ I) st.1;obtain⟨b',f,e2,s2,l2⟩:=jB g (Is.iA m _ _ J) st.2;cases e1;cases e2;exact⟨c,f,s1,l1,s2,l2⟩
   refine⟨by rw[dQ];lia,λμ' mh' H' m g st i d e=>?_,λμ' mh' H' m g st=>?_⟩
   ·obtain⟨c,f,s1,l1,s2,l2⟩:=l μ' mh' H' m g st;obtain⟨dx,dy,g1,g2,rfl⟩:=g5 e;obtain⟨s,L,ix⟩:=eQ l1 g1;obtain⟨t,M,iy⟩:=eQ l2 g2;refine⟨⟨[s,t],rfl,λk a' t' v hk hv=>?_⟩,λz H'' yl=>?_⟩
    ·match k with
     | 0=>cases hk;cases hv;exact⟨c,s1,L⟩
     | 1=>cases hk;cases hv;exact⟨f,s2,M⟩
     | k+2=>simp at hk
    ·obtain⟨C,vs,N,rfl,rfl,D,o⟩:=yl
     match vs,D with
     | [v1,v2],_=>
      have e1:=o 0 a (DU x) v1 rfl rfl c s1;have e2:=o 1 b (DU y) v2 rfl rfl f s2;rw[L]at e1;rw[M]at e2;cases e1;cases e2;have E:aI μ' H' μ' (upd H' C (.tup [s,t])):=aI.new g N;refine⟨E,g.new N,?_⟩;unfold Is;refine⟨C,[s,t],rfl,.of aP,?_⟩;unfold IsL;exact⟨s,[t],rfl,Is.mono g E _ _ ix,fI (Is.mono g E _ _ iy)⟩
   ·obtain⟨c,f,s1,l1,s2,l2⟩:=l μ' mh' H' m g st;rw[dQ];by_cases hle:ds.length<=es.length
    ·refine⟨0,a,DU x,c,rfl,s1,by rw[aW l1];lia,λj b u O=>absurd O (by lia)⟩
    ·refine⟨1,b,DU y,f,rfl,s2,by rw[aW l2];lia,λj b u O hs=>?_⟩;have:j=0:=by lia
     subst this;cases hs;exact⟨c,s1,by rw[aW l1];lia⟩
end
section
variable {K:aJn}{μ μ' :List Addr}{mh:MH}{H H0:Hp}{q:Addr}{o:HO}
mutual
theorem Is.out(b:EN (H q)):∀(d:D) (v:V),Is K μ H d v->Is K μ (upd H q o) d v
 | .bU,v,h=>by unfold Is at*;exact h
 | .bl _,v,h=>by unfold Is at*;exact h
 | .int _,v,h=>by unfold Is at*;exact h
 | .str _,v,h=>by unfold Is at*;exact h
 | .ty _,v,h=>by unfold Is at*;exact h
 | .tup ds,v,h=>by
  unfold Is at*;obtain⟨a,vs,e,s,l⟩:=h;refine⟨a,vs,e,?_,IsL.out b ds vs l⟩;rcases s with s | s
  ·exact .inl (by rw[aK (λz=>by subst z;rw[s]at b;exact b)];exact s)
  ·exact .inr s
 | .fl ds,v,h=>by
  unfold Is at*;obtain⟨a,vs,e,s,l⟩:=h;refine⟨a,vs,e,?_,IsL.out b ds vs l⟩
  rcases s with ⟨ob,s⟩ | s
  ·exact .inl ⟨ob,by rw[aK (λz=>by subst z;rw[s]at b;exact b)];exact s⟩
  ·exact .inr s
 | .ref n,v,h=>by unfold Is at*;exact h
theorem IsL.out(a:EN (H q)):∀(ds:List D) (vs:List V),IsL K μ H ds vs->IsL K μ (upd H q o) ds vs
 | [],vs,h=>by unfold IsL at*;exact h
 | d::ds,vs,h=>by
  unfold IsL at*;obtain⟨v,r,e,i,l⟩:=h;exact⟨v,r,e,Is.out a d v i,IsL.out a ds r l⟩
end
mutual
theorem Is.pre(b:∀(n:Nat) a,μ[n]? =some a->μ'[n]? =some a):∀(d:D) (v:V),Is K μ H d v->Is K μ' H d v
 | .bU,v,h=>by unfold Is at*;exact h
 | .bl _,v,h=>by unfold Is at*;exact h
 | .int _,v,h=>by unfold Is at*;exact h
 | .str _,v,h=>by unfold Is at*;exact h
 | .ty _,v,h=>by unfold Is at*;exact h
 | .tup ds,v,h=>by unfold Is at*;obtain⟨a,vs,e,s,l⟩:=h;exact⟨a,vs,e,s,IsL.pre b ds vs l⟩
 | .fl ds,v,h=>by unfold Is at*;obtain⟨a,vs,e,s,l⟩:=h;exact⟨a,vs,e,s,IsL.pre b ds vs l⟩
 | .ref n,v,h=>by unfold Is at*;obtain⟨a,e,q⟩:=h;exact⟨a,b n a e,q⟩
theorem IsL.pre(b:∀(n:Nat) a,μ[n]? =some a->μ'[n]? =some a):∀(ds:List D) (vs:List V),IsL K μ H ds vs->IsL K μ' H ds vs
 | [],vs,h=>by unfold IsL at*;exact h
 | d::ds,vs,h=>by unfold IsL at*;obtain⟨v,r,e,i,l⟩:=h;exact⟨v,r,e,Is.pre b d v i,IsL.pre b ds r l⟩
end
theorem Rep.out(R:Rep K μ mh H)(c:EN (H q))(g:q∉μ):Rep K μ mh (upd H q o):=⟨R.len,R.nd,λn a ob d i=>by
 have h:=R.obj n a ob d i;have b:a≠q:=λz=>g (z▸aFx d)
 cases ob with
 | lst ds=>obtain⟨vs,e,l⟩:=h;exact⟨vs,by rw[aK b];exact e,IsL.out c ds vs l⟩
 | bI t kvs=>obtain⟨vs,e,l⟩:=h;exact⟨vs,by rw[aK b];exact e,IsL.out c _ vs l⟩
 | eY t kvs ob=>obtain⟨vs,u,e,j,l⟩:=h;exact⟨vs,u,by rw[aK b];exact e,j,IsL.out c _ vs l⟩
 | oth ds f=>obtain⟨vs,⟨e,m⟩,l⟩:=h;exact⟨vs,⟨by rw[aK b];exact e,m⟩,IsL.out c ds vs l⟩⟩
theorem aI.out(P:aI μ H0 μ' H)(h0:H0 q=none):aI μ H0 μ' (upd H q o):=⟨P.pre,λb u e n=>by rw[aK (bN e h0)];exact P.fr b u e n,P.nw⟩
theorem Rep.IY{i:MO}(R:Rep K μ mh H)(o:q∉μ)(e:m7 K (μ++[q]) H i q):Rep K (μ++[q]) (mh++[i]) H:=by
 have j:∀{es us},IsL K μ H es us->IsL K (μ++[q]) H es us:=λ{es us} l=>IsL.pre (λn a h=>by rw[List.getElem?_append_left (List.getElem?_eq_some_iff.mp h).1];exact h) es us l;refine⟨by simp[R.len],?_,λn a ob c g=>?_⟩
 ·rw[List.nodup_append];refine⟨R.nd,by simp,λa p b k=>?_⟩;simp at k;subst k;exact λz=>o (z▸p)
 ·by_cases m:n<μ.length
  ·rw[List.getElem?_append_left m]at c;rw[List.getElem?_append_left (by rw[<-R.len];exact m)]at g;have h:=R.obj n a ob c g
   cases ob with
   | lst es=>obtain⟨us,d,l1⟩:=h;exact⟨us,d,j l1⟩
   | bI t kvs=>obtain⟨us,d,l1⟩:=h;exact⟨us,d,j l1⟩
   | eY t kvs ob=>obtain⟨us,u,d,r,l1⟩:=h;exact⟨us,u,d,r,j l1⟩
   | oth ds f=>obtain⟨us,d,l1⟩:=h;exact⟨us,d,j l1⟩
  ·rw[List.getElem?_append_right (by lia)]at c;rw[List.getElem?_append_right (by rw[<-R.len];lia)]at g
   have hz:n-μ.length=0:=by
    have:=(aFp.mp c).1;simp at this;lia
   rw[hz]at c;rw[<-R.len,hz]at g;simp at c g;subst c g;exact e
theorem Rep.Y4{ds:List D}{vs:List V}(R:Rep K μ mh H)(b:q∉μ)(e:H q=some (.lst vs))(l:IsL K μ H ds vs):Rep K (μ++[q]) (mh++[.lst ds]) H:=
 R.IY b ⟨vs,e,IsL.pre (λn a h=>by rw[List.getElem?_append_left (List.getElem?_eq_some_iff.mp h).1];exact h) ds vs l⟩
end
def dD(own:List Str)(aD:List Nat)(a:c9):c9:=own.map (λ_=>none)++aD.map λi=>(a[i]?).join
def m4(g:WG)(t:WT)(w:WE)(ρe:c9)(St:MH->Prop)(Q:DK):List D->List D->MH->Prop
 | [],ys,mh=>St mh/\Q (.ref mh.length) (mh++[.lst ys])
 | d::ds,ys,mh=>St mh/\g d ρe λa=>t a mh λb c=>if b=true then w a c λy e=>m4 g t w ρe St Q ds (ys++[y]) e else m4 g t w ρe St Q ds ys c
def sH(own:List Str)(aD:List Nat)(wi:WI)(g:WG)(t:WT)(w:WE):WE:=λb mh Q=>wi b mh λds St a=>m4 g t w (dD own aD b) St Q ds [] a
def iM:WT:=λ_ mh Q=>Q true mh
section
variable {K:aJn}{μ μ1:List Addr}{mh:MH}{H H1:Hp}
theorem aI.away{q:Addr}{o:HO}(P:aI μ H μ1 H1)(a:q∉μ)(e:H q=some o):q∉μ1/\H1 q=some o:=by
 refine⟨λh=>?_,P.fr q o e a⟩;rcases P.nw q h with z | z
 ·exact a z
 ·rw[e]at z;cases z
theorem bX.emb{a:c9}{σ:L2.St}{own:List Str}{aD:List Nat}(E:bX K μ H a σ):bX K μ H (dD own aD a) (qQ own aD σ):=by
 refine⟨by simp[dD,qQ],λi d h=>?_⟩;unfold dD at h;unfold qQ;by_cases hi:i<own.length
 ·rw[List.getElem?_append_left (by simpa using hi),List.getElem?_map]at h
  cases q:own[i]? with
  | none=>rw[q]at h;simp at h
  | some z=>rw[q]at h;simp at h
 ·rw[List.getElem?_append_right (by simpa using hi),List.getElem?_map]at h⊢;simp only[List.length_map]at h⊢
  cases q:aD[i-own.length]? with
  | none=>rw[q]at h;simp at h
  | some k=>
   rw[q]at h;simp only[Option.map_some,Option.some.injEq]at h⊢
   cases r:a[k]? with
   | none=>rw[r]at h;simp at h
   | some z=>
    rw[r]at h;simp at h;subst h;obtain⟨v,b,c⟩:=E.2 k d r;exact⟨v,by rw[b];rfl,c⟩
end
section
variable {X:Cx}
def AG(X:Cx)(es:List Expr)(w:WT):Prop:=OH X es (FC X.K w)
theorem RB:AG X [] iM:=λpins s σ H Q I q=>PZ pins s σ H Q I (by
 obtain⟨μ,b,mh,R,a,En,h,F⟩:=q
 exact F true mh h μ H aI.refl a)
theorem RA{c:Expr}{t:WT}(h:LT X c t):AG X [c] t:=PY h
theorem FZ{wi:WI}{g:TG}{M:WG}{t:WT}{w:WE}{own:List Str}{aD:List Nat}(hr:gA X.K g M){σ:L2.St}(h:tL X.K (sH own aD wi M t w) σ H Q):tLC own aD (JS X.K wi) g (FC X.K t) (tL X.K w) σ H Q:=by
 intro _ _;obtain⟨μ,N,mh,R,RR,En,h,F⟩:=h;refine⟨μ,N,mh,_,RR,En,h,λds St U q μ1 J V P1 O It acc f=>?_⟩;have n:acc∉μ1:=λz=>O.ne f z rfl
 refine⟨λi m s H' =>∃μ' mh' d,aI μ1 V μ' H' /\Rep X.K μ' mh' H' /\acc∉μ' /\H' acc=some (.lst s)/\IsL X.K μ' H' d s/\d.length<=i/\i<=ds.length/\m=ds.length-i/\m4 M t w (dD own aD N) St R (ds.drop i) d mh',
  ⟨ds.length,μ1,U,[],aI.out aI.refl f,O.new f,n,aP,by unfold IsL;rfl,aFq _,aGm _,by simp,by simpa using q⟩,?_⟩
 rintro i m s H' ⟨μ',mh',d,o,u,v,W,Y,hd',hi',rfl,c⟩;refine⟨W,?_⟩;by_cases p:i<ds.length
 ·rw[List.drop_eq_getElem_cons p]at c;obtain⟨Z,c⟩:=c;obtain⟨hgo,hy⟩:=It.go μ' mh' H' (o.weak O) u Z i ds[i] (by simp[p]);refine .inr ⟨hgo,λr A=>∃k l j,aI μ1 V k A/\Rep X.K k l A/\acc∉k/\A acc=some (.lst r)/\IsL X.K k A j r/\j.length<=i+1/\m4 M t w (dD own aD N) St R (ds.drop (i+1)) j l,?_,λx H'' y=>?_⟩
  ·rintro r A ⟨k,l,j,P2,R2,ha2,e2,l2,hd2,c2⟩;exact⟨ds.length-(i+1),by lia,k,l,j,P2,R2,ha2,e2,l2,hd2,p,rfl,c2⟩
  ·obtain⟨P,S,Iy⟩:=hy x H'' y;obtain⟨hay,ey⟩:=P.away v W;have ly:=IsL.mono u P d s Y;have P0y:=P1.trans (o.trans P);refine hr x _ H'' _ μ' (dD own aD N) mh' _ _ S (En.mono RR P0y).emb Iy c λB q2 σ2 C=>?_;refine⟨μ',B,mh',_,S,C,q2,λb D q3 E H3 T R3=>?_⟩;obtain⟨G,e3⟩:=T.away hay ey;have l3:=IsL.mono S T d s ly;have I:=(o.trans P).trans T
   cases b with
   | false=>rw[if_neg Bool.false_ne_true]at q3⊢;exact⟨E,D,d,I,R3,G,e3,l3,by lia,q3⟩
   | true=>
    rw[if_pos rfl]at q3⊢;refine⟨by have:=It.small;rw[aW Y];lia,E,B,D,_,R3,C.mono S T,q3,λy mh4 q4 μ4 vy H4 P4 R4 I4=>?_⟩;obtain⟨L,e4⟩:=P4.away G e3;have hm:EN (H4 acc):=by rw[e4];trivial
    have l4:=IsL.mono R3 P4 d s l3;exact⟨e4,μ4,mh4,d++[y],aI.out (I.trans P4) f,R4.out hm L,L,aP,IsL.out hm _ _ (kS l4 (fI I4)),by simp;lia,q4⟩
 ·have e:i=ds.length:=by lia
  subst e;rw[List.drop_of_length_le (Nat.le_refl _)]at c;refine .inl ⟨It.stop μ' mh' H' (o.weak O) u c.1,?_⟩
  have Pa:aI μ1 V (μ' ++[acc]) H' :=⟨by obtain⟨t,rfl⟩:=o.pre;exact⟨t++[acc],by simp⟩,o.fr,λa ha=>by
   rcases aG5.mp ha with ha | ha
   ·exact o.nw a ha
   ·simp at ha;subst ha;exact .inr f⟩
  exact F _ _ c.2 (μ' ++[acc]) _ H' (P1.trans Pa) (u.Y4 v W Y) (by unfold Is;exact⟨acc,by rw[<-u.len];simp,rfl⟩)
theorem UD{tg iter a:Expr}{b:List Expr}{scope sc:Scope}{N:List Str}{pos:Pos}{wi:WI}{g:TG}{c:WG}{t:WT}{w:WE}(own:List Str)(aD:List Nat)
  (hN:X.N=N) (hsc:X.env.scope=sc) (chk:bW N sc scope aD=true) (cS:X.calm=true) (hi:LI X tg iter wi) (ho:j7 own.length g)
  (d:gA X.K g c)
  (hg:∀cl C fp s₀ H₀,PG (aG X own aD scope cl C fp s₀ H₀) tg g) (ht:∀cl C fp s₀ H₀,AG (aG X own aD scope cl C fp s₀ H₀) b t)
  (he:∀cl C fp s₀ H₀,LE (aG X own aD scope cl C fp s₀ H₀) a w)
  (e:∀x,foldedSetIterable iter X.env x=pure x:=by intro _;rfl):LE X (.ListComp a [⟨tg,iter,b,0⟩] scope pos) (sH own aD wi c t w):=
 PE.imp (aAk (wi:=JS X.K wi) (tt:=FC X.K t) (te:=tL X.K w) own aD hN hsc chk cS hi ho hg (λcl C fp s₀ H₀=>ht cl C fp s₀ H₀) (λcl C fp s₀ H₀=>he cl C fp s₀ H₀) e) λσ H Q h=>FZ d h
theorem LQ(i:Nat){x:Str}{a e:Pos}{tg iter b:Expr}{c:List Expr}{scope sc:Scope}{N:List Str}{pos:Pos}{wi:WI}{g:TG}{f:WG}{t:WT}{w:WE}(nd:X.N.Nodup)(own:List Str)(aD:List Nat)
  (hN:X.N=N) (hsc:X.env.scope=sc) (chk:bW N sc scope aD=true) (cS:X.calm=true) (hi:LI X tg iter wi) (ho:j7 own.length g)
  (j:gA X.K g f)
  (hg:∀cl C fp s₀ H₀,PG (aG X own aD scope cl C fp s₀ H₀) tg g) (ht:∀cl C fp s₀ H₀,AG (aG X own aD scope cl C fp s₀ H₀) c t)
  (he:∀cl C fp s₀ H₀,LE (aG X own aD scope cl C fp s₀ H₀) b w)
  (d:X.N[i]? =some x:=by rfl) (k:Loc X.env.scope x:=by first | exact Or.inl rfl | exact Or.inr rfl) (l:swapsWith (.ListComp b [⟨tg,iter,c,0⟩] scope pos) (some (.Name x a)) e.line X.env=pure true:=by rfl) (m:X.fn x=true\/X.env.scope.names.lookup x=some .local:=by first | exact .inl rfl | exact .inr rfl | assumption)
  (n:∀x,foldedSetIterable iter X.env x=pure x:=by intro _;rfl):LS X (.Assign [.Name x a] (.ListComp b [⟨tg,iter,c,0⟩] scope pos) e) (bJ (sH own aD wi f t w) (gN i)):=
 PS.imp (KO (wi:=JS X.K wi) (tt:=FC X.K t) (te:=tL X.K w) own aD hN hsc chk cS hi ho hg (λcl C fp s₀ H₀=>ht cl C fp s₀ H₀) (λcl C fp s₀ H₀=>he cl C fp s₀ H₀) nd d k l m n) λD σ H h=>FZ j (zZ (sV i) h)
end
mutual
def oA(n:Nat):D->Bool
 | .ref k=>decide (k<n)
 | .tup ds=>eO n ds
 | .fl ds=>eO n ds
 | _=>true
def eO(n:Nat):List D->Bool
 | []=>true
 | d::ds=>oA n d && eO n ds
end
def aB2(n:Nat):MO->Bool
 | .lst ds=>eO n ds
 | .bI _ kvs=>eO n (kvs.map (·.2))
 | .eY _ kvs _=>eO n (kvs.map (·.2))
 | .oth ds _=>eO n ds
def oV(mh:MH):Prop:=∀o∈mh,aB2 mh.length o=true
section
variable {K:aJn}{μ:List Addr}{mh:MH}{H:Hp}
mutual
theorem PQ:∀(d:D) (v:V),Is K μ H d v->oA μ.length d=true
 | .bU,v,h=>rfl
 | .bl _,v,h=>rfl
 | .int _,v,h=>rfl
 | .str _,v,h=>rfl
 | .ty _,v,h=>rfl
 | .tup ds,v,h=>by obtain⟨a,vs,_,_,l⟩:=dB h;simpa[oA] using fT ds vs l
 | .fl ds,v,h=>by obtain⟨a,vs,_,_,l⟩:=oC h;simpa[oA] using fT ds vs l
 | .ref n,v,h=>by obtain⟨a,e,_⟩:=jG h;simpa[oA] using (aFp.mp e).1
theorem fT:∀(ds:List D) (vs:List V),IsL K μ H ds vs->eO μ.length ds=true
 | [],vs,h=>rfl
 | d::ds,vs,h=>by
  unfold IsL at h;obtain⟨v,r,_,i,l⟩:=h;simp only[eO,PQ d v i,fT ds r l,Bool.and_self]
end
theorem Rep.mok(R:Rep K μ mh H):oV mh:=λo ho=>by
 obtain⟨n,a⟩:=aGw.mp ho;have b:n<μ.length:=by rw[R.len];exact(aFp.mp a).1
 have h:=R.obj n μ[n] o (by simp[b]) a;rw[<-R.len]
 cases o with
 | lst ds=>obtain⟨vs,_,l⟩:=h;exact fT ds vs l
 | bI t kvs=>obtain⟨vs,_,l⟩:=h;exact fT _ vs l
 | eY t kvs ob=>obtain⟨vs,_,_,_,l⟩:=h;exact fT _ vs l
 | oth ds f=>obtain⟨vs,_,l⟩:=h;exact fT _ vs l
mutual
theorem Is.cut{n:Nat}:∀(d:D) (v:V),oA n d=true->Is K μ H d v->Is K (μ.take n) H d v
 | .bU,v,_,h=>by unfold Is at*;exact h
 | .bl _,v,_,h=>by unfold Is at*;exact h
 | .int _,v,_,h=>by unfold Is at*;exact h
 | .str _,v,_,h=>by unfold Is at*;exact h
 | .ty _,v,_,h=>by unfold Is at*;exact h
 | .tup ds,v,b,h=>by unfold Is at*;obtain⟨a,vs,e,s,l⟩:=h;exact⟨a,vs,e,s,IsL.cut ds vs (by simpa[oA] using b) l⟩
 | .fl ds,v,b,h=>by unfold Is at*;obtain⟨a,vs,e,s,l⟩:=h;exact⟨a,vs,e,s,IsL.cut ds vs (by simpa[oA] using b) l⟩
 | .ref k,v,b,h=>by unfold Is at*;obtain⟨a,e,q⟩:=h;exact⟨a,by rw[List.getElem?_take_of_lt (by simpa[oA] using b)];exact e,q⟩
theorem IsL.cut{n:Nat}:∀(ds:List D) (vs:List V),eO n ds=true->IsL K μ H ds vs->IsL K (μ.take n) H ds vs
 | [],vs,_,h=>by unfold IsL at*;exact h
 | d::ds,vs,b,h=>by
  unfold IsL at*;simp only[eO,Bool.and_eq_true]at b;obtain⟨v,r,e,i,l⟩:=h;exact⟨v,r,e,Is.cut d v b.1 i,IsL.cut ds r b.2 l⟩
end
theorem Rep.cut{c d:MH}(R:Rep K μ (c++d) H)(ok:oV c):Rep K (μ.take c.length) c H:=by
 have k:c.length<=μ.length:=by rw[R.len];simp
 refine⟨by simp[k],List.Nodup.sublist (aHm _ _) R.nd,λn a o i g=>?_⟩;have j:n<c.length:=(aFp.mp g).1;rw[List.getElem?_take_of_lt j]at i;have h:=R.obj n a o i (by rw[List.getElem?_append_left j];exact g);have b:=ok o (aFx g)
 cases o with
 | lst ds=>obtain⟨vs,e,l⟩:=h;exact⟨vs,e,IsL.cut ds vs b l⟩
 | bI t kvs=>obtain⟨vs,e,l⟩:=h;exact⟨vs,e,IsL.cut _ vs b l⟩
 | eY t kvs ob=>obtain⟨vs,u,e,m,l⟩:=h;exact⟨vs,u,e,m,IsL.cut _ vs b l⟩
 | oth ds f=>obtain⟨vs,e,l⟩:=h;exact⟨vs,e,IsL.cut ds vs b l⟩
end
def Out(n:Nat)(d:D)(c:MH)(R:DK):Prop:=R d c\/(∃a b,c=a++b/\n<=a.length/\oV a/\oA a.length d=true/\R d a)\/
 ∃a b j o,c=a++b/\n<=a.length/\oV a/\d= .ref j/\a.length<=j/\c[j]? =some o/\aB2 a.length o=true/\R (.ref a.length) (a++[o])
variable{mh:MH}
theorem QR(E:Rep K μ mh H)(F:Fin K μ H R Q):Fin K μ H (λd w=>Out mh.length d w R) Q:=by
 intro d w h μ1 v x m y C
 have key:∀{g:MH},mh.length<=g.length->∃t,μ1.take g.length=μ++t:=λ{g} i=>by
  obtain⟨t,rfl⟩:=m.pre;rw[List.take_append,List.take_of_length_le (by rw[E.len];exact i)];exact⟨_,rfl⟩
 rcases h with h | ⟨g,A,rfl,i,ok,b,h⟩ | ⟨g,A,j,o,rfl,i,ok,rfl,I,ho,b,h⟩
 ·exact F d w h μ1 v x m y C
 ·exact F d g h (μ1.take g.length) v x ⟨key i,m.fr,λa s=>m.nw a (aGy s)⟩ (y.cut ok) (Is.cut d v b C)
 ·have B:=y.cut ok;obtain⟨a,s,rfl⟩:=jG C;have r:=y.obj j a o s ho;have p:(μ1.take g.length).length=g.length:=B.len
  have q:a∉μ1.take g.length:=λz=>by
   obtain⟨k,hk⟩:=aGw.mp z;have D:k<g.length:=by have:=(aFp.mp hk).1;lia
   rw[List.getElem?_take_of_lt D]at hk;have:=w4 y.nd hk s
   lia
  cases o with
  | lst ds=>
   obtain⟨vs,e,l⟩:=r;refine F _ _ h (μ1.take g.length++[a]) _ x ⟨?_,m.fr,λc hc=>?_⟩ (B.Y4 q e (IsL.cut ds vs b l)) (by unfold Is;exact⟨a,by rw[<-p];simp,rfl⟩)
   ·obtain⟨t,ht⟩:=key i;exact⟨t++[a],by rw[ht];simp⟩
   ·rcases aG5.mp hc with hc | hc
    ·exact m.nw c (aGy hc)
    ·simp at hc;subst hc;exact m.nw c (aFx s)
  | bI t kvs=>
   obtain⟨vs,e,l⟩:=r;refine F _ _ h (μ1.take g.length++[a]) _ x ⟨?_,m.fr,λc hc=>?_⟩ (B.IY q ⟨vs,e,IsL.pre (λn a h=>by rw[List.getElem?_append_left (List.getElem?_eq_some_iff.mp h).1];exact h) _ vs (IsL.cut _ vs b l)⟩) (by unfold Is;exact⟨a,by rw[<-p];simp,rfl⟩)
   ·obtain⟨t,ht⟩:=key i;exact⟨t++[a],by rw[ht];simp⟩
   ·rcases aG5.mp hc with hc | hc
    ·exact m.nw c (aGy hc)
    ·simp at hc;subst hc;exact m.nw c (aFx s)
  | oth ds f=>
   obtain⟨vs,e,l⟩:=r;refine F _ _ h (μ1.take g.length++[a]) _ x ⟨?_,m.fr,λc hc=>?_⟩ (B.IY q ⟨vs,e,IsL.pre (λn a h=>by rw[List.getElem?_append_left (List.getElem?_eq_some_iff.mp h).1];exact h) _ vs (IsL.cut _ vs b l)⟩) (by unfold Is;exact⟨a,by rw[<-p];simp,rfl⟩)
   ·obtain⟨t,ht⟩:=key i;exact⟨t++[a],by rw[ht];simp⟩
   ·rcases aG5.mp hc with hc | hc
    ·exact m.nw c (aGy hc)
    ·simp at hc;subst hc;exact m.nw c (aFx s)
  | eY t kvs ob=>
   obtain⟨vs,u,e,G,l⟩:=r;refine F _ _ h (μ1.take g.length++[a]) _ x ⟨?_,m.fr,λc hc=>?_⟩ (B.IY q ⟨vs,u,e,G,IsL.pre (λn a h=>by rw[List.getElem?_append_left (List.getElem?_eq_some_iff.mp h).1];exact h) _ vs (IsL.cut _ vs b l)⟩) (by unfold Is;exact⟨a,by rw[<-p];simp,rfl⟩)
   ·obtain⟨t,ht⟩:=key i;exact⟨t++[a],by rw[ht];simp⟩
   ·rcases aG5.mp hc with hc | hc
    ·exact m.nw c (aGy hc)
    ·simp at hc;subst hc;exact m.nw c (aFx s)
def aQ(N:List Str)(ds:List D):c9:=ds.map some++List.replicate (N.length-ds.length) none
variable{N:List Str}{ds:List D}
theorem JW{vs:List V}(l:IsL K μ H ds vs):bX K μ H (aQ N ds) (L2.start N vs):=by
 have a:=aW l;refine⟨by simp[aQ,L2.start,a],λi d h=>?_⟩;unfold aQ at h;unfold L2.start;by_cases hi:i<ds.length
 ·rw[List.getElem?_append_left (by simpa using hi),List.getElem?_map]at h;obtain⟨d',b,c⟩:=aFw.mp h;cases c;obtain⟨v,e,f⟩:=eQ l b;exact⟨v,by rw[List.getElem?_append_left (by simpa[a] using hi),List.getElem?_map,e];rfl,f⟩
 ·rw[List.getElem?_append_right (by simpa using hi)]at h;obtain⟨_,h⟩:=aFp.mp h;simp at h
section
variable {P:Program}{w:World}{K:aJn}{mg:aJq}{base:Heap}
theorem aCa{x qual:Str}{st:Stmt}{f:Addr}{fd:FuncData}{N ps:List Str}{k:Nat}{s:OA}{wB:WS}(F:ZM K x qual st f fd)(S:bC N ps (aE st))(len:∀ds mh R,s ds mh R->ds.length=ps.length)
  (g:∀(cdv:Value) (A:Around) (outer:List Env) (s:Shared) (H:Hp) (E:XK),f9 k (A.deeper (envOfC qual (aE st) s.heap.objs.size f cdv))->
   lR (uW CM P w K mg base N qual (aE st) f cdv A outer s H E).Q2 (cJ st) wB)
  (i:∀ds mh R,oV mh->eO mh.length ds=true->s ds mh R->wB {nx:=λ_ a=>Out mh.length .bU a R,rt:=λd a=>Out mh.length d a R} (aQ N ds) mh):j8 P w K mg base CM (k+1) f fd ps (OF K s):=by
 refine F.ok S (λvs H Q E h=>?_) (λcdv A outer j H vs Q E l h=>?_)
 ·obtain⟨μ,mh,ds,R,b,c,h,_⟩:=h;rw[aW c];exact len ds mh R h
 ·obtain⟨μ,mh,ds,R,b,c,h,m⟩:=h;refine⟨_,g cdv A outer j H E l,μ,aQ N ds,mh,_,b,JW c,i ds mh R b.mok (by rw[<-b.len];exact fT ds vs c) h,?_⟩;have e:=QR b m;exact⟨λn mh' q μ' o H' p r t =>e .bU mh' q μ' .bU H' p r .bU,e,λ_ _ q=>False.elim q,λ_ _ q=>False.elim q⟩
end
def Fn(P:Program)(w:World)(K:aJn)(mg:aJq)(base:Heap)(k:Nat)(x:Str)(ps:List Str)(s:OA):Prop:=
 ∃f fd,j8 P w K mg base CM k f fd ps (OF K s)/\mg x=some (.ref f)/\PySem.W.keepIn K (.ref f)=true/\Binds K fd ps []
variable{P:Program}{w:World}{mg:aJq}{x:Str}{ps:List Str}
theorem Fn.mono{base:Heap}{j k:Nat}{s:OA}(h:Fn P w K mg base j x ps s)(hk:j<=k):Fn P w K mg base k x ps s:=
 let ⟨f,fd,a,b,c,d⟩:=h;⟨f,fd,a.mono hk,b,c,d⟩
theorem Fn.imp{base:Heap}{k:Nat}{s g :OA}(h:Fn P w K mg base k x ps s)(hi:∀ds mh R,g ds mh R->s ds mh R):Fn P w K mg base k x ps g :=
 let ⟨f,fd,a,b,c,d⟩:=h;⟨f,fd,a.imp λvs H Q E e=>by obtain⟨μ,mh,ds,R,r1,r2,r3,i⟩:=e;exact⟨μ,mh,ds,R,r1,r2,hi ds mh R r3,i⟩,b,c,d⟩
section
variable {X:Cx}{e:Expr}{es:List Expr}{wr:WA}{pos p:Pos}{x:Str}
theorem L0{k:Nat}{s:OA}(F:Fn X.prog X.w X.K X.mg X.base k x ps s)(i:f9 k X.A)(j:LA X (e::es) wr)(hg:Gl X x:=by rfl)(g:(x==("__debug__":Str))=false:=by decide)
  (he:starEach (e::es) X.env=(false,eval e X.env)::starEach es X.env:=by rfl) (h:(backTo pos (starEach es X.env)).any (·.1)=false:=by rfl):LE X (.Call (.Name x p) (e::es) [] pos) (aH s wr):=by
 obtain⟨f,fd,a,b,c,d⟩:=F;exact RU a i hg b c d j g he h
theorem LV{T:String}(a:X.mg x=none)(hv:bootBuiltins x=some (.type T))(hg:Gl X x:=by rfl)(b:x≠ "__name__":=by decide)(hd:(x==("__debug__":Str))=false:=by decide):LE X (.Name x pos) (wC (.ty T)):=RM hg a hv b hd
theorem aBh{id:String}{f:OA}(c:cB X (.builtin id) (dJ X.K f))(d:X.mg x=none)(hv:bootBuiltins x=some (.builtin id))(g:LA X (e::es) wr)(hg:Gl X x:=by rfl)(h:x≠ "__name__":=by decide)(a:(x==("__debug__":Str))=false:=by decide)
  (he:starEach (e::es) X.env=(false,eval e X.env)::starEach es X.env:=by rfl) (b:(backTo pos (starEach es X.env)).any (·.1)=false:=by rfl):LE X (.Call (.Name x p) (e::es) [] pos) (aH f wr):=L6 c hg d hv g h a he b
theorem aBf{T:String}{f:OA}(c:cB X (.type T) (dJ X.K f))(d:X.mg x=none)(hv:bootBuiltins x=some (.type T))(g:LA X (e::es) wr)(hg:Gl X x:=by rfl)(h:x≠ "__name__":=by decide)(a:(x==("__debug__":Str))=false:=by decide)
  (he:starEach (e::es) X.env=(false,eval e X.env)::starEach es X.env:=by rfl) (b:(backTo pos (starEach es X.env)).any (·.1)=false:=by rfl):LE X (.Call (.Name x p) (e::es) [] pos) (aH f wr):=HR c hg d hv g h a he b
theorem OZ(i:Nat)(hN:X.N.Nodup)(hi:X.N[i]? =some x:=by rfl)(a:Loc X.env.scope x:=by first | exact Or.inl rfl | exact Or.inr rfl)(b:X.fn x=true\/X.env.scope.names.lookup x=some .local:=by first | exact .inl rfl | exact .inr rfl):PG X (.Name x pos) (oD i):=QI hN hi a b
theorem aB4{a:CmpOp}(b:Expr)(h:a≠ .In:=by decide)(c:a≠ .NotIn:=by decide):behindInMarks a b=false:=K6 b h c
end
structure Bl(mg:aJq):Prop where
 len:mg "len"=none
 range:mg "range"=none
 zip:mg "zip"=none
 all:mg "all"=none
 any:mg "any"=none
 abs:mg "abs"=none
 min:mg "min"=none
 max:mg "max"=none
 isinstance:mg "isinstance"=none
 sorted:mg "sorted"=none
 int:mg "int"=none
 str:mg "str"=none
 bool:mg "bool"=none
 list:mg "list"=none
 tuple:mg "tuple"=none
 set:mg "set"=none
 dict:mg "dict"=none
 sum:mg "sum"=none
 enumerate:mg "enumerate"=none
theorem YW:bootBuiltins "int"=some (.type "int"):=by decide+kernel
theorem S0:bootBuiltins "bool"=some (.type "bool"):=by decide+kernel
theorem GP:bootBuiltins "list"=some (.type "list"):=by decide+kernel
theorem u6:bootBuiltins "tuple"=some (.type "tuple"):=by decide+kernel
theorem YU:bootBuiltins "set"=some (.type "set"):=by decide+kernel
theorem NV:bootBuiltins "len"=some (.builtin "len"):=by decide+kernel
theorem YY:bootBuiltins "all"=some (.builtin "all"):=by decide+kernel
theorem YX:bootBuiltins "any"=some (.builtin "any"):=by decide+kernel
theorem YZ:bootBuiltins "abs"=some (.builtin "abs"):=by decide+kernel
theorem YV:bootBuiltins "min"=some (.builtin "min"):=by decide+kernel
theorem vZ:bootBuiltins "isinstance"=some (.builtin "isinstance"):=by decide+kernel
theorem nL:bootBuiltins "sorted"=some (.builtin "sorted"):=by decide+kernel
def oLt:O2:=λx y mh Q=>match x with
 | .int i=>match y with | .int j=>Q (.bl (decide (i<j))) mh | _=>False
 | .str a=>match y with | .str b=>Q (.bl (decide (a.cps.toList<b.cps.toList))) mh | _=>False
 | _=>False
def oLe:O2:=λx y mh Q=>match x with
 | .int i=>match y with | .int j=>Q (.bl (decide (i<=j))) mh | _=>False
 | .str a=>match y with | .str b=>Q (.bl (!decide (b.cps.toList<a.cps.toList))) mh | _=>False
 | _=>False
def Q1:O2:=λx y mh Q=>match x with
 | .int i=>match y with | .int j=>Q (.bl (decide (j<i))) mh | _=>False
 | _=>False
section
variable {X:Cx}
theorem aAv(g:X.A.units+64<cLine):dP X (compareOp .Lt) (bE X.K oLt):=by
 intro pins s σ H x y v u Q I a b q;obtain⟨μ,mh,dx,c,R,d,e,f,q,F⟩:=q
 cases dx with
 | int i=>cases c with
  | int j=>cases bR e;cases bR f;exact aAq pins s σ H _ _ v u Q I a b ⟨i,j,rfl,rfl,F.here d q .bl⟩
  | _=>exact False.elim q
 | str i=>cases c with
  | str j=>cases dC e;cases dC f;exact HA pins s σ H _ _ v u Q I a b ⟨i,j,rfl,rfl,F.here d q .bl⟩
  | _=>exact False.elim q
 | _=>exact False.elim q
theorem aAw(g:X.A.units+64<cLine):dP X (compareOp .LtE) (bE X.K oLe):=by
 intro pins s σ H x y v u Q I a b q;obtain⟨μ,mh,dx,c,R,d,e,f,q,F⟩:=q
 cases dx with
 | int i=>cases c with
  | int j=>cases bR e;cases bR f;exact aAr pins s σ H _ _ v u Q I a b ⟨i,j,rfl,rfl,F.here d q .bl⟩
  | _=>exact False.elim q
 | str i=>cases c with
  | str j=>
   cases dC e;cases dC f;obtain⟨t,rfl⟩:=a;obtain⟨t',rfl⟩:=b;exact PySem.P.le_str ⟨.bl (!decide (j.cps.toList<i.cps.toList)),H,I,by show _=_;first | rfl | (congr 1;simp),F.here d q .bl⟩
  | _=>exact False.elim q
 | _=>exact False.elim q
theorem aAy(g:X.A.units+64<cLine):dP X (compareOp .Gt) (bE X.K Q1):=by
 intro pins s σ H x y v u Q I a b q;obtain⟨μ,mh,dx,c,R,d,e,f,q,F⟩:=q
 cases dx with
 | int i=>cases c with
  | int j=>cases bR e;cases bR f;exact aAs pins s σ H _ _ v u Q I a b ⟨i,j,rfl,rfl,F.here d q .bl⟩
  | _=>exact False.elim q
 | _=>exact False.elim q
end
variable{α:Type}
def got(o:Option α)(k:α->Prop):Prop:=match o with | some a=>k a | none=>False
@[simp] theorem aF (a:α)(k:α->Prop):got (some a) k=k a:=rfl
@[simp] theorem aC7 (k:α->Prop):got none k=False:=rfl
theorem eR(o:Option α)(k:α->Prop):(∃a,o=some a/\k a)↔got o k:=by
 cases o <;> simp[got]
def ZJ:D->Option Bool | .bl b=>some b | _=>none
def asI:D->Option Int | .int i=>some i | _=>none
@[simp] theorem c7 (b:Bool):ZJ (.bl b)=some b:=rfl
@[simp] theorem aDc (i:Int):asI (.int i)=some i:=rfl
theorem exB(x:D)(P:Bool->Prop):(∃k,x= .bl k/\P k)=got (ZJ x) P:=by
 apply propext
 cases x with
 | bl b=>exact⟨λa=>by obtain⟨k,e,h⟩:=a;cases e;exact h,λh=>⟨b,rfl,h⟩⟩
 | _=>exact⟨λc=>by obtain⟨k,e,h⟩:=c;exact(by cases e),λh=>False.elim h⟩
theorem exI(x:D)(P:Int->Prop):(∃k,x= .int k/\P k)=got (asI x) P:=by
 apply propext
 cases x with
 | int b=>exact⟨λa=>by obtain⟨k,e,h⟩:=a;cases e;exact h,λh=>⟨b,rfl,h⟩⟩
 | _=>exact⟨λc=>by obtain⟨k,e,h⟩:=c;exact(by cases e),λh=>False.elim h⟩
section
variable {mh:MH}{Q:DK}{ρ:c9}
@[simp] theorem J4 (i:Nat):aA i ρ mh Q↔got ((ρ[i]?).join) λd=>Q d mh:=by
 unfold aA
 cases h:ρ[i]? with
 | none=>simp
 | some o=>cases o <;> simp
@[simp] theorem s_c (d:D):wC d ρ mh Q=(Q d mh):=rfl
@[simp] theorem aA1 (f:O2)(a b:WE):bD f a b ρ mh Q=(a ρ mh λx c=>b ρ c λy d=>f x y d Q):=rfl
@[simp] theorem s_un (f:O1)(a:WE):ZA f a ρ mh Q=(a ρ mh λx b=>f x b Q):=rfl
@[simp] theorem aD0 (f g:O2)(a b c:WE):tE f g a b c ρ mh Q↔a ρ mh λx e=>b ρ e λy h=>f x y h λz d=>got (ZJ z) λk=>if k=true then c ρ d λu i=>g y u i Q else Q (.bl false) d:=by unfold tE;simp only[exB]
@[simp] theorem aA2 (R:List D->MH->Prop):aJ ρ mh R=(R [] mh):=rfl
@[simp] theorem U5 (a:WE)(r:WA)(R:List D->MH->Prop):aB a r ρ mh R=(a ρ mh λx b=>r ρ b λxs c=>R (x::xs) c):=rfl
@[simp] theorem s_call (f:OA)(a:WA):aH f a ρ mh Q=(a ρ mh λds b=>f ds b Q):=rfl
@[simp] theorem s_tup (a:WA):lO a ρ mh Q=(a ρ mh λds b=>ds.length<=sizeLine/\Q (.tup ds) b):=rfl
@[simp] theorem s_lst (a:WA):nM a ρ mh Q=(a ρ mh λds b=>ds.length<=sizeLine/\Q (.ref b.length) (b++[.lst ds])):=rfl
@[simp] theorem aEj (a b:WE):wJ a b ρ mh Q↔a ρ mh λx d=>got (ZJ x) λc=>if c=true then b ρ d Q else Q (.bl false) d:=by unfold wJ;simp only[exB]
@[simp] theorem aE5 (a:WE):E6 a ρ mh Q↔a ρ mh λx b=>got (ZJ x) λc=>Q (.bl !c) b:=by unfold E6;simp only[exB]
@[simp] theorem s_sl (f:OS)(a:WE)(l h:WO):ZP f a l h ρ mh Q=(a ρ mh λx b=>l ρ b λlo c=>h ρ c λhi d=>f x lo hi d Q):=rfl
@[simp] theorem s_no (R:Option Int->MH->Prop):wNo ρ mh R=(R none mh):=rfl
@[simp] theorem aE4 (a:WE)(R:Option Int->MH->Prop):AO a ρ mh R↔a ρ mh λx b=>got (asI x) λi=>R (some i) b:=by unfold AO;simp only[exI]
@[simp] theorem s_mt (T:String)(f:OM)(a:WE)(r:WA):OD T f a r ρ mh Q=(a ρ mh λx b=>MF b T x/\r ρ b λds c=>f x ds c Q):=rfl
@[simp] theorem s_lc (own:List Str)(aD:List Nat)(i:WI)(g:WG)(t:WT)(a:WE):sH own aD i g t a ρ mh Q=(i ρ mh λds St b=>m4 g t a (dD own aD ρ) St Q ds [] b):=rfl
variable {R:Bool->MH->Prop}
@[simp] theorem aA0 (a:WE):cL a ρ mh R↔a ρ mh λx b=>got (ZJ x) λk=>R k b:=by unfold cL;simp only[exB]
@[simp] theorem s_tru (a:WE):mB a ρ mh R↔a ρ mh λx b=>got (jA b x) λk=>R k b:=by
 unfold mB
 have:(λx b=>∃k,jA b x=some k/\R k b)=λx b=>got (jA b x) λk=>R k b:=by
  funext x m;exact propext (eR _ _)
 rw[this]
@[simp] theorem aEk (t u:WT):lD t u ρ mh R=(t ρ mh λc a=>if c=true then u ρ a R else R false a):=rfl
@[simp] theorem s_orT (t u:WT):x4 t u ρ mh R=(t ρ mh λc a=>if c=true then R true a else u ρ a R):=rfl
@[simp] theorem aE6 (t:WT):lC t ρ mh R=(t ρ mh λc a=>R (!c) a):=rfl
@[simp] theorem FJ:iM ρ mh R=(R true mh):=rfl
variable {E:iK}
@[simp] theorem aE8:cU E ρ mh=(E.nx ρ mh):=rfl
@[simp] theorem s_seq (t u:WS):aV t u E ρ mh=(t {E with nx:=u E} ρ mh):=rfl
@[simp] theorem aEg (a:WE):mC a E ρ mh=(a ρ mh λ_ b=>E.nx ρ b):=rfl
@[simp] theorem s_ret (a:WE):dA a E ρ mh=(a ρ mh E.rt):=rfl
@[simp] theorem aA5 (t:WT)(a b:WS):fY t a b E ρ mh=(t ρ mh λc d=>if c=true then a E ρ d else b E ρ d):=rfl
@[simp] theorem aA7 (a:WE)(g:WG):bJ a g E ρ mh=(a ρ mh λd b=>g d ρ λc =>E.nx c b):=rfl
@[simp] theorem aDz (a o i:WE):EZ a o i E ρ mh=(a ρ mh λd b=>o ρ b λob c=>i ρ c λg e=>O6 ob g d e λf=>E.nx ρ f):=rfl
@[simp] theorem s_for (i:WI)(g:WG)(b:WS):i9 i g b E ρ mh=(i ρ mh λds St a=>mQ g b E St ds ρ a):=rfl
@[simp] theorem aEe (i:Nat)(d:D)(P:c9->Prop):gN i d ρ P=(P (ρ.set i (some d))):=rfl
@[simp] theorem aCy (P:c9->Prop):iX [] ρ P↔P ρ:=by simp[iX]
@[simp] theorem aA6 (t:WG)(u:S8)(d:D)(r:List D)(P:c9->Prop):bS t u (d::r) ρ P↔t d ρ λc =>u r c P:=⟨λf=>by obtain⟨a,b,e,h⟩:=f;cases e;exact h,λh=>⟨d,r,rfl,h⟩⟩
@[simp] theorem s_gT (n:Nat)(u:S8)(ds:List D)(P:c9->Prop):gT n u (.tup ds) ρ P↔ds.length=n/\u ds ρ P:=by
 unfold gT;exact⟨λa=>by obtain⟨es,e,h⟩:=a;cases e;exact h,λh=>⟨ds,rfl,h⟩⟩
@[simp] theorem aE0 (a:WE)(P:List D->(MH->Prop)->MH->Prop):dH a ρ mh P↔a ρ mh λx b=>got (aX b x) λds=>P ds (λmh' =>aX mh' x=some ds) b:=by
 unfold dH
 have:(λx b=>∃ds,aX b x=some ds/\P ds (λmh' =>aX mh' x=some ds) b)=λx b=>got (aX b x) λds=>P ds (λmh' =>aX mh' x=some ds) b:=by
  funext x m;exact propext (eR _ _)
 rw[this]
@[simp] theorem aE2 (a:WA)(P:List D->(MH->Prop)->MH->Prop):pA a ρ mh P=(a ρ mh λds b=>∃j,ds=[.int j]/\ -(2^62)<=j/\j<=sizeLine/\P (jC 0 j.toNat) (λ_=>True) b):=rfl
@[simp] theorem aE1 (a:WA)(P:List D->(MH->Prop)->MH->Prop):E4 a ρ mh P=(a ρ mh λds b=>∃i j,ds=[.int i,.int j]/\ -(2^62)<=i/\i<2^62/\ -(2^62)<=j/\j<2^62/\j-i<=sizeLine/\P (jC i (j-i).toNat) (λ_=>True) b):=rfl
@[simp] theorem aDx (a:WA)(P:List D->(MH->Prop)->MH->Prop):tD a ρ mh P↔a ρ mh λxs b=>match xs with
  | [x,y]=>got (aX b x) λds=>got (aX b y) λes=>ds.length<=sizeLine/\P (lN ds es) (λmh' =>aX mh' x=some ds/\aX mh' y=some es) b
  | _=>False:=by
 unfold tD
 have:(λxs b=>∃x y ds es,xs=[x,y]/\aX b x=some ds/\aX b y=some es/\ds.length<=sizeLine/\P (lN ds es) (λmh' =>aX mh' x=some ds/\aX mh' y=some es) b)=λxs b=>match xs with
  | [x,y]=>got (aX b x) λds=>got (aX b y) λes=>ds.length<=sizeLine/\P (lN ds es) (λmh' =>aX mh' x=some ds/\aX mh' y=some es) b
  | _=>False:=by
  funext xs m;apply propext
  match xs with
  | []=>simp
  | [_]=>simp
  | [x,y]=>
   simp only[<-eR];constructor
   ·rintro⟨f,g,ds,es,e,c,d,h⟩;cases e;exact⟨ds,c,es,d,h⟩
   ·rintro⟨ds,c,es,d,h⟩;exact⟨x,y,ds,es,rfl,c,d,h⟩
  | _::_::_::_=>simp
 rw[this]
@[simp high] theorem aD7 (b:Int)(P:Int->Prop):(∃c,[D.int b]=[D.int c]/\P c)↔P b:=⟨λa=>by obtain⟨c,e,h⟩:=a;cases e;exact h,λh=>⟨b,rfl,h⟩⟩
@[simp high] theorem aD6 (a b:Int)(P:Int->Int->Prop):(∃c d,[D.int a,D.int b]=[D.int c,D.int d]/\P c d)↔P a b:=⟨λf=>by obtain⟨c,d,e,h⟩:=f;cases e;exact h,λh=>⟨a,b,rfl,h⟩⟩
@[simp] theorem J6 (C:Int->Int->Prop)(g:Int->Int->D)(i j:Int):A8 C g (.int i) (.int j) mh Q↔C i j/\Q (g i j) mh:=by
 unfold A8;exact⟨λc=>by obtain⟨a,b,e,f,h⟩:=c;cases e;cases f;exact h,λh=>⟨i,j,rfl,rfl,h⟩⟩
@[simp] theorem s_neg (i:Int):HE (.int i) mh Q↔Q (.int (-i)) mh:=by
 unfold HE;exact⟨λb=>by obtain⟨a,e,h⟩:=b;cases e;exact h,λh=>⟨i,rfl,h⟩⟩
@[simp] theorem J9 (i j:Int):iN (.int i) (.int j) mh Q=(Q (.int (i+j)) mh):=rfl
@[simp] theorem aEn (i j:Str):iN (.str i) (.str j) mh Q=(i.length+j.length<=sizeLine/\Q (.str (i++j)) mh):=rfl
@[simp] theorem aEm (i j:List D):iN (.tup i) (.tup j) mh Q=(i.length+j.length<=sizeLine/\Q (.tup (i++j)) mh):=rfl
theorem J8{n m:Nat}{i j:List D}(d:mh[n]? =some (.lst i))(g:mh[m]? =some (.lst j)):iN (.ref n) (.ref m) mh Q↔(i++j).length<=sizeLine/\Q (.ref mh.length) (mh++[.lst (i++j)]):=by
 show (∃i j,mh[n]? =some (.lst i)/\mh[m]? =some (.lst j)/\DG (i++j) mh Q)↔_;rw[d,g];exact⟨λc=>by obtain⟨a,b,e,f,h⟩:=c;cases e;cases f;exact h,λh=>⟨i,j,rfl,rfl,h⟩⟩
@[simp] theorem FL (ds:List D)(i:Int):iL (.tup ds) (.int i) mh Q↔got (oS ds i) λd=>Q d mh:=by
 unfold iL;rw[<-eR];exact⟨λb=>by obtain⟨a,e,es,d,f,g,h⟩:=b;cases e;cases f;exact⟨d,g,h⟩,λc=>by obtain⟨d,f,h⟩:=c;exact⟨i,rfl,ds,d,rfl,f,h⟩⟩
@[simp] theorem aA4 (ds:List D)(i:Int):iL (.fl ds) (.int i) mh Q↔got (oS ds i) λd=>Q d mh:=by
 unfold iL;rw[<-eR];exact⟨λb=>by obtain⟨a,e,es,d,f,g,h⟩:=b;cases e;cases f;exact⟨d,g,h⟩,λc=>by obtain⟨d,f,h⟩:=c;exact⟨i,rfl,ds,d,rfl,f,h⟩⟩
variable{n:Nat}
theorem mL(h:mh[n]? =some (.lst ds))(i:Int):iL (.ref n) (.int i) mh Q↔got (oS ds i) λd=>Q d mh:=by
 unfold iL;rw[<-eR];have e:aX mh (.ref n)=some ds:=by simp[aX,h]
 exact⟨λb=>by obtain⟨a,j,es,d,f,k,g⟩:=b;cases j;rw[e]at f;cases f;exact⟨d,k,g⟩,λc=>by obtain⟨d,f,g⟩:=c;exact⟨i,rfl,ds,d,e,f,g⟩⟩
@[simp] theorem TY (i j:Int):oLt (.int i) (.int j) mh Q=(Q (.bl (decide (i<j))) mh):=rfl
@[simp] theorem TZ (i j:Int):oLe (.int i) (.int j) mh Q=(Q (.bl (decide (i<=j))) mh):=rfl
@[simp] theorem T1 (i j:Int):Q1 (.int i) (.int j) mh Q=(Q (.bl (decide (j<i))) mh):=rfl
@[simp] theorem T2 (i j:Int):oEq (.int i) (.int j) mh Q↔Q (.bl (i==j)) mh:=by simp[oEq,cI,bare,deep,iZ]
@[simp] theorem FK (i j:Int):CS (.int i) (.int j) mh Q↔Q (.bl (!(i==j))) mh:=by simp[CS,cI,bare,deep,iZ]
@[simp] theorem s_eqB (i j:Bool):oEq (.bl i) (.bl j) mh Q↔Q (.bl (i==j)) mh:=by simp[oEq,cI,bare,deep,iZ]
@[simp] theorem s_neB (i j:Bool):CS (.bl i) (.bl j) mh Q↔Q (.bl (!(i==j))) mh:=by simp[CS,cI,bare,deep,iZ]
@[simp] theorem s_eqS (i j:Str):oEq (.str i) (.str j) mh Q↔Q (.bl (i==j)) mh:=by simp[oEq,cI,bare,deep,iZ]
@[simp] theorem s_eqT (i j:List D):oEq (.tup i) (.tup j) mh Q↔eB i=true/\eB j=true/\fW i+1<=40/\Q (.bl (gX i j)) mh:=by simp[oEq,cI,bare,deep,iZ]
@[simp] theorem aE7 (x:D):rG x .bU mh Q↔Q (.bl !mU x) mh:=by simp[rG]
@[simp] theorem aEd (x:D)(T:String):vB [x,.ty T] mh Q↔got (OU mh x) λt=>T∈bO/\Q (.bl (tK t T)) mh:=by
 unfold vB;rw[<-eR];constructor
 ·rintro⟨f,c,t,e,a,⟨g,b,d,h⟩ | ⟨i,b,_⟩⟩
  ·cases e;cases b;exact⟨t,a,d,h⟩
  ·cases e;cases b
 ·rintro⟨t,a,d,h⟩;exact⟨x,_,t,rfl,a,.inl ⟨T,rfl,d,h⟩⟩
@[simp] theorem aEc (x:D)(T U:String):vB [x,.tup [.ty T,.ty U]] mh Q↔got (OU mh x) λt=>T∈bO/\U∈bO/\Q (.bl (tK t T || tK t U)) mh:=by
 unfold vB;rw[<-eR];constructor
 ·rintro⟨k,c,t,e,d,⟨g,f,a,h⟩ | ⟨i,f,a,h⟩⟩
  ·cases e;cases f
  ·cases e;injection f with b
   match i,b with
   | [g,l],b=>
    simp at b;obtain⟨rfl,rfl⟩:=b;exact⟨t,d,a _ (by simp),a _ (by simp),by simpa using h⟩
 ·rintro⟨t,d,a,j,h⟩;exact⟨x,_,t,rfl,d,.inr ⟨[T,U],rfl,by simp[a,j],by simpa using h⟩⟩
@[simp] theorem J7 (ds:List D):fG [.tup ds] mh Q↔Q (.int ds.length) mh:=by
 unfold fG;exact⟨λb=>by obtain⟨a,e,h⟩:=b;cases e;obtain⟨es,c,h⟩:=h;cases c;exact h,λh=>⟨_,rfl,ds,rfl,h⟩⟩
@[simp] theorem aEb (ds:List D):fG [.fl ds] mh Q↔Q (.int ds.length) mh:=by
 unfold fG;exact⟨λb=>by obtain⟨a,e,h⟩:=b;cases e;obtain⟨es,c,h⟩:=h;cases c;exact h,λh=>⟨_,rfl,ds,rfl,h⟩⟩
theorem mK(h:mh[n]? =some (.lst ds)):fG [.ref n] mh Q↔Q (.int ds.length) mh:=by
 unfold fG;have e:aX mh (.ref n)=some ds:=by simp[aX,h]
 exact⟨λb=>by obtain⟨a,f,c⟩:=b;cases f;obtain⟨es,d,c⟩:=c;rw[e]at d;cases d;exact c,λc=>⟨_,rfl,ds,e,c⟩⟩
@[simp] theorem aEa (z:Str):fG [.str z] mh Q↔z.length<=sizeLine/\Q (.int z.length) mh:=by
 unfold fG;exact⟨λb=>by obtain⟨a,e,h⟩:=b;cases e;exact h,λh=>⟨_,rfl,h⟩⟩
@[simp] theorem s_abs (i:Int):N6 [.int i] mh Q↔Q (.int (if i<0 then -i else i)) mh:=by
 unfold N6;exact⟨λb=>by obtain⟨a,e,h⟩:=b;cases e;exact h,λh=>⟨i,rfl,h⟩⟩
@[simp] theorem aE9 (i j:Int):xY [.int i,.int j] mh Q↔Q (.int (if j<i then j else i)) mh:=by
 unfold xY;exact⟨λc=>by obtain⟨a,b,e,h⟩:=c;cases e;exact h,λh=>⟨i,j,rfl,h⟩⟩
@[simp] theorem Z9 (x:D):m6 [x] mh Q↔got (aX mh x) λds=>Q (.tup ds) mh:=by
 unfold m6;rw[<-eR];exact⟨λb=>by obtain⟨a,ds,e,d,h⟩:=b;cases e;exact⟨ds,d,h⟩,λc=>by obtain⟨ds,d,h⟩:=c;exact⟨x,ds,rfl,d,h⟩⟩
@[simp] theorem s_slT (ds:List D)(lo hi:Option Int):ZF (.tup ds) lo hi mh Q=(Q (.tup (cutD ds lo hi)) mh):=rfl
theorem TX(h:mh[n]? =some (.lst ds))(lo hi:Option Int):ZF (.ref n) lo hi mh Q↔Q (.ref mh.length) (mh++[.lst (cutD ds lo hi)]):=by
 show (∃ds,jD mh (.ref n)=some ds/\Q (.ref mh.length) (mh++[.lst (cutD ds lo hi)]))↔_;have e:jD mh (.ref n)=some ds:=by simp[jD,h]
 exact⟨λa=>by obtain⟨es,c,b⟩:=a;rw[e]at c;cases c;exact b,λb=>⟨ds,e,b⟩⟩
theorem J5{P:MH->Prop}(h:mh[n]? =some (.lst ds))(i:Int)(d:D):O6 (.ref n) (.int i) d mh P↔got (HW ds.length i) λj=>P (mh.set n (.lst (ds.set j d))):=by
 unfold O6;rw[<-eR];exact⟨λa=>by obtain⟨m,es,k,j,f,g,c,l,e⟩:=a;cases f;cases g;rw[h]at c;cases c;exact⟨j,l,e⟩,λb=>by obtain⟨j,c,e⟩:=b;exact⟨n,ds,i,j,rfl,rfl,h,c,e⟩⟩
theorem oI{es:List D}(h:mh[n]? =some (.lst es))(d:D):dG (.ref n) [d] mh Q↔es.length<sizeLine/\Q .bU (mh.set n (.lst (es++[d]))):=by
 unfold dG;exact⟨λa=>by obtain⟨m,fs,d',e,f,c,b⟩:=a;cases e;cases f;rw[h]at c;cases c;exact b,λb=>⟨n,es,d,rfl,rfl,h,b⟩⟩
theorem C7{bs:List Bool}(h:mh[n]? =some (.lst (bs.map .bl))):EK [.ref n] mh Q↔Q (.bl (bs.all id)) mh:=by
 unfold EK;have e:jD mh (.ref n)=some (bs.map .bl):=by simp[jD,h]
 constructor
 ·rintro⟨x,c,i,g,d⟩;cases i;rw[e]at g;have j:bs.map D.bl=c.map D.bl:=aGe g;have k:bs=c :=(aJg (f:=D.bl) (λa b e=>by injection e)).mp j;subst k;exact d
 ·intro d;exact⟨_,bs,rfl,e,d⟩
@[simp] theorem aCg (d:D)(ds:List D):oS (d::ds) 0=some d:=by
 have:=sW (xs:=d::ds) (j:=0) (v:=d) rfl;simpa using this
theorem bF(mh:MH)(o:MO):(mh++[o])[mh.length]? =some o:=by simp
end
variable{n:Nat}{d:D}
theorem aY(h:R d mh):Out n d mh R:= .inl h
def lx:List Int->List Int->Bool
 | [],[]=>false
 | [],_::_=>true
 | _::_,[]=>false
 | a::as,b::bs=>if a<b then true else if b<a then false else lx as bs
theorem yU:∀x y:List Int,lx x y=true->lx y x=false
 | [],[],h=>by simp[lx]at h
 | [],_::_,h=>by simp[lx]
 | _::_,[],h=>by simp[lx]at h
 | a::as,b::bs,h=>by
  simp only[lx]at h⊢;by_cases c:a<b
  ·rw[if_neg (by lia),if_pos c]
  ·rw[if_neg c]at h;by_cases d:b<a
   ·rw[if_pos d]at h;cases h
   ·rw[if_neg d]at h⊢;rw[if_neg c];exact yU as bs h
theorem UA:∀x y z:List Int,lx y x=false->lx z y=false->lx z x=false
 | [],y,z,h1,h2=>by
  cases z with
  | nil=>rfl
  | cons _ _=>rfl
 | a::as,[],z,h1,h2=>by simp[lx]at h1
 | a::as,b::bs,[],h1,h2=>by simp[lx]at h2
 | a::as,b::bs,c::cs,h1,h2=>by
  simp only[lx]at h1 h2⊢;by_cases d:b<a
  ·rw[if_pos d]at h1;cases h1
  ·rw[if_neg d]at h1;by_cases e:c<b
   ·rw[if_pos e]at h2;cases h2
   ·rw[if_neg e]at h2;rw[if_neg (by lia)];by_cases f:a<c
    ·rw[if_pos f]
    ·rw[if_neg f];rw[if_neg (by lia)]at h1 h2;exact UA as bs cs h1 h2
def eV:D->List Int
 | .int i=>[i]
 | .str z=>z.cps.toList.map (λ(c:Nat)=>(c:Int))++[-1]
 | _=>[]
def enc:D->List Int
 | .tup ds=>ds.flatMap eV
 | d=>eV d
theorem DJ:∀a b:List Nat,lx (a.map (λ(c:Nat)=>(c:Int))++[-1]) (b.map (λ(c:Nat)=>(c:Int))++[-1])=decide (a<b)
 | [],[]=>by simp[lx]
 | [],b::bs=>by
  have:(-1:Int)<(b:Int):=by lia
  simp[lx,this]
 | a::as,[]=>by
  have d:¬((a:Int) < -1):=by lia
  have f:(-1:Int)<(a:Int):=by lia
  simp[lx,d,f]
 | a::as,b::bs=>by
  have g:=DJ as bs;simp only[List.map_cons,List.cons_append,lx,g];by_cases d:a<b
  ·rw[if_pos (by lia)];exact(decide_eq_true (List.cons_lt_cons_iff.mpr (.inl d))).symm
  ·rw[if_neg (by lia)];by_cases f:b<a
   ·rw[if_pos (by lia)];exact(aHj (λq=>by rcases List.cons_lt_cons_iff.mp q with q | q <;> lia)).symm
   ·rw[if_neg (by lia)];have e:a=b:=by lia
    subst e;rw[Bool.eq_iff_iff,decide_eq_true_iff,decide_eq_true_iff,List.cons_lt_cons_iff];simp
inductive Sc where | i | s
def d8:Sc->D->Bool
 | .i,.int _=>true
 | .s,.str _=>true
 | _,_=>false
def cQ:List Sc->List D->Bool
 | [],[]=>true
 | c::cs,d::ds=>d8 c d && cQ cs ds
 | _,_=>false
theorem Q8(x:List Int):∀r b :List Int,lx (x++r) (x++b)=lx r b :=by
 induction x with
 | nil=>intro r b;rfl
 | cons a as ih=>intro r b;simp[lx,ih]
theorem map_inj:∀a b:List Nat,a.map (λ(c:Nat)=>(c:Int))++[-1]=b.map (λ(c:Nat)=>(c:Int))++[-1]->a=b
 | [],[],_=>rfl
 | [],b::bs,h=>by simp at h
 | a::as,[],h=>by simp at h
 | a::as,b::bs,h=>by
  simp only[List.map_cons,List.cons_append,List.cons.injEq]at h;have d:a=b:=by lia
  rw[d,map_inj as bs h.2]
theorem FD{a b:Str}(h:a.cps.toList=b.cps.toList):a=b:=by
 cases a;cases b;simp at h;simp[h]
theorem GI{c:Sc}{d e:D}(a:d8 c d=true)(b:d8 c e=true)(h:eV d=eV e):d=e:=by
 cases c <;> cases d <;> simp[d8]at a <;> cases e <;> simp[d8]at b
 ·simp[eV]at h;rw[h]
 ·simp only[eV]at h;rw[FD (map_inj _ _ h)]
theorem rH:∀(a b:List Nat) (r d :List Int),a≠b->lx ((a.map (λ(c:Nat)=>(c:Int))++[-1])++r) ((b.map (λ(c:Nat)=>(c:Int))++[-1])++d)=lx (a.map (λ(c:Nat)=>(c:Int))++[-1]) (b.map (λ(c:Nat)=>(c:Int))++[-1])
 | [],[],_,_,h=>absurd rfl h
 | [],b::bs,r,d,_=>by
  have:(-1:Int)<(b:Int):=by lia
  simp[lx,this]
 | a::as,[],r,d,_=>by
  have f:¬((a:Int) < -1):=by lia
  have g:(-1:Int)<(a:Int):=by lia
  simp[lx,f,g]
 | a::as,b::bs,r,d,h=>by
  simp only[List.map_cons,List.cons_append,lx];by_cases f:(a:Int)<b
  ·simp[f]
  ·by_cases g:(b:Int)<a
   ·simp[f,g]
   ·have e:a=b:=by lia
    subst e;simp only[f,g,if_false];exact rH as bs r d λq=>h (by rw[q])
theorem yT{c:Sc}{d e:D}(f:d8 c d=true)(k:d8 c e=true)(h:d≠e)(r g :List Int):lx (eV d++r) (eV e++g)=lx (eV d) (eV e):=by
 cases c <;> cases d <;> simp[d8]at f <;> cases e <;> simp[d8]at k
 ·rename_i i j;have:i≠j:=λq=>h (by rw[q]);simp only[eV,List.cons_append,List.nil_append,lx];by_cases f:i<j
  ·simp[f]
  ·have:j<i:=by lia
   simp[f,this]
 ·rename_i a b;simp only[eV];exact rH _ _ r g λq=>h (by rw[FD q])
theorem NH{c:Sc}{d e:D}(a:d8 c d=true)(b:d8 c e=true):iZ d e=true↔d=e:=by
 cases c <;> cases d <;> simp[d8]at a <;> cases e <;> simp[d8]at b
 ·simp[iZ]
 ·simp[iZ]
mutual
theorem JG{h:Heap}:∀{d e:D} {u:Value},Vl h d u->Vl h e u->d=e
 | .bU,e,u,p,q=>by
  unfold Vl at p;subst p
  cases e <;> unfold Vl at q <;> first | rfl | (cases q;done) | (obtain⟨_,q⟩:=q;cases q;done) | (obtain⟨_,_,q,_⟩:=q;cases q;done)
 | .bl a,e,u,p,q=>by
  unfold Vl at p;subst p
  cases e <;> unfold Vl at q <;> first | (cases q;rfl) | (cases q;done) | (obtain⟨_,q⟩:=q;cases q;done) | (obtain⟨_,_,q,_⟩:=q;cases q;done)
 | .int a,e,u,p,q=>by
  unfold Vl at p;obtain⟨t,rfl⟩:=p
  cases e <;> unfold Vl at q <;> first | (cases q;done) | (obtain⟨_,q⟩:=q;cases q;rfl) | (obtain⟨_,q⟩:=q;cases q;done) | (obtain⟨_,_,q,_⟩:=q;cases q;done)
 | .str a,e,u,p,q=>by
  unfold Vl at p;obtain⟨t,rfl⟩:=p
  cases e <;> unfold Vl at q <;> first | (cases q;done) | (obtain⟨_,q⟩:=q;cases q;rfl) | (obtain⟨_,q⟩:=q;cases q;done) | (obtain⟨_,_,q,_⟩:=q;cases q;done)
 | .ty _,e,u,p,q=>by unfold Vl at p;exact p.elim
 | .ref _,e,u,p,q=>by unfold Vl at p;exact p.elim
 | .tup as,e,u,p,q=>by
  unfold Vl at p;obtain⟨a,us,rfl,ht,l⟩:=p
  cases e with
  | tup bs=>
   unfold Vl at q;obtain⟨b,f,e,c,l2⟩:=q;cases e;obtain⟨o,j,_,n,k⟩:=ht;obtain⟨s,g,_,n2,i⟩:=c;rw[j]at g;cases g;rw[k]at i;injection i with m;have r:us=f:=by simpa using aGx Array.toList m
   subst r;rw[x9 l l2]
  | fl bs=>
   unfold Vl at q;obtain⟨b,f,e,c,l2⟩:=q;cases e;exact(sQ c ht).elim
  | _=>unfold Vl at q;first | (cases q;done) | (obtain⟨_,q⟩:=q;cases q;done)
 | .fl as,e,u,p,q=>by
  unfold Vl at p;obtain⟨a,us,rfl,ht,l⟩:=p
  cases e with
  | fl bs=>
   unfold Vl at q;obtain⟨b,f,e,c,l2⟩:=q;cases e;obtain⟨o,j,_,n,k⟩:=ht;obtain⟨s,g,_,n2,i⟩:=c;rw[j]at g;cases g;rw[k]at i;injection i with m;have r:us=f:=by simpa using aGx Array.toList m
   subst r;rw[x9 l l2]
  | tup bs=>
   unfold Vl at q;obtain⟨b,f,e,c,l2⟩:=q;cases e;exact(sQ ht c).elim
  | _=>unfold Vl at q;first | (cases q;done) | (obtain⟨_,q⟩:=q;cases q;done)
theorem x9{h:Heap}:∀{ds es:List D} {us:List Value},eC h ds us->eC h es us->ds=es
 | [],es,us,p,q=>by unfold eC at p;subst p;cases es with | nil=>rfl | cons=>unfold eC at q;obtain⟨_,_,e,_⟩:=q;cases e
 | d::ds,es,us,p,q=>by
  unfold eC at p;obtain⟨u,r,rfl,i,l⟩:=p
  cases es with
  | nil=>unfold eC at q;cases q
  | cons e es=>
   unfold eC at q;obtain⟨b,r2,a,i2,l2⟩:=q;cases a;rw[JG i i2,x9 l l2]
end
mutual
theorem Vl.keep{h h' :Heap}(k:∀b o,h.get? b=some o->h'.get? b=some o):∀(d:D) (u:Value),Vl h d u->Vl h' d u
 | .bU,u,q=>by unfold Vl at*;exact q
 | .bl _,u,q=>by unfold Vl at*;exact q
 | .int _,u,q=>by unfold Vl at*;exact q
 | .str _,u,q=>by unfold Vl at*;exact q
 | .ty _,u,q=>by unfold Vl at*;exact q
 | .ref _,u,q=>by unfold Vl at*;exact q
 | .tup ds,u,q=>by
  unfold Vl at*;obtain⟨a,us,e,⟨o,c,f⟩,l⟩:=q;exact⟨a,us,e,⟨o,k _ _ c,f⟩,eC.keep k ds us l⟩
 | .fl ds,u,q=>by
  unfold Vl at*;obtain⟨a,us,e,⟨o,c,f⟩,l⟩:=q;exact⟨a,us,e,⟨o,k _ _ c,f⟩,eC.keep k ds us l⟩
theorem eC.keep{h h' :Heap}(k:∀b o,h.get? b=some o->h'.get? b=some o):∀(ds:List D) (us:List Value),eC h ds us->eC h' ds us
 | [],us,q=>by unfold eC at*;exact q
 | d::ds,us,q=>by
  unfold eC at*;obtain⟨u,r,e,i,l⟩:=q;exact⟨u,r,e,Vl.keep k d u i,eC.keep k ds r l⟩
end
def EL(ds:List D):Prop:=(∃c,∀d∈ds,d8 c d=true)\/∃c a,∀d∈ds,∃es,d= .tup es/\cQ (c::a) es=true
open Classical in
noncomputable def dv(h:Heap)(u:Value):D:=if q:∃d,Vl h d u then q.choose else .bU
theorem lL{u:Value}(p:Vl h d u):dv h u=d:=by
 unfold dv;rw[dif_pos ⟨d,p⟩];exact JG (Exists.choose_spec (⟨d,p⟩:∃d,Vl h d u)) p
noncomputable def ltV(h:Heap)(x y:Keyed):Bool:=lx (enc (dv h x.1)) (enc (dv h y.1))
theorem yW(h:Heap):TS.Wk (ltV h):=⟨λx y=>yU _ _,λx y z=>UA _ _ _⟩
theorem m9{h:Heap}:∀{ds:List D} {us:List Value},eC h ds us->∀u∈us,∃d∈ds,Vl h d u
 | [],us,q,u,hu=>by unfold eC at q;subst q;cases hu
 | d::ds,us,q,u,hu=>by
  unfold eC at q;obtain⟨w,r,rfl,i,l⟩:=q;rcases aFy.mp hu with rfl | hu
  ·exact⟨d,aFr,i⟩
  ·obtain⟨e,he,p⟩:=m9 l u hu;exact⟨e,aFt _ he,p⟩
open PySem.W in
theorem xA{prog:Program}{w:World}{A:Around}{Q:Bool->Shared->Prop}{s:Shared}(n:A.units+32<cLine):∀(k:List Sc) (as bs:List D) (us vs:List Value) (i:Nat) (b:Bool),(b=true->i=0->True)->cQ k as=true->cQ k bs=true->eC s.heap as us->eC s.heap bs vs->
  Q (lx (as.flatMap eV) (bs.flatMap eV)) s->KatLex prog w A b false Q (us.zip vs) i s
 | [],[],[],us,vs,i,b,_,_,_,l1,l2,q=>by unfold eC at l1 l2;subst l1 l2;exact kat_nil q
 | [],[],_::_,_,_,_,_,_,_,h2,_,_,_=>by simp[cQ]at h2
 | [],_::_,_,_,_,_,_,_,h1,_,_,_,_=>by simp[cQ]at h1
 | _::_,[],_,_,_,_,_,_,h1,_,_,_,_=>by simp[cQ]at h1
 | _::_,_::_,[],_,_,_,_,_,_,h2,_,_,_=>by simp[cQ]at h2
 | c::k,a::as,d::bs,us,vs,i,b,hb,h1,h2,l1,l2,q=>by
  unfold eC at l1 l2;obtain⟨u,o,rfl,f,l1⟩:=l1;obtain⟨v,p,rfl,g,l2⟩:=l2;simp only[cQ,Bool.and_eq_true]at h1 h2;rw[List.zip_cons_cons];have r:deep a<=0:=by cases c <;> cases a <;> simp[d8]at h1 <;> simp[deep]
  refine kat_cons (mY (s:=s) 0 r (by lia) f g prog w _ _ ?_);simp only[List.flatMap_cons]at q;refine kat_go (λe=>kat_yes ?_) (λe=>kat_no ?_)
  ·have l:a=d:=(NH h1.1 h2.1).mp e;subst l;rw[Q8]at q;exact xA n k as bs o p (i+1) b (λ_ _=>trivial) h1.2 h2.2 l1 l2 q
  ·have m:a≠d:=λz=>by rw[(NH h1.1 h2.1).mpr z]at e;cases e
   rw[yT h1.1 h2.1 m]at q
   cases c with
   | i=>
    cases a <;> simp[d8]at h1;cases d <;> simp[d8]at h2;rename_i x y;unfold Vl at f g;obtain⟨t,rfl⟩:=f;obtain⟨B,rfl⟩:=g
    have h :Q (decide (x<y)) s:=by
     have:lx (eV (.int x)) (eV (.int y))=decide (x<y):=by
      simp only[eV,lx];by_cases j:x<y
      ·simp[j]
      ·simp[j]
     rw[<-this];exact q
    cases hbi:(b && i==0) with
    | true=>exact oneLt_int h
    | false=>exact kat_one _ _ (lt_int h)
   | s=>
    cases a <;> simp[d8]at h1;cases d <;> simp[d8]at h2;rename_i x y;unfold Vl at f g;obtain⟨t,rfl⟩:=f;obtain⟨B,rfl⟩:=g
    have h :Q (decide (x.cps.toList<y.cps.toList)) s:=by
     have:lx (eV (.str x)) (eV (.str y))=decide (x.cps.toList<y.cps.toList):=DJ _ _;rw[<-this];exact q
    cases hbi:(b && i==0) with
    | true=>exact oneLt_str h
    | false=>exact kat_one _ _ (lt_str h)
def scT:Sc->String | .i=>"int" | .s=>"str"
section
variable {prog:Program}{w:World}{A:Around}
theorem qM:∀{a:List Sc} {ds:List D},cQ a ds=true->ds.length=a.length
 | [],[],_=>rfl
 | [],_::_,h=>by simp[cQ]at h
 | _::_,[],h=>by simp[cQ]at h
 | c::a,d::ds,h=>by simp only[cQ,Bool.and_eq_true]at h;simp[qM h.2]
theorem nE{vs:List Value}{x:Keyed}(h:x∈(pairsOf vs).toList):x=(x.1,x.1)/\x.1∈vs:=by
 rw[pairsOf_toList]at h
 induction vs with
 | nil=>simp at h
 | cons v r ih=>
  rw[List.zip_cons_cons]at h;rcases aFy.mp h with e | e
  ·rw[e];exact⟨rfl,aFr⟩
  ·obtain⟨a,b⟩:=ih e;exact⟨a,aFt _ b⟩
theorem pH{s:Shared}{vs:List Value}(hu:A.units+40<cLine)(U:EL ds)(l:eC s.heap ds vs)(P:2<=vs.length):
  ∃κ,∀h' :Heap,(∀b o,s.heap.get? b=some o->h'.get? b=some o)->TS.EU prog w A {s with heap:=h'} κ (ltV s.heap) (pairsOf vs)/\
   ∀z E,z κ {s with heap:=h'}->wpAny (model prog w) A (keyKind' vs.toArray) z E {s with heap:=h'}:=by
 rcases U with ⟨c,f⟩ | ⟨c,R,f⟩
 ·refine⟨oneType',λh' k=>⟨λx y F G Q q=>?_,λz E q=>?_⟩⟩
  ·obtain⟨_,H⟩:=nE F;obtain⟨_,I⟩:=nE G;obtain⟨d,dm,dp⟩:=m9 l _ H;obtain⟨e,em,ep⟩:=m9 l _ I
   have B :Q (lx (enc d) (enc e)) {s with heap:=h'}:=by
    have:ltV s.heap x y=lx (enc d) (enc e):=by unfold ltV;rw[lL dp,lL ep]
    rw[<-this];exact q
   have hd:=f d dm;have he:=f e em;obtain⟨x1,x2⟩:=x;obtain⟨S,y2⟩:=y
   cases c with
   | i=>
    cases d <;> simp[d8]at hd;cases e <;> simp[d8]at he;rename_i i j;unfold Vl at dp ep;obtain⟨g,rfl⟩:=dp;obtain⟨t2,rfl⟩:=ep;refine PySem.W.kat_lt_int ?_
    have:lx (enc (.int i)) (enc (.int j))=decide (i<j):=by
     simp only[enc,eV,lx];by_cases h:i<j
     ·simp[h]
     ·simp[h]
    rw[<-this];exact B
   | s=>
    cases d <;> simp[d8]at hd;cases e <;> simp[d8]at he;rename_i i j;unfold Vl at dp ep;obtain⟨g,rfl⟩:=dp;obtain⟨t2,rfl⟩:=ep;refine PySem.W.kas_lt_str ?_;have:lx (enc (.str i)) (enc (.str j))=decide (i.cps.toList<j.cps.toList):=DJ _ _;rw[<-this];exact B
  ·have ty:∀v∈vs,PySem.W.Looks (model prog w) h' (typeOf v) (.type (scT c)):=λv hv=>by
    obtain⟨d,dm,dp⟩:=m9 l _ hv;have hd:=f d dm
    cases c with
    | i=>cases d <;> simp[d8]at hd;unfold Vl at dp;obtain⟨g,rfl⟩:=dp;exact aHy rfl
    | s=>cases d <;> simp[d8]at hd;unfold Vl at dp;obtain⟨g,rfl⟩:=dp;exact aHy rfl
   exact PySem.W.kas_kind (s:={s with heap:=h'}) P ty (by cases c <;> rfl) (by cases c <;> rfl) q
 ·refine⟨tuples' true,λh' k=>⟨λx y F G Q q=>?_,λz E q=>?_⟩⟩
  ·obtain⟨_,H⟩:=nE F;obtain⟨_,I⟩:=nE G;obtain⟨d,dm,dp⟩:=m9 l _ H;obtain⟨e,em,ep⟩:=m9 l _ I
   have B :Q (lx (enc d) (enc e)) {s with heap:=h'}:=by
    have:ltV s.heap x y=lx (enc d) (enc e):=by unfold ltV;rw[lL dp,lL ep]
    rw[<-this];exact q
   obtain⟨as,rfl,T⟩:=f d dm;obtain⟨bs,rfl,V⟩:=f e em;obtain⟨x1,x2⟩:=x;obtain⟨S,y2⟩:=y;unfold Vl at dp ep;obtain⟨a,us,ea,⟨o,ho,m,n,hd⟩,t⟩:=dp;obtain⟨b,J,eb,⟨o2,K,X,n2,L⟩,Y⟩:=ep;have M :x1=Value.ref a:=ea;have N :S=Value.ref b:=eb;subst M N;refine PySem.W.kat_lt (s:={s with heap:=h'}) (k _ _ ho) hd (k _ _ K) L ?_;have z1:=bK t;have z2:=bK Y;have z3:=qM T;have z4:=qM V;have zz:decide (us.toArray.size<J.toArray.size)=false:=aHj (by simp only[List.size_toArray];lia);rw[zz];exact xA (s:={s with heap:=h'}) (by lia) (c::R) as bs us J 0 true (λ_ _=>trivial) T V (eC.keep k as us t) (eC.keep k bs J Y) B
  ·have fs:∃fs:List Value,PySem.W.KatTups h' vs fs/\fs.length=vs.length/\∀v∈fs,PySem.W.Looks (model prog w) h' (typeOf v) (.type (scT c)):=by
    clear q P
    have go:∀(ds:List D) (vs:List Value),(∀d∈ds,∃es,d= .tup es/\cQ (c::R) es=true)->eC s.heap ds vs->∃fs:List Value,PySem.W.KatTups h' vs fs/\fs.length=vs.length/\∀v∈fs,PySem.W.Looks (model prog w) h' (typeOf v) (.type (scT c)):=by
     intro ds
     induction ds with
     | nil=>intro vs _ l;unfold eC at l;subst l;exact⟨[],PySem.W.KatTups.nil,rfl,λv hv=>by cases hv⟩
     | cons d r ih=>
      intro vs f l;unfold eC at l;obtain⟨u,ur,rfl,p,l⟩:=l;obtain⟨fs,f1,Z,O⟩:=ih ur (λe he=>f e (aFt _ he)) l;obtain⟨es,rfl,he⟩:=f d aFr;unfold Vl at p;obtain⟨a,us,rfl,⟨o,ho,m,n,hd⟩,t⟩:=p
      cases es with
      | nil=>simp[cQ]at he
      | cons e0 er=>
       unfold eC at t;obtain⟨u0,u1,rfl,C,_⟩:=t;simp only[cQ,Bool.and_eq_true]at he;refine⟨u0::fs,PySem.W.KatTups.cons (k _ _ ho) m hd (by simp) f1,by simp[Z],λv hv=>?_⟩;rcases aFy.mp hv with rfl | hv
       ·cases c with
        | i=>cases e0 <;> simp[d8]at he;unfold Vl at C;obtain⟨g,rfl⟩:=C;exact aHy rfl
        | s=>cases e0 <;> simp[d8]at he;unfold Vl at C;obtain⟨g,rfl⟩:=C;exact aHy rfl
       ·exact O v hv
    exact go ds vs f l
   obtain⟨fs,f1,Z,O⟩:=fs;refine PySem.W.kat_kind (s:={s with heap:=h'}) f1 (by lia) O (by cases c <;> rfl) ?_;have:(Value.type (scT c) !=Value.type "tuple")=true:=by cases c <;> rfl
   rw[this];exact q
end
theorem pL{α c:Type}(f:α->c):∀{l:List c} {m:List c},l.Perm m->∀t:List α,m=t.map f->∃t' :List α,t'.Perm t/\t'.map f=l:=by
 intro l m h
 induction h with
 | nil=>intro t e;cases t <;> simp at e;exact⟨[],.refl _,rfl⟩
 | cons x _ ih=>
  intro t e
  cases t with
  | nil=>simp at e
  | cons a r=>
   simp at e;obtain⟨t',p,q⟩:=ih r e.2;exact⟨a::t',p.cons a,by simp[q,e.1]⟩
 | swap x y l=>
  intro t e
  match t,e with
  | [],e=>simp at e
  | [_],e=>simp at e
  | a::b::r,e=>
   simp at e;exact⟨b::a::r,.swap _ _ _,by simp[e]⟩
 | trans _ _ ih1 ih2=>
  intro t e;obtain⟨d,g,q1⟩:=ih2 t e;obtain⟨i,j,q2⟩:=ih1 d q1.symm;exact⟨i,j.trans g,q2⟩
def AB:OA:=λxs mh Q=>∃x ds,xs=[x]/\jD mh x=some ds/\ds.length<64/\EL ds/\
 ∀a,a.Perm ds->a.Pairwise (λd e=>lx (enc e) (enc d)=false)->Q (.ref mh.length) (mh++[.lst a])
theorem qU(U:EL ds):eB ds=true:=by
 have sc:∀{a:List Sc} {es:List D},cQ a es=true->eB es=true:=λ{a}=>by
  induction a with
  | nil=>intro es h;cases es with | nil=>rfl | cons=>simp[cQ]at h
  | cons c a ih=>
   intro es h
   cases es with
   | nil=>simp[cQ]at h
   | cons e es=>
    simp only[cQ,Bool.and_eq_true]at h;simp only[eB,ih h.2,Bool.and_true];cases c <;> cases e <;> simp[d8]at h <;> rfl
 rcases U with ⟨c,b⟩ | ⟨c,a,b⟩
 ·induction ds with
  | nil=>rfl
  | cons d r ih=>
   have hd:=b d aFr;simp only[eB,ih λe he=>b e (List.mem_cons_of_mem _ he),Bool.and_true];cases c <;> cases d <;> simp[d8]at hd <;> rfl
 ·induction ds with
  | nil=>rfl
  | cons d r ih=>
   obtain⟨es,rfl,he⟩:=b d aFr;simp only[eB,ih λe he=>b e (List.mem_cons_of_mem _ he),Bool.and_true];simpa[bare] using sc he
structure Tri where
 d:D
 v:V
 u:Value
theorem OY{K:aJn}{μ:List Addr}{H:Hp}{h:Heap}:∀{ds:List D} {vs:List V} {us:List Value},IsL K μ H ds vs->Vals vs us->eC h ds us->∃g:List Tri,g.map (·.d)=ds/\g.map (·.v)=vs/\g.map (·.u)=us/\∀t∈g,Is K μ H t.d t.v/\RelV t.v t.u/\Vl h t.d t.u
 | [],vs,us,l,r,q=>by unfold IsL at l;subst l;cases r;exact⟨[],rfl,rfl,rfl,λt ht=>by cases ht⟩
 | d::ds,vs,us,l,r,q=>by
  unfold IsL at l;obtain⟨v,o,rfl,i,l⟩:=l
  cases r with
  | @cons _ j _ k r1 r2=>
   unfold eC at q;obtain⟨w,s,e,p,q⟩:=q;injection e with m n;subst m n;obtain⟨g,a,b,c,f⟩:=OY l r2 q
   exact⟨⟨d,v,j⟩::g,by simp[a],by simp[b],by simp[c],λt ht=>by
    rcases aFy.mp ht with rfl | ht
    ·exact⟨i,r1,p⟩
    ·exact f t ht⟩
theorem sT{K:aJn}{μ:List Addr}{H:Hp}:∀{a:List Tri},(∀t∈a,Is K μ H t.d t.v)->IsL K μ H (a.map (·.d)) (a.map (·.v))
 | [],_=>by simp[IsL]
 | t::a,h=>by
  simp only[List.map_cons];unfold IsL;exact⟨_,_,rfl,h t aFr,sT λx b=>h x (aFt _ b)⟩
theorem pD:∀{a:List Tri},(∀t∈a,RelV t.v t.u)->Vals (a.map (·.v)) (a.map (·.u))
 | [],_=>.nil
 | t::a,h=>.cons (h t aFr) (pD λx b=>h x (aFt _ b))
section
variable {X:Cx}
theorem IT(hu:X.A.units+64<cLine):cB X (.builtin "sorted") (dJ X.K AB):=by
 intro pins s σ H xs us Q I r q;obtain⟨μ,mh,ds,R,n,G,⟨x,es,rfl,e,J,U,q⟩,F⟩:=q;obtain⟨v,rfl,L⟩:=gO G;obtain⟨a,vs,rfl,sq,l⟩:=oM n L e;obtain⟨u,rfl,M⟩:=vals1 r;cases M;obtain⟨aN,p,N,hz⟩:=I.list sq;have g:=hU I es (qU U) l p;have y:aN.length=es.length:=bK g;have O:X.A.in1.in1.units+40<cLine:=by show X.A.units+1+1+40<_;lia
 have ask:∃κ,2<=aN.length->∀h' :Heap,(∀b o,s.heap.get? b=some o->h'.get? b=some o)->TS.EU X.prog X.w X.A.in1.in1 {s with heap:=h'} κ (ltV s.heap) (pairsOf aN)/\
   ∀B P,B κ {s with heap:=h'}->wpAny (model X.prog X.w) X.A.in1.in1 (keyKind' aN.toArray) B P {s with heap:=h'}:=by
  by_cases C:2<=aN.length
  ·obtain⟨κ,hk⟩:=pH (prog:=X.prog) (w:=X.w) (A:=X.A.in1.in1) O U g C;exact⟨κ,λ_=>hk⟩
  ·exact⟨general',λz=>absurd z C⟩
 obtain⟨κ,ask⟩:=ask;refine TS.JZ (κ:=κ) (yW s.heap) N.isList (by lia) ask λout D h=>?_;obtain⟨S,T,V,W,Y⟩:=OY l p g;rw[<-W]at D;obtain⟨c,i,E⟩:=pL (·.u) D S rfl;have f:∀t∈c,Is X.K μ H t.d t.v/\RelV t.v t.u/\Vl s.heap t.d t.u:=λt ht=>Y t (i.mem_iff.mp ht);have Z:(c.map (·.d)).Perm es:=by rw[<-T];exact i.map _
 have pw:(c.map (·.d)).Pairwise (λd e=>lx (enc e) (enc d)=false):=by
  rw[<-E]at h;rw[List.pairwise_map]at h⊢;refine h.imp_of_mem λ{t t'} m m' j=>?_;have e1:dv s.heap t.u=t.d:=lL (f t m).2.2;have e2:dv s.heap t'.u=t'.d:=lL (f t' m').2.2;unfold ltV at j;rw[e1,e2]at j;exact j
 obtain⟨ep,he⟩:=sortedAll_at s.heap aN out.toArray
 have ln:(c.map (·.v)).length<=sizeLine:=by
  have:=i.length_eq;have k :=aGx List.length V;simp at k ⊢
  lia
 have I1:Inv X pins σ (upd H (s.heap.objs.size+1) (.lst (c.map (·.v)))) {s with heap:=sortedAll s.heap aN out.toArray}:=
  I.laid (t' :=s.toks) (λb o hb=>sortedAll_old hb) (aJh _) ⟨ln,out,ep,by rw[<-E];exact pD λt ht=>(f t ht).2.1,he⟩
 exact⟨.ref (s.heap.objs.size+1),_,I1,rfl,gW n F (sT λt ht=>(f t ht).1) (q _ Z pw) _ (I.bG.fresh (aJh _))⟩
end
theorem bM{g:WG}{b:WS}{E:iK}{St:MH->Prop}(e:Nat->c9->MH->Prop)(ds:List D)(f:∀i a mh,e i a mh->St mh)
  (l:∀i d a mh (N:c9->MH->Prop),ds[i]? =some d->e i a mh->(∀c mh',e (i+1) c mh' ->N c mh')->g d a λj=>b {E with nx:=N,ct:=N,bk:=E.nx} j mh)
  (hd:∀a mh,e ds.length a mh->E.nx a mh) {a:c9}  (h0:e 0 a mh):mQ g b E St ds a mh:=by
 have go:∀(k i:Nat),i+k=ds.length->∀a mh,e i a mh->mQ g b E St (ds.drop i) a mh:=by
  intro k
  induction k with
  | zero=>
   intro i hi a mh p;have:i=ds.length:=by lia
   subst this;rw[List.drop_of_length_le (Nat.le_refl _)];exact⟨f _ _ _ p,hd a mh p⟩
  | succ k ih=>
   intro i hi a mh p;have h:i<ds.length:=by lia
   rw[List.drop_eq_getElem_cons h];exact⟨f _ _ _ p,l i ds[i] a mh _ (by simp[h]) p λc mh' m =>ih (i+1) (by lia) c mh' m⟩
 have:=go ds.length 0 (by simp) a mh h0;simpa using this
theorem comp_map{g:WG}{w:WE}{ρe:c9}{St:MH->Prop}{Q:DK}(f:D->D):∀(ds a:List D) {mh:MH},St mh->(∀d∈ds,∀N:DK,N (f d) mh->g d ρe λb=>w b mh N)->Q (.ref mh.length) (mh++[.lst (a++ds.map f)])->m4 g iM w ρe St Q ds a mh
 | [],a,mh,hst,_,q=>⟨hst,by simpa using q⟩
 | d::ds,a,mh,hst,h,q=>by
  refine⟨hst,?_⟩;simp only[FJ,if_true];refine h d aFr _ ?_;exact comp_map f ds (a++[f d]) hst (λe he=>h e (aFt _ he)) (by simpa using q)
theorem nC{lo:Int}{n i:Nat}(h:(jC lo n)[i]? =some d):i<n/\d= .int (lo+i):=by
 simp only[jC,List.getElem?_map]at h;obtain⟨k,hk,rfl⟩:=aFw.mp h;obtain⟨hi,rfl⟩:=aFp.mp hk;simp at hi;exact⟨hi,by simp⟩
@[simp] theorem aD1 (lo:Int)(n:Nat):(jC lo n).length=n:=by simp[jC]
def OC(mh:MH)(b:Nat):Prop:=∃c m:Int,mh[b]? =some (.lst [.int c,.int m])/\0<=c/\0<=m/\m<2147483629
variable{b:Nat}
theorem OC.lt(h:OC mh b):b<mh.length:=let ⟨_,_,e,_⟩:=h;(aFp.mp e).1
def j9(mh:MH)(b:Nat)(mh' :MH):Prop:=OC mh' b/\∃o,mh' =mh.set b o
theorem j9.len{mh mh' :MH}(h:j9 mh b mh'):mh'.length=mh.length:=by obtain⟨_,o,rfl⟩:=h;simp
theorem j9.trans{mh a c:MH}(h:j9 mh b a)(h' :j9 a b c):j9 mh b c:=by
 obtain⟨_,o,rfl⟩:=h;obtain⟨d,e,rfl⟩:=h';exact⟨d,e,by simp⟩
theorem j9.refl(h:OC mh b):j9 mh b mh:=by
 refine⟨h,mh[b]'h.lt,?_⟩;simp
theorem j9.other{mh mh' :MH}(h:j9 mh b mh')(a:n≠b):mh'[n]? =mh[n]? :=by
 obtain⟨_,o,rfl⟩:=h;exact List.getElem?_set_ne (aGd a)
def wV:OA:=λds mh Q=>∃b a,ds=[.ref b,.int a]/\1<=a/\a<=1073741789/\OC mh b/\∀r mh',0<=r->r<a->j9 mh b mh' ->Q (.int r) mh'
def PM:OA:=λds mh Q=>∃(ns:List Int) (a:Int),ds=[.fl (ns.map .int),.int a]/\ns.length<=63/\0<=a/\a<=100/\∀mh',(∃o,mh' =mh++[o])->OC mh' mh.length->Q (.ref mh.length) mh'
def fH(K:aJn)(x:Str)(st:Stmt):Prop:=∃f oc od kV doc pm an a ct sl,PySem.W.nsIn K mainGlobals x=some (some (.ref f))/\
 K.lookup f=some ⟨oc,od,.func (PySem.W.fnOf x x (d6 st) (cJ st) (aE st) .none kV doc pm an a ct),sl⟩/\PySem.W.codeIn K a x=true/\PySem.W.keepIn K (.ref f)=true
variable{st:Stmt}
theorem aDa{f:Addr}{oc:Value}{od an:Option Addr}{sl:Array (Option Value)}{kV doc pm b ct:Value}(a:PySem.W.nsIn K mainGlobals x=some (some (.ref f)))
  (l:K.lookup f=some ⟨oc,od,.func (PySem.W.fnOf x x (d6 st) (cJ st) (aE st) .none kV doc pm an b ct),sl⟩) (c:PySem.W.codeIn K b x=true) (k:PySem.W.keepIn K (.ref f)=true):fH K x st:=⟨f,oc,od,kV,doc,pm,an,b,ct,sl,a,l,c,k⟩
def cD(x:Str)(st:Stmt)(ps:List Str):Prop:=∀(kV doc pm:Value) (an:Option Addr) (cdv ct:Value) (us:List Value),us.length=ps.length->bindArgs (PySem.W.fnOf x x (d6 st) (cJ st) (aE st) .none kV doc pm an cdv ct) ⟨us,[]⟩=pure (ps.zip us)
section
variable {P:Program}{w:World}{K:aJn}{mg:aJq}{base:Heap}{h:Heap}
theorem YD{k:Nat}{s:OA}{wB:WS}(e:fH K x st)(KX:K.In h)(G:h.Ns mainGlobals mg)(g:cD x st ps)(S:bC N ps (aE st))(len:∀ds mh R,s ds mh R->ds.length=ps.length)
  (i:∀(f:Addr) (cdv:Value) (A:Around) (outer:List Env) (s:Shared) (H:Hp) (E:XK),f9 k (A.deeper (envOfC x (aE st) s.heap.objs.size f cdv))->
   lR (uW CM P w K mg base N x (aE st) f cdv A outer s H E).Q2 (cJ st) wB)
  (j:∀ds mh R,oV mh->eO mh.length ds=true->s ds mh R->wB {nx:=λ_ b=>Out mh.length .bU b R,rt:=λd b=>Out mh.length d b R} (aQ N ds) mh):Fn P w K mg base (k+1) x ps s:=by
 obtain⟨f,oc,od,kV,doc,pm,an,n,ct,sl,a,l,c,kp⟩:=e;have F:=DY (st:=st) l c kp;exact⟨f,_,aCa F S len (λcdv A outer s H E m=>i f cdv A outer s H E m) j,PySem.W.mg_of KX G a,kp,F.binds g⟩
theorem ND{k:Nat}(b:fH K x st)(KX:K.In h)(G:h.Ns mainGlobals mg)(d:cD x st ps):Fn P w K mg base k x ps (λ_ _ _=>False):=by
 obtain⟨f,oc,od,kV,doc,pm,an,e,ct,sl,a,l,c,kp⟩:=b;have F:=DY (st:=st) l c kp;refine⟨f,_,⟨λvs H Q E q=>?_,λA outer s H args us vs Q E _ _ _ _ q=>?_⟩,PySem.W.mg_of KX G a,kp,F.binds d⟩
 ·obtain⟨_,_,_,_,_,_,q,_⟩:=q;exact q.elim
 ·obtain⟨_,_,_,_,_,_,q,_⟩:=q;exact q.elim
end
def vO:OA:=λds mh Q=>∃ns:List Int,ds=[.fl (ns.map .int)]/\ns.length<=63/\∀mh',Q (.bl true) mh'
theorem uE{K:aJn}{μ:List Addr}{H:Hp}:∀ns:List Int,IsL K μ H (ns.map .int) (ns.map .int)
 | []=>by simp[IsL]
 | n::ns=>by simp only[List.map_cons];unfold IsL;exact⟨_,_,rfl,.int,uE ns⟩
theorem XI{ns:List Int}(b:ns.length<=63)(c:TB H)(hS:p7 K H a (ns.map V.int)):OF K vO [.ref a] H (λv _=>v= .bl true) λ_ _ _=>False:=by
 have e:OG K H a (ns.map V.int):=by
  rcases hS with (hS | hS) | hS
  ·rcases c a with z | ⟨o,xs,z⟩
   ·rw[hS]at z;cases z
   ·rw[hS]at z;cases z
  ·exact .inl hS
  ·exact .inr hS
 refine⟨[],[],[.fl (ns.map .int)],λd _=>d= .bl true,⟨rfl,List.nodup_nil,λn a o f=>by simp at f⟩,?_,⟨ns,rfl,b,λ_=>rfl⟩,λd mh' q μ' v H' _ _ I=>?_⟩
 ·refine fI ?_;unfold Is;exact⟨a,_,rfl,e,uE ns⟩
 ·subst q;exact BO I
theorem walkD{l:PySem.W.OpenLaw}{k:Nat}{q:Program}{loose:List Str}{XP:(aJq)->Heap->Prop}{c:World->Heap->Prop}{d:DefRec}{K:Params->aJn}(g:l.most=some 63)(b:d.params.defaults=[])(i:f9 k callerA)
  (j:∀(w:World) (h:Heap),c w h->(K w.params).In h)
  (F:∀(w:World) (mg:aJq) (e:Addr) (h:Heap),(K w.params).In h->h.Ns mainGlobals mg->mg d.name=some (.ref e)->
   ∃fd:FuncData,(∀(s:Shared) (u:Value),BindsTo s fd ⟨[u],[]⟩ [(x,u)])/\∀base:Heap,(K w.params).In base->base.Ns mainGlobals mg->j8 l.prog w (K w.params) mg base CM k e fd [x] (OF (K w.params) vO)):
  PySem.W.WalkO q loose XP c l.row.toRowW d [] (λf vs=>PySem.call f vs):=
 L2.OP (n:=63) (k:=k) (x:=x) (CX:=λ_=>CM) (sp:=λw=>OF (K w.params) vO) g (by decide) b i j F (λ_ _ a ns m o p=>XI m o p) λ_ _ _ _ _ z=>z
theorem XM{k:Nat}{g:Addr}(KX:K.In h)(G:h.Ns mainGlobals mg)(i:mg "law"=some (.ref g))(j:fH K "law" st)(S:bC N [x] (aE st))(m:cD "law" st [x])
  (n:∀base:Heap,∃wB:WS,(∀(f:Addr) (cdv:Value) (A:Around) (outer:List Env) (s:Shared) (H:Hp) (E:XK),f9 k (A.deeper (envOfC "law" (aE st) s.heap.objs.size f cdv))->
   lR (uW CM P w K mg base N "law" (aE st) f cdv A outer s H E).Q2 (cJ st) wB)/\
   ∀ds mh R,oV mh->eO mh.length ds=true->vO ds mh R->wB {nx:=λ_ b=>Out mh.length .bU b R,rt:=λd b=>Out mh.length d b R} (aQ N ds) mh):
  ∃fd:FuncData,(∀(s:Shared) (u:Value),BindsTo s fd ⟨[u],[]⟩ [(x,u)])/\∀base:Heap,j8 P w K mg base CM (k+1) g fd [x] (OF K vO):=by
 obtain⟨f,oc,od,kV,doc,pm,an,o,ct,sl,a,l,c,kp⟩:=j;have e:=i.symm.trans (PySem.W.mg_of KX G a);cases e;have F:=DY (st:=st) l c kp;refine⟨_,λs u=>.of_eq (m kV doc pm an o ct [u] rfl),λbase=>?_⟩;obtain⟨wB,p,q⟩:=n base;exact aCa F S (λds mh R r=>by obtain⟨ns,rfl,_⟩:=r;rfl) (λcdv A outer s H E t=>p g cdv A outer s H E t) q
theorem bl_mk(KX:K.In h)(G:h.Ns mainGlobals mg)
  (l:PySem.W.nsIn K mainGlobals "len"=some none) (m:PySem.W.nsIn K mainGlobals "range"=some none) (n:PySem.W.nsIn K mainGlobals "zip"=some none) (o:PySem.W.nsIn K mainGlobals "all"=some none) (p:PySem.W.nsIn K mainGlobals "any"=some none) (q:PySem.W.nsIn K mainGlobals "abs"=some none) (r:PySem.W.nsIn K mainGlobals "min"=some none) (s:PySem.W.nsIn K mainGlobals "max"=some none) (t:PySem.W.nsIn K mainGlobals "isinstance"=some none) (a:PySem.W.nsIn K mainGlobals "sorted"=some none) (b:PySem.W.nsIn K mainGlobals "int"=some none) (c:PySem.W.nsIn K mainGlobals "str"=some none) (d:PySem.W.nsIn K mainGlobals "bool"=some none) (e:PySem.W.nsIn K mainGlobals "list"=some none) (f:PySem.W.nsIn K mainGlobals "tuple"=some none) (g:PySem.W.nsIn K mainGlobals "set"=some none) (i:PySem.W.nsIn K mainGlobals "dict"=some none) (j:PySem.W.nsIn K mainGlobals "sum"=some none) (k:PySem.W.nsIn K mainGlobals "enumerate"=some none):Bl mg:=
 ⟨aG9 KX G l,aG9 KX G m,aG9 KX G n,aG9 KX G o,aG9 KX G p,aG9 KX G q,aG9 KX G r,aG9 KX G s,aG9 KX G t,aG9 KX G a,aG9 KX G b,aG9 KX G c,aG9 KX G d,aG9 KX G e,aG9 KX G f,aG9 KX G g,aG9 KX G i,aG9 KX G j,aG9 KX G k⟩
theorem iB{a b:Key}(h:aS a=aS b):a=b:=by
 cases a <;> cases b <;> simp[aS]at h <;> rw[h]
theorem w9:∀{a b:List Key},a.map aS=b.map aS->a=b
 | [],[],_=>rfl
 | [],_::_,h=>by simp at h
 | _::_,[],h=>by simp at h
 | x::xs,y::ys,h=>by
  simp only[List.map_cons,List.cons.injEq]at h;rw[iB h.1,w9 h.2]
theorem MI{a b:List Key}(h:D.tup (a.map aS)=D.tup (b.map aS)):a=b:=w9 (by injection h)
open Classical in
noncomputable def putD(kvs:List (D×D))(k v:D):List (D×D):=if ∃p∈kvs,p.1=k then kvs.map (λp=>if p.1=k then (p.1,v) else p) else kvs++[(k,v)]
variable{kvs:List (D×D)}
theorem A5{k:D}(v:D)(h:∀p∈kvs,p.1≠k):putD kvs k v=kvs++[(k,v)]:=by
 unfold putD;rw[if_neg];rintro⟨p,a,e⟩;exact h p a e
theorem KH{k v:D}{p:D×D}(h:p∈putD kvs k v):p∈kvs\/(p.1=k/\p.2=v):=by
 unfold putD at h;split at h
 ·obtain⟨q,a,e⟩:=aFv.mp h;split at e
  ·rename_i hk;subst e;exact .inr ⟨hk,rfl⟩
  ·subst e;exact .inl a
 ·rcases aG5.mp h with h | h
  ·exact .inl h
  ·simp at h;subst h;exact .inr ⟨rfl,rfl⟩
theorem A6(kvs:List (D×D))(k v:D):(putD kvs k v).length<=kvs.length+1:=by
 unfold putD;split <;> simp
open Classical in
theorem wY(kvs:List (D×D))(k v:D):(putD kvs k v).map (·.1)=if (∃p∈kvs,p.1=k) then kvs.map (·.1) else kvs.map (·.1)++[k]:=by
 unfold putD;split
 ·rw[List.map_map];apply aI9;intro p _;simp only[Function.comp];split <;> rfl
 ·simp
section
variable {K:aJn}{μ:List Addr}{H:Hp}{κ:Type}[DecidableEq κ]{f:κ->D}
theorem A1(c:∀{a b},f a=f b->a=b)(k:κ){d:D}{v:V}(hd:Is K μ H d v):∀(kvs:List (D×D)) (kk:List (κ×V)),kvs.map (·.1)=kk.map (λp=>f p.1)->IsL K μ H (kvs.map (·.2)) (kk.map (·.2))->
  IsL K μ H ((open Classical in kvs.map λp=>if p.1=f k then (p.1,d) else p).map (·.2)) ((kk.map λp=>if p.1=k then (p.1,v) else p).map (·.2))
 | [],[],_,_=>by simp[IsL]
 | [],_::_,h,_=>by simp at h
 | _::_,[],h,_=>by simp at h
 | p::kvs,q::kk,h,l=>by
  simp only[List.map_cons,List.cons.injEq]at h;simp only[List.map_cons]at l⊢;unfold IsL at l⊢;obtain⟨w,r,e,i,l⟩:=l;simp only[List.cons.injEq]at e;obtain⟨rfl,rfl⟩:=e;have g:=A1 c k hd kvs kk h.2 l;by_cases hk:q.1=k
  ·have:p.1=f k:=by rw[h.1,hk]
   simp only[if_pos hk,if_pos this];exact⟨_,_,rfl,hd,g⟩
  ·have:¬p.1=f k:=λz=>hk (c (h.1.symm.trans z));simp only[if_neg hk,if_neg this];exact⟨_,_,rfl,i,g⟩
theorem sO(m:∀{a b},f a=f b->a=b)(k:κ){v:V}(hd:Is K μ H d v){kk:List (κ×V)}(h:kvs.map (·.1)=kk.map (λp=>f p.1))(l:IsL K μ H (kvs.map (·.2)) (kk.map (·.2))):
  (putD kvs (f k) d).map (·.1)=(putK kk k v).map (λp=>f p.1)/\IsL K μ H ((putD kvs (f k) d).map (·.2)) ((putK kk k v).map (·.2)):=by
 have same:(∃p∈kvs,p.1=f k)↔(kk.any λn=>decide (n.1=k))=true:=by
  rw[List.any_eq_true];constructor
  ·rintro⟨p,i,e⟩;have:f k∈kk.map (λp=>f p.1):=by rw[<-h,<-e];exact aFv.mpr ⟨p,i,rfl⟩
   obtain⟨q,j,g⟩:=aFv.mp this;exact⟨q,j,by simpa using m g⟩
  ·rintro⟨q,j,e⟩;have:f q.1∈kvs.map (·.1):=by rw[h];exact aFv.mpr ⟨q,j,rfl⟩
   obtain⟨p,i,g⟩:=aFv.mp this;exact⟨p,i,by rw[g];simp at e;rw[e]⟩
 unfold putD putK;by_cases c:∃p∈kvs,p.1=f k
 ·rw[if_pos c,if_pos (same.mp c)];refine⟨?_,A1 m k hd kvs kk h l⟩
  have o:(open Classical in kvs.map λp=>if p.1=f k then (p.1,d) else p).map (·.1)=kvs.map (·.1):=by
   rw[List.map_map];apply aI9;intro p _;simp only[Function.comp];split <;> rfl
  have g:(kk.map λp=>if p.1=k then (p.1,v) else p).map (λp=>f p.1)=kk.map (λp=>f p.1):=by
   rw[List.map_map];apply aI9;intro p _;simp only[Function.comp];split <;> rfl
  rw[o,g,h]
 ·rw[if_neg c,if_neg (λz=>c (same.mpr z))];refine⟨by simp[h],?_⟩;simp only[List.map_append,List.map_cons,List.map_nil];exact kS l (fI hd)
end
theorem pY{o:MO}{ob:HO}(R:Rep K μ mh H)(h:μ[n]? =some a)(i:EN (some ob))(l:m7 K μ (upd H a ob) o a):Rep K μ (mh.set n o) (upd H a ob):=by
 have P:aI μ H μ (upd H a ob):=aI.set R h;refine⟨by simp[R.len],R.nd,λm b f d e=>?_⟩;by_cases c:m=n
 ·subst c;rw[h]at d;cases d;have g:m<mh.length:=by rw[<-R.len];exact(aFp.mp h).1
  rw[List.getElem?_set_self g]at e;cases e;exact l
 ·rw[List.getElem?_set_ne (Ne.symm c)]at e;exact(R.obj m b f d e).mono R P (aK λz=>c (w4 R.nd d (by rw[z];exact h)))
theorem Rep.Q4{q:Addr}{o:MO}{ob:HO}(R:Rep K μ mh H)(a:H q=none)(l:m7 K (μ++[q]) (upd H q ob) o q):Rep K (μ++[q]) (mh++[o]) (upd H q ob):=by
 have b:Rep K μ mh (upd H q ob):=R.new a;exact b.IY (λz=>R.ne a z rfl) l
def vI(t:Bool):WE:=λ_ mh Q=>Q (.ref mh.length) (mh++[.bI t []])
section
variable {X:Cx}{pos:Pos}
theorem RS:LE X (.Dict [] [] pos) (vI false):=PE.imp K1 λσ H Q h=>by
 obtain⟨μ,c,mh,R,a,E,h,F⟩:=h;intro p b;exact F _ _ h (μ++[p]) _ _ (aI.BC a b) (a.Q4 b ⟨[],⟨[],aP,rfl,rfl⟩,by simp[IsL]⟩) (by unfold Is;exact⟨p,by rw[<-a.len];simp,rfl⟩)
theorem RQ:LE X (.Dict [] [] pos) (vI true):=PE.imp K0 λσ H Q h=>by
 obtain⟨μ,c,mh,R,a,E,h,F⟩:=h;intro p b;exact F _ _ h (μ++[p]) _ _ (aI.BC a b) (a.Q4 b ⟨[],⟨[],aP,rfl,rfl⟩,by simp[IsL]⟩) (by unfold Is;exact⟨p,by rw[<-a.len];simp,rfl⟩)
end
theorem gV{k:Key}{v:V}(h:Is K μ H (aS k) v):v=kV k:=by
 cases k <;> (simp only[aS]at h;unfold Is at h;exact h)
theorem fD{K:aJn}{μ:List Addr}{H:Hp}:∀{ks:List Key} {vs:List V},IsL K μ H (ks.map aS) vs->vs=ks.map kV
 | [],vs,h=>by simp only[List.map_nil]at h;unfold IsL at h;exact h
 | k::ks,vs,h=>by
  simp only[List.map_cons]at h;unfold IsL at h;obtain⟨v,r,rfl,i,l⟩:=h;rw[gV i,fD l];rfl
theorem mZ{v:V}{t:Bool}(R:Rep K μ mh H)(h:Is K μ H (.ref n) v)(e:mh[n]? =some (.bI t kvs)):∃a vs,v= .ref a/\μ[n]? =some a/\rR (H a) (kvs.map (·.1)) vs t/\IsL K μ H (kvs.map (·.2)) vs:=by
 obtain⟨a,q,rfl⟩:=jG h;obtain⟨vs,hv,l⟩:=R.obj n a _ q e;exact⟨a,vs,rfl,q,hv,l⟩
def T5(o k d:D)(mh:MH)(Q:MH->Prop):Prop:=∃n kvs key,o= .ref n/\mh[n]? =some (.bI false kvs)/\k=aS key/\kvs.length<sizeLine/\Q (mh.set n (.bI false (putD kvs k d)))
def E5(w g wi:WE):WS:=λE a mh=>w a mh λd b=>g a b λo c=>wi a c λi e=>T5 o i d e λf=>E.nx a f
section
variable {X:Cx}{pos pos' jX:Pos}{o i e:Expr}{es:List Expr}{w wo wi:WE}{wa:WA}
theorem RF(V:X.A.units+64<cLine)(he:LE X e w)(ho:LE X o wo)(hi:LE X i wi)(I:swapsWith e (some (.Subscript o i pos')) pos.line X.env=pure false:=by rfl):LS X (.Assign [.Subscript o i pos'] e pos) (E5 w wo wi):=
 PS.imp (QC (by lia) ho hi he I) λD σ H h=>by
  obtain⟨μ,g,mh,E,R,En,h,F⟩:=h;refine⟨μ,g,mh,_,R,En,h,λd m q μ1 v W p z J=>?_⟩;refine⟨μ1,g,m,_,z,En.mono R p,q,λL r q2 s Y Z t R2 M=>?_⟩;refine⟨s,g,r,_,R2,En.mono R (p.trans t),q2,λdi u q3 b vi x y j N=>?_⟩;obtain⟨n,kvs,key,rfl,O,rfl,hz,P⟩:=q3;obtain⟨a,vs,rfl,B,⟨kk,hv,C,rfl⟩,l⟩:=mZ j (Is.mono R2 y _ _ M) O;cases gV N;have Q:=Is.mono z (t.trans y) d v J;have G:aI b x b (upd x a (.dK (putK kk key v))):=aI.set j B;have ln:kk.length=kvs.length:=by have:=aGx List.length C;simp at this;lia
  obtain⟨S,T⟩:=sO (f:=aS) iB key Q C l;have U:Rep X.K b (u.set n (.bI false (putD kvs (aS key) d))) (upd x a (.dK (putK kk key v))):=pY j B (by trivial) ⟨_,⟨_,aP,S,rfl⟩,T.mono j G⟩;have c:=((p.trans t).trans y).trans G;exact⟨a,_,rfl,.k hv (by lia),F.nx g _ P b σ _ c U (En.mono R c)⟩
end
def iJ(h:Heap)(d:Addr)(es:Array DictEntry)(ep:Nat):Prop:=∃o,h.get? d=some o/\o.ExactDict/\o.data= .dict es ep
variable{es:Array DictEntry}
theorem iJ.keep{h h' :Heap}{d:Addr}{ep:Nat}(x:iJ h d es ep)(k:∀o,h.get? d=some o->h'.get? d=some o):iJ h' d es ep:=let ⟨o,a,b,c⟩:=x;⟨o,k o a,b,c⟩
section
variable {prog:Program}{w:World}{A:Around}{E:aJo}{s:Shared}{it d:Addr}{i ep:Nat}{es:Array DictEntry}
variable{Q:Option Value->Shared->Prop}
theorem A3{e:DictEntry}(b:Heap.IsKeyIter s.heap it d i es.size ep)(m:iJ s.heap d es ep)(n:es[i]? =some e)
  (q:∀h',Heap.IsKeyIter h' it d (i+1) es.size ep->Heap.SameBut it s.heap h' ->Q (some e.key) {s with heap:=h'}):wpAny (model prog w) A (pyNext (.ref it)) Q E s:=by
 obtain⟨o,ho,h,hd⟩:=id b;obtain⟨od,f,p,g⟩:=id m;have ht:=b.typeIs;refine aFm (aH0 (aG3 ht aH3 (aG1 aH3 ht F.entry_dict_keyiterator_next ?_ (F.args_dict_keyiterator_next_1 _))));refine aFm (aFo ?_);refine aFm (aFm (aFm (aHb ht (aFo ?_))));refine aFm (aI2 ho hd ?_);show wpAny _ _ (if (Value.ref d==Value.none)=true then _ else _) _ _ _;rw[if_neg (show ¬((Value.ref d==Value.none)=true) from Bool.false_ne_true)];refine aFm (aFo ?_);refine aFm (aIr f g ?_);rw[if_neg (show ¬(((es.size:Int) !=(es.size:Int))=true) by simp)];refine aFm (aFo ?_);refine aFm (wpAny_dictEpoch f g ?_);rw[if_neg (show ¬(((ep:Int) !=(ep:Int))=true) by simp)];refine aFo ?_
 have r:(if (i:Int)<0 then none else es[(i:Int).toNat]?)=some e:=by
  rw[if_neg (by lia)];simpa using n
 show wpAny _ _ (match (if (i:Int)<0 then none else es[(i:Int).toNat]?) with | some e=>_ | none=>_) _ _ _;rw[r];refine aFm (aFm (aHb ht (aFo ?_)));refine aFm (wpAny_isOneOf_keyiter ht ?_);refine aFm (aJf ho hd (by show 1<4;lia) ?_)
 have j:(s.heap.update it (Obj.mapFields λx=>x.setIfInBounds 1 (rawInt ((i:Int)+1)))).get? it=some (Obj.mapFields (λx=>x.setIfInBounds 1 (rawInt ((i:Int)+1))) o):=by
  refine aGv _ ho ?_;obtain⟨c,k,l,sl⟩:=o;simp only at hd h;subst hd;rfl
 have a:Heap.IsKeyIter (s.heap.update it (Obj.mapFields λx=>x.setIfInBounds 1 (rawInt ((i:Int)+1)))) it d (i+1) es.size ep:=by
  refine⟨_,j,?_,?_⟩
  ·obtain⟨c,k,l,sl⟩:=o;simp only at hd h;subst hd;exact h
  ·obtain⟨c,k,l,sl⟩:=o;simp only at hd h;subst hd;rfl
 refine aFm (aGf (aFm (wpAny_isOneOf_keyiter (Heap.IsKeyIter.typeIs (s:={s with heap:=s.heap.update it (Obj.mapFields λx=>x.setIfInBounds 1 (rawInt ((i:Int)+1)))}) a) (aFo (aFo ⟨_,rfl,aFo (q _ a (aGg _ _ _))⟩)))))
theorem FO(g:A.handled=none)(a:Heap.IsKeyIter s.heap it d i es.size ep)(h:iJ s.heap d es ep)(j:es[i]? =none)
  (q:∀h',Heap.ExtBut it s.heap h' ->Q none {s with heap:=h'}):wpAny (model prog w) A (pyNext (.ref it)) Q E s:=by
 obtain⟨o,ho,n,hd⟩:=id a;obtain⟨od,c,k,f⟩:=id h;have ht:=a.typeIs;refine aFm (aH0 (aG3 ht aH3 (aG1 aH3 ht F.entry_dict_keyiterator_next ?_ (F.args_dict_keyiterator_next_1 _))));refine aFm (aFo ?_);refine aFm (aFm (aFm (aHb ht (aFo ?_))));refine aFm (aI2 ho hd ?_);show wpAny _ _ (if (Value.ref d==Value.none)=true then _ else _) _ _ _;rw[if_neg (show ¬((Value.ref d==Value.none)=true) from Bool.false_ne_true)];refine aFm (aFo ?_);refine aFm (aIr c f ?_);rw[if_neg (show ¬(((es.size:Int) !=(es.size:Int))=true) by simp)];refine aFm (aFo ?_);refine aFm (wpAny_dictEpoch c f ?_);rw[if_neg (show ¬(((ep:Int) !=(ep:Int))=true) by simp)];refine aFo ?_
 have l:(if (i:Int)<0 then none else es[(i:Int).toNat]?)=none:=by
  rw[if_neg (by lia)];simpa using j
 show wpAny _ _ (match (if (i:Int)<0 then none else es[(i:Int).toNat]?) with | some e=>_ | none=>_) _ _ _;rw[l];refine aFm (aFm (aHb ht (aFo ?_)));refine aFm (aJf ho hd (by show 0<4;lia) ?_);refine aFm (aFm (aG6 (aFm (aJ1 (show firstArgMember (Value.type "StopIteration") []=pure _ from rfl) (aG6 ?_)))));refine aFm (wpAny_handled ?_);rw[show A.in1.handled=none from g];refine wpAny_throw (aFm (aHp (T:= "StopIteration") (b:=true) ⟨_,aFs _ rfl,rfl⟩ rfl (aFo (q _ ?_))));intro b u m e;refine aFn _ (aFn _ ?_);rw[Heap.get?_update_ne _ _ _ _ m];exact e
end
theorem iJ.typeIs{s:Shared}{d:Addr}{ep:Nat}(x:iJ s.heap d es ep):s.TypeIs (.ref d) "dict":=let ⟨o,a,b,c⟩:=x;⟨o,a,b.1⟩
section
variable {prog:Program}{w:World}{A:Around}{E:aJo}{s:Shared}{d:Addr}{ep:Nat}{es:Array DictEntry}
theorem A2{Q:aJo}(hd:(d==sysModules)=false)(b:iJ s.heap d es ep)
  (q:Q (.ref s.heap.objs.size) {s with heap:=s.heap.push {cls:= .type "dict_keyiterator",data:= .fields #[.ref d,.int 0 0,.int es.size 0,.int ep 0]}}):wpAny (model prog w) A (pyIter (.ref d)) Q E s:=by
 obtain⟨o,ho,c,a⟩:=id b;refine aHc b.typeIs F.slot_dict_iter (aG1 F.slot_dict_iter b.typeIs F.entry_dict_iter ?_ (F.args_dict_iter_1 _));refine aFm (aFm (wpAny_notOrdered_dict b.typeIs (aFm (aFo (aFo ?_)))));refine aFm (aFo ?_);refine aFm (m:=Builtin.Dict.showsAll d) ?_;show wpAny _ _ (if (d==sysModules)=true then _ else _) _ _ _;rw[hd,if_neg Bool.false_ne_true];refine aFo (aFm (aIr ho a (aFm (wpAny_dictEpoch ho a (aFm (aG6 (aFo ⟨_,rfl,"dict_keyiterator",_,⟨_,aFs _ rfl,rfl⟩,aH3.lookup,q⟩)))))))
theorem PR(hd:(d==sysModules)=false):W.KdlSrc prog w "dict" d d es.size (λi v=>∃e,es[i]? =some e/\v=e.key) λh=>iJ h d es ep where
 type:=λs x=>x.typeIs
 there:=λh x=>let ⟨o,a,_⟩:=x;⟨aFu a,aFu a⟩
 keep:=λh h' x k=>x.keep λo=>k d (.inl rfl) o
 notList:=rfl
 notTuple:=rfl
 hint:=λA E s Q x q=>W.kdl_hint_dict x.typeIs q
 iter:=λA s m x=>by
  refine⟨_,λi h=>Heap.IsKeyIter h s.heap.objs.size d i es.size ep/\iJ h d es ep,λE Q q=>A2 hd x q,?_,?_⟩
  ·have g:d≠s.heap.objs.size:=by obtain⟨o,a,_⟩:=x;exact aFz (aFu a)
   refine⟨λb j=>by simp at j;simp[j],λi h h' st k=>⟨st.1.at λo=>k _ (by simp) o,st.2.keep λo=>k _ (by simp) o⟩,λi s1 Q E hi st q=>?_,λs1 Q E st q=>?_,λi s1 Q E st q=>wpAny_pyIter_keyiter st.1 q⟩
   ·have l:es[i]? =some es[i]:=by simp[hi]
    refine A3 st.1 st.2 l λh' a b=>q _ h' s1.toks ⟨_,l,rfl⟩ ⟨a,st.2.keep λo e=>(b.2 d g).trans e⟩ λc o f e=>?_;simp at f;exact(b.2 c f).trans e
   ·refine FO m st.1 st.2 (by simp) λh' a=>q h' s1.toks λc o f e=>?_;simp at f;exact a c o f e
  ·refine⟨⟨_,aFs _ rfl,rfl,rfl⟩,x.keep λo e=>aFn _ e⟩
end
end D3
namespace TS
open PySem PySem.Spec PyProof.Rows L2
section
variable {prog:Program}{w:World}{A:Around}{E:aJo}{s:Shared}{lt:Value×Value->Value×Value->Bool}{r d:Addr}{n:Nat}{P:Nat->Value->Prop}{OK:Heap->Prop}{T:String}
theorem J0(O:Wk lt){Q:aJo}(src:W.KdlSrc prog w T r d n P OK)(j:A.handled=none)(ok:OK s.heap)(l:n<64)
  (g:∀vs:List Value,ItemsOf P vs.toArray n->∀(a:Heap) (tk:Nat),(∀b o,s.heap.get? b=some o->a.get? b=some o)->∃κ,2<=vs.length->∀h' :Heap,(∀b o,a.get? b=some o->h'.get? b=some o)->
   EU prog w A.in1.in1 {s with heap:=h',toks:=tk} κ lt (pairsOf vs)/\∀f p,f κ {s with heap:=h',toks:=tk}->wpAny (model prog w) A.in1.in1 (keyKind' vs.toArray) f p {s with heap:=h',toks:=tk})
  (h:∀vs:List Value,ItemsOf P vs.toArray n->∀out:List Value,out.Perm vs->out.Pairwise (λx y=>lt (y,y) (x,x)=false)->∀(a c:Heap) (tk:Nat) (ep:Nat),(∀b o,s.heap.get? b=some o->a.get? b=some o)->(∀b o,a.get? b=some o->c.get? b=some o)->
   c.get? a.objs.size=some (seqObj "list" out.toArray ep)->Q (.ref a.objs.size) {s with heap:=c,toks:=tk}):
  wpAny (model prog w) A (call (.builtin "sorted") [.ref r]) Q E s:=by
 have C:sizeLine=16777216:=aGb;refine aI6 kind_sorted plain_sorted entry_sorted (args_sorted1 _) ?_;unfold Builtin.«sorted»;refine aFm (m:=checkCount "sorted" 1 1 _) (aFo ?_);refine aFm (W.kdu_collect src j ok (by lia) λa tk acc kept items=>?_);have hsz:acc.toList.length=n:=by have:=items.1;simpa using this
 obtain⟨κ,g⟩:=g acc.toList (by simpa using items) a tk kept;refine aFm (aJi ?_ (by lia));have ob:(a.push (seqObj "list" acc.toList.toArray 0)).get? a.objs.size=some (seqObj "list" acc.toList.toArray 0):=aFs _ rfl;refine aFm (aGf (aG1 slot_list_sort ⟨_,ob,rfl⟩ entry_list_sort (C4 (κ:=κ) (s:={s with heap:=a.push (seqObj "list" acc.toList.toArray 0),toks:=tk}) O ob (by lia) (λc h' k=>?_) λout t u=>⟨_,rfl,aFo ⟨_,rfl,?_⟩⟩) (args_list_sort _)))
 ·obtain⟨v,z⟩:=g c h' λb o e=>k b o (aFz (aFu e)) (aFn _ e);exact⟨v,λf q=>z f _ q⟩
 ·obtain⟨ep,he⟩:=sortedHeap_at (out:=out.toArray) ob;refine h acc.toList (by simpa using items) out t u a _ tk ep kept (λb o e=>?_) he;have i:=aFu e;have B:b<(a.push (seqObj "list" acc.toList.toArray 0)).objs.size:=by rw[size_push'];exact aGr i
  rw[sortedHeap_old (Nat.ne_of_lt i) B];exact aFn _ e
end
end TS
namespace D3
open PySem PySem.Spec PyProof.Rows L2
def vA:OA:=λxs mh Q=>∃n t kvs,xs=[.ref n]/\mh[n]? =some (.bI t kvs)/\kvs.length<64/\EL (kvs.map (·.1))/\∀fs:List D,fs.Perm (kvs.map (·.1))->fs.Pairwise (λd e=>lx (enc e) (enc d)=false)->Q (.ref mh.length) (mh++[.lst fs])
variable{μ:List Addr}
theorem MN{K:aJn}{H:Hp}(k:Key):Is K μ H (aS k) (kV k):=by
 cases k <;> (simp only[aS];unfold Is;rfl)
theorem sU{K:aJn}{μ:List Addr}{H:Hp}:∀ks:List Key,IsL K μ H (ks.map aS) (ks.map kV)
 | []=>by simp[IsL]
 | k::ks=>by simp only[List.map_cons];unfold IsL;exact⟨_,_,rfl,MN k,sU ks⟩
theorem tS{P:Program}{w:World}{k:Key}{u:Value}(h:(aR P w).is k u=true):RelV (kV k) u:=by
 rcases bQ (k:=k) (v:=u) h with ⟨i,t,rfl,rfl⟩ | ⟨x,t,rfl,rfl⟩
 ·exact⟨t,rfl⟩
 ·exact⟨t,rfl⟩
theorem oJ{P:Program}{w:World}:∀{es:List DictEntry} {vs:List (Key×Value)} {kk:List (Key×V)},Pairs (aR P w) es vs->KV kk vs->Vals (kk.map λp=>kV p.1) (es.map (·.key))
 | [],vs,kk,p,r=>by cases p;cases r;exact .nil
 | e::es,vs,kk,p,r=>by
  cases p with
  | cons a c b=>
   cases r with
   | cons r1 r2=>
    simp only[List.map_cons];refine .cons ?_ (oJ b r2);rw[r1.1];exact tS a
theorem nF{K:aJn}{μ:List Addr}{H:Hp}:∀kk:List (Key×V),IsL K μ H (kk.map λp=>aS p.1) (kk.map λp=>kV p.1)
 | []=>by simp[IsL]
 | p::kk=>by simp only[List.map_cons];unfold IsL;exact⟨_,_,rfl,MN _,nF kk⟩
theorem xD{K:aJn}{μ:List Addr}{H:Hp}:∀{kk:List (List Key×V)} {xs:List (List Key×Addr×Value)},KT H kk xs->IsL K μ H (kk.map λp=>.tup (p.1.map aS)) (xs.map λx=>.ref x.2.1)
 | [],xs,r=>by cases r;simp[IsL]
 | p::kk,xs,r=>by
  cases r with
  | cons r1 r2=>
   simp only[List.map_cons];unfold IsL;refine⟨_,_,rfl,?_,xD r2⟩;unfold Is;exact⟨_,_,rfl,.inl r1.2.1,sU _⟩
theorem gZ:∀(xs:List (List Key×Addr×Value)),Vals (xs.map λx=>V.ref x.2.1) (xs.map λx=>Value.ref x.2.1)
 | []=>.nil
 | x::xs=>.cons rfl (gZ xs)
theorem SM{X:Cx}{pins:List (Addr×Obj)}{σ:L2.St}{H:Hp}{s:Shared}{a:Addr}{ks:List D}{vs:List V}{t:Bool}(I:Inv X pins σ H s)(hv:rR (H a) ks vs t):
  ∃(es:Array DictEntry) (ep:Nat) (f:List V),(a==sysModules)=false/\iJ s.heap a es ep/\IsL X.K μ H ks f/\Vals f (es.toList.map (·.key)):=by
 cases t with
 | false=>
  obtain⟨kk,e,rfl,rfl⟩:=hv;obtain⟨z,hd,vs,r,o,es,ep,b,c,d,g,h,i⟩:=B2 I.bG e;exact⟨es,ep,_,hd,⟨o,b,c,d⟩,nF kk,oJ h r⟩
 | true=>
  obtain⟨kk,e,rfl,rfl⟩:=hv;obtain⟨z,hd,xs,r,o,es,ep,b,c,d,g,h⟩:=GJ I.bG e;refine⟨es,ep,_,hd,⟨o,b,c,d⟩,xD r,?_⟩;rw[g,List.map_map];exact gZ xs
section
variable {X:Cx}
theorem EA(hu:X.A.units+64<cLine)(V:X.calm=true):cB X (.builtin "sorted") (dJ X.K vA):=by
 intro pins s σ H xs us Q I r q;obtain⟨μ,mh,ds,R,L,W,⟨n,t,kvs,rfl,e,Y,U,q⟩,F⟩:=q;obtain⟨v,rfl,Z⟩:=gO W;obtain⟨a,vs,rfl,hn,hv,l0⟩:=mZ L Z e;obtain⟨u,rfl,ru⟩:=vals1 r;cases ru;obtain⟨es,ep,ws,hd,B,l,M⟩:=SM (μ:=μ) I hv;have C:=hU I (kvs.map (·.1)) (qU U) l M;have N:es.size=kvs.length:=by have:=bK C;simpa using this
 have u2:X.A.in1.in1.units+40<cLine:=by show X.A.units+1+1+40<_;lia
 have p:∀vs:List Value,ItemsOf (λi v=>∃e,es[i]? =some e/\v=e.key) vs.toArray es.size->vs=es.toList.map (·.key):=λvs h=>by
  apply List.ext_getElem?;intro i;have hs:vs.length=es.size:=by simpa using h.1
  by_cases hi:i<es.size
  ·have x :i<vs.length:=by lia
   obtain⟨e,j,f⟩:=h.2 i vs[i] (by simp[x]);rw[List.getElem?_map,List.getElem?_eq_getElem x];simp only[Array.getElem?_toList,j,Option.map_some,f]
  ·rw[List.getElem?_eq_none (by lia),List.getElem?_eq_none (by simp;lia)]
 refine TS.J0 (yW s.heap) (PR (ep:=ep) hd) (I.ok.hd V) B (by lia) (λvs hi j tk kept=>?_) λvs hi out O D j f tk E kept g he=>?_
 ·cases p vs hi;by_cases f:2<=(es.toList.map (·.key)).length
  ·obtain⟨κ,hk⟩:=pH (prog:=X.prog) (w:=X.w) (A:=X.A.in1.in1) (s:={s with toks:=tk}) u2 U C f;exact⟨κ,λ_ h' k=>hk h' λb o e=>k b o (kept b o e)⟩
  ·exact⟨general',λz=>absurd z f⟩
 ·cases p vs hi;obtain⟨ts,P,t2,t3,t4⟩:=OY l M C;rw[<-t3]at O;obtain⟨c,G,S⟩:=pL (·.u) O ts rfl;have y:∀t∈c,Is X.K μ H t.d t.v/\RelV t.v t.u/\Vl s.heap t.d t.u:=λt ht=>t4 t (G.mem_iff.mp ht);have pd:(c.map (·.d)).Perm (kvs.map (·.1)):=by rw[<-P];exact G.map _
  have pw:(c.map (·.d)).Pairwise (λd e=>lx (enc e) (enc d)=false):=by
   rw[<-S]at D;rw[List.pairwise_map]at D⊢;refine D.imp_of_mem λ{t t'} m m' J=>?_;have e1:dv s.heap t.u=t.d:=lL (y t m).2.2;have e2:dv s.heap t'.u=t'.d:=lL (y t' m').2.2;unfold ltV at J;rw[e1,e2]at J;exact J
  have ln:(c.map (·.v)).length<=sizeLine:=by
   have a1:=G.length_eq;have a2:=aGx List.length P;have a3:=aGb;simp at a2⊢
   lia
  have T:Inv X pins σ H {s with heap:=j,toks:=tk}:=I.kept (t' :=tk) kept
  have I1:Inv X pins σ (upd H j.objs.size (.lst (c.map (·.v)))) {s with heap:=f,toks:=tk}:=
   T.laid (h' :=f) (t' :=tk) g (aFq _) ⟨ln,out,E,by rw[<-S];exact pD λt ht=>(y t ht).2.1,he⟩
  exact⟨.ref j.objs.size,_,I1,rfl,gW L F (sT λt ht=>(y t ht).1) (q _ pd pw) _ (T.bG.fresh (aFq _))⟩
end
theorem yV:∀x y:List Int,lx x y=false->lx y x=false->x=y
 | [],[],_,_=>rfl
 | [],b::y,h,_=>by simp[lx]at h
 | a::x,[],_,h=>by simp[lx]at h
 | a::x,b::y,h1,h2=>by
  unfold lx at h1 h2;by_cases e:a=b
  ·subst e;simp at h1 h2;rw[yV x y h1 h2]
  ·have c :¬b=a:=λz=>e z.symm;simp[e,c]at h1 h2
   lia
theorem yS(x:List Int):lx x x=false:=by
 cases h:lx x x with
 | false=>rfl
 | true=>have:=yU x x h;rw[h]at this;cases this
theorem BZ:∀{a:List Sc} {es fs:List D},cQ a es=true->cQ a fs=true->(es.map eV).flatten=(fs.map eV).flatten->es=fs
 | [],[],[],_,_,_=>rfl
 | [],_::_,_,h,_,_=>by simp[cQ]at h
 | [],_,_::_,_,h,_=>by simp[cQ]at h
 | _::_,[],_,h,_,_=>by simp[cQ]at h
 | _::_,_::_,[],_,h,_=>by simp[cQ]at h
 | c::a,e::es,f::fs,h1,h2,h=>by
  simp only[cQ,Bool.and_eq_true]at h1 h2;simp only[List.map_cons,List.flatten_cons]at h
  have he:e=f:=by
   apply aGc;intro ne;have b:=yT h1.1 h2.1 ne (es.map eV).flatten (fs.map eV).flatten;have d:=yT h2.1 h1.1 (λz=>ne z.symm) (fs.map eV).flatten (es.map eV).flatten;rw[h,yS]at b;rw[<-h,yS]at d;exact ne (GI h1.1 h2.1 (yV _ _ b.symm d.symm))
  subst he;rw[BZ h1.2 h2.2 (List.append_cancel_left h)]
theorem OT{ds:List D}(U:EL ds){d e:D}(hd:d∈ds)(he:e∈ds)(h:enc d=enc e):d=e:=by
 rcases U with ⟨c,a⟩ | ⟨c,g,a⟩
 ·have b:=a d hd;have f:=a e he;cases c <;> cases d <;> simp[d8]at b <;> cases e <;> simp[d8]at f
  ·simpa[enc,eV] using h
  ·exact GI (c:= .s) rfl rfl h
 ·obtain⟨es,rfl,b⟩:=a d hd;obtain⟨fs,rfl,f⟩:=a e he;rw[BZ b f h]
theorem nB{ds:List D}(U:EL ds):∀{l1 l2:List D},(∀d∈l1,d∈ds)->l1.Perm l2->l1.Pairwise (λd e=>lx (enc e) (enc d)=false)->l2.Pairwise (λd e=>lx (enc e) (enc d)=false)->l1=l2
 | [],l2,_,p,_,_=>(List.nil_perm.mp p).symm
 | a::t,l2,hm,p,s1,s2=>by
  cases l2 with
  | nil=>exact absurd p.length_eq (by simp)
  | cons b u=>
   have c:lx (enc b) (enc a)=false:=by
    rcases aFy.mp (p.mem_iff.mpr aFr) with z | z
    ·rw[z];exact yS _
    ·exact(aIg.mp s1).1 b z
   have f:lx (enc a) (enc b)=false:=by
    rcases aFy.mp (p.mem_iff.mp aFr) with z | z
    ·rw[z];exact yS _
    ·exact(aIg.mp s2).1 a z
   have e:a=b:=OT U (hm a aFr) (hm b (p.mem_iff.mpr aFr)) (yV _ _ f c);subst e;rw[nB U (λd hd=>hm d (List.mem_cons_of_mem _ hd)) (List.Perm.cons_inv p) (List.pairwise_cons.mp s1).2 (List.pairwise_cons.mp s2).2]
def iO(mh:MH)(b:Nat)(mh' :MH):Prop:=∃a T,mh' =a++T/\j9 mh b a
variable{mh:MH}{b:Nat}
theorem iO.refl(h:OC mh b):iO mh b mh:=⟨mh,[],by simp,.refl h⟩
variable{mh':MH}
theorem iO.le(h:iO mh b mh'):mh.length<=mh'.length:=by
 obtain⟨a,T,rfl,t⟩:=h;rw[List.length_append,t.len];lia
theorem iO.blt(h:iO mh b mh'):b<mh.length:=by
 obtain⟨a,T,rfl,t⟩:=h;rw[<-t.len];exact t.1.lt
theorem iO.bag(h:iO mh b mh'):OC mh' b:=by
 obtain⟨a,T,rfl,⟨c,m,e,r⟩,_⟩:=h;exact⟨c,m,by rw[List.getElem?_append_left (List.getElem?_eq_some_iff.mp e).1];exact e,r⟩
theorem iO.to{mh mh' a:MH}(h:iO mh b mh')(t:j9 mh' b a):iO mh b a:=by
 have i:=h.blt;obtain⟨d,T,rfl,g⟩:=h;have f:b<d.length:=by rw[g.len];exact i
 obtain⟨⟨c,m,e,r⟩,o,rfl⟩:=t;rw[List.set_append_left _ _ f]at e⊢;refine⟨d.set b o,T,rfl,g.trans ⟨⟨c,m,?_,r⟩,o,rfl⟩⟩;rw[List.getElem?_append_left (by simpa using f)]at e;exact e
theorem iO.push(h:iO mh b mh')(o:MO):iO mh b (mh' ++[o]):=by
 obtain⟨a,T,rfl,c⟩:=h;exact⟨a,T++[o],by simp,c⟩
theorem iO.set{b n:Nat}(h:iO mh b mh')(d:mh.length<=n)(o:MO):iO mh b (mh'.set n o):=by
 obtain⟨a,T,rfl,c⟩:=h;refine⟨a,T.set (n-a.length) o,?_,c⟩;rw[List.set_append_right _ _ (by rw[c.len];exact d)]
theorem tJ{a:Int}{Q:DK}(h:iO mh b mh')(d:1<=a)(e:a<=1073741789)
  (q:∀r c,0<=r->r<a->iO mh b c->c.length=mh'.length->(∀n,mh.length<=n->c[n]? =mh'[n]?)->Q (.int r) c):wV [.ref b,.int a] mh' Q:=
 ⟨b,a,rfl,d,e,h.bag,λr c f r1 t=>q r c f r1 (h.to t) t.len λn g=>t.other (by have:=h.blt;lia)⟩
open Classical in
noncomputable def aT:List (D×D)->D->Option D
 | [],_=>none
 | p::r,k=>if p.1=k then some p.2 else aT r k
theorem iW{K:aJn}{μ:List Addr}{H:Hp}(key:Key):∀{kvs:List (D×D)} {kk:List (Key×V)},kvs.map (·.1)=kk.map (λp=>aS p.1)->IsL K μ H (kvs.map (·.2)) (kk.map (·.2))->
  (fZ kk key=none/\aT kvs (aS key)=none)\/∃d v,fZ kk key=some v/\aT kvs (aS key)=some d/\Is K μ H d v
 | [],[],_,_=>.inl ⟨rfl,rfl⟩
 | [],_::_,h,_=>by simp at h
 | _::_,[],h,_=>by simp at h
 | p::kvs,q::kk,h,l=>by
  simp only[List.map_cons,List.cons.injEq]at h;simp only[List.map_cons]at l;unfold IsL at l;obtain⟨w,r,e,i,l⟩:=l;simp only[List.cons.injEq]at e;obtain⟨rfl,rfl⟩:=e;by_cases hk:q.1=key
  ·right;have a:p.1=aS key:=by rw[h.1,hk]
   exact⟨p.2,q.2,mE hk,by simp[aT,a],i⟩
  ·have a:¬p.1=aS key:=λz=>hk (iB (h.1.symm.trans z));rw[mF hk];simp only[aT,if_neg a];exact iW key h.2 l
section
variable {X:Cx}
theorem F5(n:X.A.units+64<cLine):OI X (λx y H Q=>∃a v,x= .ref a/\ES H a y (some v)/\Q v H):=by
 intro b c pins s σ H x y v u Q I j k h l;obtain⟨a,z,rfl,g,q⟩:=h;cases j;have i:=B4 I g;unfold subscriptTail;refine aFm ?_;rw[getitemInPython_of_ne i.not_modules];refine aFm (wpAny_specialOf i PySem.F.slot_dict_getitem.lookup ?_)
 have d:wpAny (model X.prog X.w) X.A (subscripted c false (.ref a) u) (λr e=>wpAny (model X.prog X.w) X.A (letTemporaryGo b (.ref a) r >>=λ_=>pure r) (EP X pins σ Q) X.xe e) X.xe s:=by
  rw[l];exact wpAny_operating (IL (by lia) I g k λw' o m f =>aFm (wpAny_letTemporaryGo (aFo ⟨z,H,m,f,q⟩)))
 first
  | exact aFo (aFm d)
  | exact aFm (aFo (aFm d))
  | exact aFm d
def yK:O2:=λx y mh Q=>∃n kvs key d,x= .ref n/\mh[n]? =some (.bI false kvs)/\y=aS key/\aT kvs y=some d/\Q d mh
theorem ixD(h:X.A.units+64<cLine):OI X (bE X.K yK):=by
 intro b c pins s σ H x y v u Q I i j q m;obtain⟨μ,mh,dx,C,R,f,o,p,⟨n,kvs,key,d,rfl,e,rfl,hd,q⟩,F⟩:=q;obtain⟨a,vs,rfl,D,⟨kk,hv,r,rfl⟩,l⟩:=mZ f o e;cases gV p
 rcases iW key r l with ⟨_,z⟩ | ⟨d',w,t,g,B⟩
 ·rw[hd]at z;cases z
 ·rw[hd]at g;cases g;exact F5 h b c pins s σ H _ _ v u Q I i j ⟨a,w,rfl,by rw[<-t];exact .k hv,F.here f q B⟩ m
end
def ZT(b:TA):TE:=λσ H Q=>b σ H λvs a=>∃j:Int,vs=[.int j]/\ -(2^62)<=j/\j<2^62/\∀p,a p=none->Q (.ref p) (upd a p (.rng 0 j))
theorem QJ{X:Cx}{a:Expr}{b:TA}{p pos:Pos}(hg:Gl X "range")(d:X.mg "range"=none)(f:PA X [a] b)(g:starEach [a] X.env=[(false,eval a X.env)]:=by rfl):PE X (.Call (.Name "range" p) [a] [] pos) (ZT b):=by
 intro pins s σ H Q I h;refine Call_ (jE I hg d boot_range (aGj (bV (f pos pins s σ H _ I h) λus s1 ⟨vs,k,c,r1,q1⟩=>?_) g rfl));obtain⟨j,e,q1,q2,q⟩:=q1;subst e
 cases r1 with
 | cons r i=>
  cases i;obtain⟨t,rfl⟩:=r;exact call_range_1 ⟨.ref s1.heap.objs.size,_,c.laid (a:=s1.heap.objs.size) (o:= .rng 0 j) (λ_ _ q=>aFn _ q) (aFq _) ⟨_,_,_,aFs _ rfl⟩,rfl,q _ (c.bG.fresh (aFq _))⟩
theorem AR:∀(vs:List Value) (n:Nat) (k:Int),vs.length=n->(∀(j:Nat) (v:Value),vs[j]? =some v->∃t,v=Value.int (k+j) t)->Vals ((List.range n).map λ(i:Nat)=>V.int (k+(i:Int))) vs
 | [],0,_,_,_=>.nil
 | [],n+1,_,h,_=>by simp at h
 | v::vs,0,_,h,_=>by simp at h
 | v::vs,n+1,k,h,hi=>by
  rw[List.range_succ_eq_map,List.map_cons,List.map_map];refine .cons ?_ ?_
  ·obtain⟨t,e⟩:=hi 0 v rfl;exact⟨t,by simpa using e⟩
  ·have:=AR vs n (k+1) (by simpa using h) λj v a=>by
    obtain⟨t,e⟩:=hi (j+1) v (by simpa using a);exact⟨t,by rw[e];congr 1;push_cast;lia⟩
   have e:((λi:Nat=>V.int (k+(i:Int))) ∘ Nat.succ)=λi:Nat=>V.int (k+1+(i:Int)):=by
    funext i;simp only[Function.comp];congr 1;push_cast;lia
   rw[e];exact this
theorem zT{X:Cx}(c:X.calm=true):cB X (.type "list") (λxs H Q=>∃a j,xs=[.ref a]/\H a=some (.rng 0 j)/\ -(2^62)<=j/\j<=16777216/\∀p,H p=none->Q (.ref p) (upd H p (.lst ((List.range j.toNat).map λ(i:Nat)=>V.int (0+(i:Int)))))):=by
 intro pins s σ H xs us Q I r q;obtain⟨a,j,rfl,e,d,k,q⟩:=q;obtain⟨u,rfl,f⟩:=vals1 r;cases f
 obtain⟨t,u,v,g⟩:=(show cA X.prog X.w H s.heap a (.rng 0 j) from I.bG a _ e)
 refine call_list_range (n:=j.toNat) (I.ok.hd c) g (small_one (by lia) (by lia) d (by lia)) (by rw[rangeSize_one];split <;> lia) (by lia) λh' tk b c' hk h hi=>?_;refine⟨.ref s.heap.objs.size,_,I.laid (a:=s.heap.objs.size) (o:= .lst ((List.range j.toNat).map λ(i:Nat)=>V.int (0+(i:Int)))) (t' :=tk) hk (aFq _) ⟨by simp[sizeLine_eq];lia,b.toList,c',AR _ _ _ (by simpa using hi.1) λi v hv=>?_,by simpa using h⟩,rfl,q _ (I.bG.fresh (aFq _))⟩;obtain⟨t,e⟩:=hi.2 i v (by simpa using hv);exact⟨t,by rw[e];simp⟩
def pB(b:WA):WE:=λc mh Q=>b c mh λds a=>∃j,ds=[.int j]/\ -(2^62)<=j/\j<=16777216/\Q (.ref a.length) (a++[.lst (jC 0 j.toNat)])
@[simp] theorem ZD (b:WA)(c:c9)(mh:MH)(Q:DK):pB b c mh Q=(b c mh λds a=>∃j,ds=[.int j]/\ -(2^62)<=j/\j<=16777216/\Q (.ref a.length) (a++[.lst (jC 0 j.toNat)])):=rfl
theorem R7{K:aJn}{H:Hp}(lo:Int)(n:Nat):IsL K μ H (jC lo n) ((List.range n).map λ(i:Nat)=>V.int (lo+(i:Int))):=by
 have:=uE (K:=K) (μ:=μ) (H:=H) ((List.range n).map λ(i:Nat)=>lo+(i:Int));rw[List.map_map,List.map_map]at this;exact this
theorem DM{X:Cx}{a:Expr}{f:WA}{k c d pos:Pos}(l:X.calm=true)(m:X.mg "list"=none)(n:X.mg "range"=none)(o:LA X [a] f)(hg:Gl X "list":=by rfl)(e:Gl X "range":=by rfl)
  (r:starEach [a] X.env=[(false,eval a X.env)]:=by rfl)
  (b:starEach [.Call (.Name "range" c) [a] [] d] X.env=(false,eval (.Call (.Name "range" c) [a] [] d) X.env)::starEach [] X.env:=by rfl):
  LE X (.Call (.Name "list" k) [.Call (.Name "range" c) [a] [] d] [] pos) (pB f):=
 PE.imp (qF (zT l) hg m GP (pM (QJ e n o r) qG b) (by decide) (by decide) b rfl) λσ H Q h=>by
  obtain⟨μ,s,mh,R,t,E,h,F⟩:=h;refine⟨μ,s,mh,_,t,E,h,λds u w x vs B y g z=>?_⟩;obtain⟨j,rfl,q1,q2,q⟩:=w;obtain⟨v,rfl,A⟩:=gO z;cases bR A;refine⟨j,rfl,q1,by lia,λp i=>?_⟩;show ∃a C,[V.ref p]=[.ref a]/\_;exact⟨p,j,rfl,aP,q1,q2,gW (g.new i) (F.at (y.trans (aI.new g i))) (R7 0 j.toNat) q⟩
end D3
namespace TS
open PySem PySem.Spec PyProof.Rows L2
section
variable {prog:Program}{w:World}{A:Around}{E:aJo}{s:Shared}{lt:Value×Value->Value×Value->Bool}
theorem AX(O:Wk lt){Q:aJo}{r:Addr}{Ok:List Value->Shared->Prop}
  (c:∀(E:aJo) (R:List Value->Shared->Prop),(∀vs a,Ok vs a ->R vs a)->wpAny (model prog w) A.in1 (collect (.ref r)) R E s)
  (g:∀vs a,Ok vs a ->vs.length<64)
  (i:∀vs a,Ok vs a ->∃κ,2<=vs.length->∀h' :Heap,(∀b o,a.heap.get? b=some o->h'.get? b=some o)->
   EU prog w A.in1.in1 {a with heap:=h'} κ lt (pairsOf vs)/\∀f l,f κ {a with heap:=h'}->wpAny (model prog w) A.in1.in1 (keyKind' vs.toArray) f l {a with heap:=h'})
  (h:∀vs a,Ok vs a ->∀out:List Value,out.Perm vs->out.Pairwise (λx y=>lt (y,y) (x,x)=false)->∀(d:Heap) (ep:Nat),(∀b o,a.heap.get? b=some o->d.get? b=some o)->
   d.get? a.heap.objs.size=some (seqObj "list" out.toArray ep)->Q (.ref a.heap.objs.size) {a with heap:=d}):
  wpAny (model prog w) A (call (.builtin "sorted") [.ref r]) Q E s:=by
 have z:sizeLine=16777216:=aGb;refine aI6 kind_sorted plain_sorted entry_sorted (args_sorted1 _) ?_;unfold Builtin.«sorted»;refine aFm (m:=checkCount "sorted" 1 1 _) (aFo ?_);refine aFm (c _ _ λvs a ok=>?_);have hsz:=g vs a ok;obtain⟨κ,i⟩:=i vs a ok;refine aFm (aJi ?_ (by lia));have ob:(a.heap.push (seqObj "list" vs.toArray 0)).get? a.heap.objs.size=some (seqObj "list" vs.toArray 0):=aFs _ rfl;refine aFm (aGf (aG1 slot_list_sort ⟨_,ob,rfl⟩ entry_list_sort (C4 (κ:=κ) (s:={a with heap:=a.heap.push (seqObj "list" vs.toArray 0)}) O ob (by lia) (λd h' k=>?_) λout n p=>⟨_,rfl,aFo ⟨_,rfl,?_⟩⟩) (args_list_sort _)))
 ·obtain⟨t,u⟩:=i d h' λb o e=>k b o (aFz (aFu e)) (aFn _ e);exact⟨t,λf q=>u f _ q⟩
 ·obtain⟨ep,he⟩:=sortedHeap_at (out:=out.toArray) ob;refine h vs a ok out n p _ ep (λb o e=>?_) he;have j:=aFu e;have v:b<(a.heap.push (seqObj "list" vs.toArray 0)).objs.size:=by rw[size_push'];exact aGr j
  rw[sortedHeap_old (Nat.ne_of_lt j) v];exact aFn _ e
end
end TS
namespace D3
open PySem PySem.Spec PyProof.Rows L2
section
variable {X:Cx}
variable{pins:List (Addr×Obj)}
theorem Inv.drawn{σ:L2.St}{H:Hp}{s a :Shared}(I:Inv X pins σ H s)(hg:a.gens=s.gens)(ho:a.os=s.os)(hk:∀b o,s.heap.get? b=some o->a.heap.get? b=some o):Inv X pins σ H a :=by
 have J:Inv X pins σ H {s with heap:=a.heap,toks:=a.toks}:=I.kept (t' :=a.toks) hk;obtain⟨e,f,g,h,i,j,k,l,m,c,d⟩:=J;exact⟨e,by rw[ho];exact f,by rw[hg];exact g,h,i,j,k,l,m,c,d⟩
theorem wK{P:Program}{w:World}:∀{ks:List Key} {us:List Value},Vals (ks.map kV) us->ks.length=us.length/\∀(i:Nat) (v:Value),us[i]? =some v->∃k,ks[i]? =some k/\(aR P w).is k v=true/\v.scannable=true
 | [],us,r=>by cases r;exact⟨rfl,λi v h=>by simp at h⟩
 | k::ks,us,r=>by
  cases r with
  | cons a b=>
   obtain⟨e,f⟩:=wK (P:=P) (w:=w) b;refine⟨by simp[e],λi v h=>?_⟩
   cases i with
   | zero=>
    simp at h;subst h;refine⟨k,rfl,oB a,?_⟩
    cases k with
    | inl i=>obtain⟨t,rfl⟩:=a;rfl
    | inr x=>obtain⟨t,rfl⟩:=a;rfl
   | succ i=>exact f i v (by simpa using h)
theorem IU(c:X.calm=true):cB X (.type "set") (λxs H Q=>∃(a:Addr) (ks:List Key),xs=[.ref a]/\p7 X.K H a (ks.map kV)/\ks.length+1<scanBound/\∀p,H p=none->Q (.ref p) (upd H p (CK X.prog X.w p (ST.bL [] ks)))):=by
 intro pins s σ H xs us Q I r q;obtain⟨a,ks,rfl,sq,m,q⟩:=q;obtain⟨u,rfl,d⟩:=vals1 r;cases d;obtain⟨aN,f,g,hz⟩:=I.list sq;obtain⟨j,k⟩:=wK (P:=X.prog) (w:=X.w) f;refine ST.set_list (knd:=aR X.prog X.w) (I.ok.hd c) g.isList (xs:=ks) (by simpa using j) (λi v h=>k i v (by simpa using h)) (by simp;lia) λh' tk l hk=>?_;exact⟨.ref s.heap.objs.size,_,I.laid (a:=s.heap.objs.size) (o:=CK X.prog X.w s.heap.objs.size (ST.bL [] ks)) (t' :=tk) (λb o e=>hk b o (aFu e) e) (aFq _) (yF l),rfl,q _ (I.bG.fresh (aFq _))⟩
theorem J1{σ:L2.St}{H:Hp}{s:Shared}{p:Addr}{ks:List Key}(I:Inv X pins σ H s)(e:H p=some (CK X.prog X.w p ks)):ST.lQ (aR X.prog X.w) (ST.eP X.w) s.heap p ks:=(I.bG p _ e).1
theorem CB:cB X (.builtin "len") (λxs H Q=>∃(p:Addr) (ks:List Key),xs=[.ref p]/\H p=some (CK X.prog X.w p ks)/\Q (.int ks.length) H):=by
 intro pins s σ H xs us Q I r q;obtain⟨p,ks,rfl,e,q⟩:=q;obtain⟨u,rfl,a⟩:=vals1 r;cases a;obtain⟨o,es,ep,t,ho,hex,hd,he,nd,c,d,ht⟩:=J1 I e;have f:=he.size;have:es.size<4096:=c;refine call_len_set ho hex hd d (by lia) ⟨.int ks.length,H,I.kept (h' :=s.heap) λb o e=>e,⟨_,by rw[<-f]⟩,q⟩
theorem pC{P:Program}{w:World}{h:Heap}:∀{ps:List (Key×Value)},(∀p∈ps,(aR P w).is p.1 p.2=true)->eC h (ps.map λp=>aS p.1) (ps.map (·.2))
 | [],_=>by simp[eC]
 | p::ps,hp=>by
  simp only[List.map_cons];unfold eC;refine⟨_,_,rfl,?_,pC λq c=>hp q (aFt _ c)⟩;have:=hp p aFr
  rcases bQ (k:=p.1) (v:=p.2) this with ⟨i,t,a,b⟩ | ⟨x,t,a,b⟩
  ·rw[a,b];simp only[aS];unfold Vl;exact⟨t,rfl⟩
  ·rw[a,b];simp only[aS];unfold Vl;exact⟨t,rfl⟩
theorem JK{ds es:List D}(U:EL ds)(p:es.Perm ds):EL es:=by
 rcases U with ⟨c,h⟩ | ⟨c,a,h⟩
 ·exact .inl ⟨c,λd hd=>h d (p.mem_iff.mp hd)⟩
 ·exact .inr ⟨c,a,λd hd=>h d (p.mem_iff.mp hd)⟩
theorem u5(hu:X.A.units+64<cLine)(L:X.calm=true):cB X (.builtin "sorted") (λxs H Q=>∃(p:Addr) (ks:List Key),xs=[.ref p]/\H p=some (CK X.prog X.w p ks)/\ks.length<64/\EL (ks.map aS)/\
  ∀f :List Key,f.Perm ks->(f.map aS).Pairwise (λd e=>lx (enc e) (enc d)=false)->∀q,H q=none->Q (.ref q) (upd H q (.lst (f.map kV)))):=by
 intro pins s σ H xs us Q I r q;obtain⟨p,ks,rfl,e,M,U,q⟩:=q;obtain⟨u,rfl,N⟩:=vals1 r;cases N;have O:=J1 I e;have sz:=aGb;have S:X.A.in1.in1.units+40<cLine:=by show X.A.units+1+1+40<_;lia
 refine TS.AX (A:=X.A) (yW s.heap) (Ok:=λvs c =>ST.Vof (aR X.prog X.w) ks vs/\c.gens=s.gens/\c.os=s.os/\∀b o,s.heap.get? b=some o->c.heap.get? b=some o)
  (λE R T=>ST.AY (A:=X.A.in1) O (I.ok.hd L) (by lia) λc vs hv hg ho hk=>T vs c ⟨hv,hg,ho,hk⟩) ?_ ?_ ?_
 ·rintro vs c ⟨⟨ps,V,i,l⟩,_⟩;have W:=aGx List.length V;have Y:=i.length_eq;simp at W Y
  lia
 ·rintro vs c ⟨⟨ps,rfl,i,l⟩,hg,ho,hk⟩;have Z:eC s.heap (ps.map λp=>aS p.1) (ps.map (·.2)):=pC l;have U2:EL (ps.map λp=>aS p.1):=JK U (by have:=i.map aS;simpa[Function.comp_def] using this);by_cases j:2<=(ps.map (·.2)).length
  ·obtain⟨κ,x⟩:=pH (prog:=X.prog) (w:=X.w) (A:=X.A.in1.in1) (s:={c with heap:=s.heap}) S U2 Z j;exact⟨κ,λ_ h' k=>x h' λb o e=>k b o (hk b o e)⟩
  ·exact⟨general',λz=>absurd z j⟩
 ·rintro vs c ⟨⟨ps,rfl,i,l⟩,hg,ho,hk⟩ out p1 y j ep kept he;obtain⟨a,B,C⟩:=pL (·.2) p1 ps rfl;have n:∀p∈a,(aR X.prog X.w).is p.1 p.2=true:=λp hp=>l p (B.mem_iff.mp hp);have G:Inv X pins σ H c :=Inv.drawn I hg ho hk;have D:(a.map (·.1)).Perm ks:=(B.map _).trans i
  have J:((a.map (·.1)).map aS).Pairwise (λd e=>lx (enc e) (enc d)=false):=by
   rw[<-C]at y;rw[List.pairwise_map]at y;rw[List.pairwise_map,List.pairwise_map];refine y.imp_of_mem λ{t t'} m m' F=>?_
   have v1:Vl s.heap (aS t.1) t.2:=by
    have:=pC (h:=s.heap) (ps:=[t]) (P:=X.prog) (w:=X.w) λq g=>by simp at g;subst g;exact n _ m
    simp only[List.map_cons,List.map_nil]at this;unfold eC at this;obtain⟨u,r,e,v,_⟩:=this;cases e;exact v
   have v2:Vl s.heap (aS t'.1) t'.2:=by
    have:=pC (h:=s.heap) (ps:=[t']) (P:=X.prog) (w:=X.w) λq g=>by simp at g;subst g;exact n _ m'
    simp only[List.map_cons,List.map_nil]at this;unfold eC at this;obtain⟨u,r,e,v,_⟩:=this;cases e;exact v
   unfold ltV at F;rw[lL v1,lL v2]at F;exact F
  have K:((a.map (·.1)).map kV).length<=sizeLine:=by have:=D.length_eq;simp at*;lia
  have vv:Vals ((a.map (·.1)).map kV) out:=by
   rw[<-C];clear B C D J K
   induction a with
   | nil=>exact .nil
   | cons p a ih=>exact .cons (tS (n p aFr)) (ih λq g=>n q (aFt _ g))
  have I1:Inv X pins σ (upd H c.heap.objs.size (.lst ((a.map (·.1)).map kV))) {c with heap:=j}:=
   G.laid (h' :=j) (t' :=c.toks) kept (aFq _) ⟨K,out,ep,vv,he⟩
  exact⟨.ref c.heap.objs.size,_,I1,rfl,q _ D J _ (G.bG.fresh (aFq _))⟩
end
def kL(w:WE):WE:=λc mh Q=>w c mh λx b=>∃ks:List Key,jD b x=some (ks.map aS)/\ks.length<64/\EL (ks.map aS)/\
 ∀a :List Key,(∀k,k∈a ↔k∈ks)->a.Nodup->a.length<=ks.length->(a.map aS).Pairwise (λd e=>lx (enc e) (enc d)=false)->Q (.ref b.length) (b++[.lst (a.map aS)])
def sG(w:WE):WE:=λb mh Q=>w b mh λx a=>∃ks:List Key,jD a x=some (ks.map aS)/\ks.length<64/\Q (.int (ST.bL [] ks).length) a
@[simp] theorem TV (w:WE)(c:c9)(mh:MH)(Q:DK):kL w c mh Q↔w c mh λx b=>∃ks:List Key,jD b x=some (ks.map aS)/\ks.length<64/\EL (ks.map aS)/\
 ∀a :List Key,(∀k,k∈a ↔k∈ks)->a.Nodup->a.length<=ks.length->(a.map aS).Pairwise (λd e=>lx (enc e) (enc d)=false)->Q (.ref b.length) (b++[.lst (a.map aS)]):=Iff.rfl
@[simp] theorem aA3 (w:WE)(b:c9)(mh:MH)(Q:DK):sG w b mh Q=(w b mh λx a=>∃ks:List Key,jD a x=some (ks.map aS)/\ks.length<64/\Q (.int (ST.bL [] ks).length) a):=rfl
theorem DE{ks:List Key}(h:ks.Nodup)(k:Key):(ST.m5 ks k).Nodup:=by
 unfold ST.m5;split
 ·exact h
 ·rename_i hk;rw[List.nodup_append];exact⟨h,by simp,λa d b c=>by simp at c;subst c;exact λz=>hk (z▸d)⟩
theorem kP:∀{xs ks:List Key},ks.Nodup->(ST.bL ks xs).Nodup
 | [],ks,h=>h
 | x::xs,ks,h=>kP (xs:=xs) (DE h x)
section
variable {X:Cx}{e:Expr}{w:WE}{p1 p2 p3 pos:Pos}
theorem FQ{te:TE}(c:X.calm=true)(d:X.mg "set"=none)(he:PE X e te)(hg:Gl X "set":=by rfl)
  (b:starEach [e] X.env=(false,eval e X.env)::starEach [] X.env:=by rfl):PE X (.Call (.Name "set" p2) [e] [] p3) (tCB (λxs H Q=>∃(a:Addr) (ks:List Key),xs=[.ref a]/\p7 X.K H a (ks.map kV)/\ks.length+1<scanBound/\∀p,H p=none->Q (.ref p) (upd H p (CK X.prog X.w p (ST.bL [] ks)))) (TU te ZX)):=
 qF (IU c) hg d YU (pM he qG b) (by decide) (by decide) b rfl
theorem yX(t:X.A.units+64<cLine)(g:X.calm=true)(u:X.mg "set"=none)(m:X.mg "sorted"=none)(he:LE X e w)(hg:Gl X "set":=by rfl)(n:Gl X "sorted":=by rfl)
  (v:starEach [e] X.env=(false,eval e X.env)::starEach [] X.env:=by rfl)
  (i:starEach [.Call (.Name "set" p2) [e] [] p3] X.env=(false,eval (.Call (.Name "set" p2) [e] [] p3) X.env)::starEach [] X.env:=by rfl):
  LE X (.Call (.Name "sorted" p1) [.Call (.Name "set" p2) [e] [] p3] [] pos) (kL w):=
 PE.imp (tV (u5 t g) n m nL (pM (FQ g u he hg v) qG i) (by decide) (by decide) i rfl) λσ H Q h=>by
  obtain⟨μ,x,mh,R,y,E,h,F⟩:=h;refine⟨μ,x,mh,_,y,E,h,λdx z B C N O D o G=>?_⟩;obtain⟨ks,I,J,U,q⟩:=B;obtain⟨a,vs,rfl,sq,l⟩:=oM o G I;cases fD l;have j:=ST.kX ks ([]:List Key);simp at j;have b:∀k,k∈ST.bL [] ks↔k∈ks:=λk=>by rw[ST.kR];simp
  refine⟨a,ks,rfl,sq,by unfold scanBound;lia,λp s=>?_⟩;show ∃K f,[V.ref p]=[.ref K]/\_;refine⟨p,ST.bL [] ks,rfl,aP,by lia,?_,λf r L=>?_⟩
  ·rcases U with ⟨c,g⟩ | ⟨c,M,g⟩
   ·exact .inl ⟨c,λd hd=>by obtain⟨k,hk,rfl⟩:=aFv.mp hd;exact g _ (aFv.mpr ⟨k,(b k).mp hk,rfl⟩)⟩
   ·exact .inr ⟨c,M,λd hd=>by obtain⟨k,hk,rfl⟩:=aFv.mp hd;exact g _ (aFv.mpr ⟨k,(b k).mp hk,rfl⟩)⟩
  ·exact gW (o.new s) (F.at (D.trans (aI.new o s))) (sU f) (q f (λk=>by rw[r.mem_iff,b]) (r.symm.nodup (kP (by simp))) (by have:=r.length_eq;lia) L)
theorem HQ(i:X.calm=true)(j:X.mg "set"=none)(c:X.mg "len"=none)(he:LE X e w)(hg:Gl X "set":=by rfl)(d:Gl X "len":=by rfl)
  (k:starEach [e] X.env=(false,eval e X.env)::starEach [] X.env:=by rfl)
  (b:starEach [.Call (.Name "set" p2) [e] [] p3] X.env=(false,eval (.Call (.Name "set" p2) [e] [] p3) X.env)::starEach [] X.env:=by rfl):
  LE X (.Call (.Name "len" p1) [.Call (.Name "set" p2) [e] [] p3] [] pos) (sG w):=
 PE.imp (tV CB d c NV (pM (FQ i j he hg k) qG b) (by decide) (by decide) b rfl) λσ H Q h=>by
  obtain⟨μ,m,mh,R,n,E,h,F⟩:=h;refine⟨μ,m,mh,_,n,E,h,λdx o r s z A t f u=>?_⟩;obtain⟨ks,v,B,q⟩:=r;obtain⟨a,vs,rfl,sq,l⟩:=oM f u v;cases fD l;refine⟨a,ks,rfl,sq,by unfold scanBound;lia,λp g=>?_⟩;show ∃x y,[V.ref p]=[.ref x]/\_;exact⟨p,ST.bL [] ks,rfl,aP,(F.at (t.trans (aI.new f g))).here (f.new g) q .int⟩
end
def WH:Expr->Bool
 | .Starred .. =>false
 | _=>true
def HG:List Expr->Bool
 | []=>true
 | e::es=>WH e && HG es
theorem tM{e:Expr}{es:List Expr}{env:Env}(h:WH e=true):starEach (e::es) env=(false,eval e env)::starEach es env:=by
 cases e <;> first | rfl | (simp[WH]at h)
theorem pF{pos:Pos}{env:Env}:∀{es:List Expr},HG es=true->(backTo pos (starEach es env)).any (·.1)=false
 | [],_=>rfl
 | e::es,h=>by
  unfold HG at h;rw[Bool.and_eq_true]at h;rw[tM h.1];show (false || (backTo pos (starEach es env)).any (·.1))=false;rw[pF h.2];rfl
section
variable {X:Cx}{e:Expr}{es:List Expr}{w:WE}{wr wa:WA}{pos p:Pos}{x:Str}
theorem aF3(a:LE X e w)(b:LA X es wr)(h:WH e=true:=by rfl):LA X (e::es) (aB w wr):=RX a b (tM h)
theorem aBg{k:Nat}{ps:List Str}{s:OA}(F:Fn X.prog X.w X.K X.mg X.base k x ps s)(b:f9 k X.A)(c:LA X (e::es) wr)(hg:Gl X x:=by rfl)(a:(x==("__debug__":Str))=false:=by decide)
  (h:WH e=true:=by rfl) (d:HG es=true:=by rfl):LE X (.Call (.Name x p) (e::es) [] pos) (aH s wr):=L0 F b c hg a (tM h) (pF d)
theorem yY{id:String}{f:OA}(b:cB X (.builtin id) (dJ X.K f))(c:X.mg x=none)(hv:bootBuiltins x=some (.builtin id))(d:LA X (e::es) wr)(hg:Gl X x:=by rfl)(g:x≠ "__name__":=by decide)(a:(x==("__debug__":Str))=false:=by decide)
  (h:WH e=true:=by rfl) (i:HG es=true:=by rfl):LE X (.Call (.Name x p) (e::es) [] pos) (aH f wr):=aBh b c hv d hg g a (tM h) (pF i)
theorem RN{T:String}{f:OA}(b:cB X (.type T) (dJ X.K f))(c:X.mg x=none)(hv:bootBuiltins x=some (.type T))(d:LA X (e::es) wr)(hg:Gl X x:=by rfl)(g:x≠ "__name__":=by decide)(a:(x==("__debug__":Str))=false:=by decide)
  (h:WH e=true:=by rfl) (i:HG es=true:=by rfl):LE X (.Call (.Name x p) (e::es) [] pos) (aH f wr):=aBf b c hv d hg g a (tM h) (pF i)
end
def FW:Expr->Bool
 | .ListComp .. =>false
 | .SetComp .. =>false
 | .DictComp .. =>false
 | _=>true
theorem AV{e:Expr}{t:Option Expr}{l:Nat}{env:Env}(h:FW e=true):swapsWith e t l env=pure false:=by
 cases e <;> first | rfl | (simp[FW]at h)
section
variable {X:Cx}{e:Expr}{w:WE}{pos:Pos}
theorem aEy(i:Nat){x:Str}{a :Pos}(hN:X.N.Nodup)(he:LE X e w)(hi:X.N[i]? =some x:=by rfl)(b:Loc X.env.scope x:=by first | exact Or.inl rfl | exact Or.inr rfl)(c:FW e=true:=by rfl)(d:X.fn x=true\/X.env.scope.names.lookup x=some .local:=by first | exact .inl rfl | exact .inr rfl | assumption):
  LS X (.Assign [.Name x a] e pos) (bJ w (gN i)):=LN i hN he hi b (AV c) d
theorem aEz(he:LE X e w)(a:FW e=true:=by rfl):LS X (.Expr e pos) (mC w):=RG he (AV a)
end
section
variable {ρ:c9}{mh:MH}{Q:DK}{E:iK}
@[simp] theorem aE3 (w f wi:WE):E5 w f wi E ρ mh=(w ρ mh λd a=>f ρ a λo b=>wi ρ b λi c=>T5 o i d c λe=>E.nx ρ e):=rfl
@[simp] theorem s_dic (t:Bool):vI t ρ mh Q=(Q (.ref mh.length) (mh++[.bI t []])):=rfl
end
open Classical in
theorem E9(k v:D):∀kvs:List (D×D),(∃p∈kvs,p.1=k)->aT (kvs.map λp=>if p.1=k then (p.1,v) else p) k=some v
 | [],h=>by obtain⟨p,b,_⟩:=h;cases b
 | p::kvs,h=>by
  rw[List.map_cons];by_cases e:p.1=k
  ·simp[aT,e]
  ·simp only[aT,if_neg e];refine E9 k v kvs ?_;obtain⟨r,c,a⟩:=h;rcases aFy.mp c with z | z
   ·subst z;exact absurd a e
   ·exact⟨r,z,a⟩
theorem FA(k v:D):∀kvs:List (D×D),(¬∃p∈kvs,p.1=k)->aT (kvs++[(k,v)]) k=some v
 | [],h=>by simp[aT]
 | p::kvs,h=>by
  have e:¬p.1=k:=λz=>h ⟨p,aFr,z⟩;rw[List.cons_append];simp only[aT,if_neg e];exact FA k v kvs λa=>by obtain⟨r,b,c⟩:=a;exact h ⟨r,aFt _ b,c⟩
theorem kM(kvs:List (D×D))(k v:D):aT (putD kvs k v) k=some v:=by
 classical
 unfold putD;by_cases h:∃p∈kvs,p.1=k
 ·rw[if_pos h];exact E9 k v kvs h
 ·rw[if_neg h];exact FA k v kvs h
open Classical in
theorem oH(k v:D){a :D}(hk:a ≠k):∀kvs:List (D×D),aT (kvs.map λp=>if p.1=k then (p.1,v) else p) a =aT kvs a
 | []=>rfl
 | p::kvs=>by
  rw[List.map_cons];by_cases e:p.1=k
  ·have b:¬p.1=a :=λz=>hk (z.symm.trans e);simp only[if_pos e,aT,if_neg b,oH k v hk kvs]
  ·simp only[if_neg e,aT,oH k v hk kvs]
theorem tG(k v:D){a :D}(hk:a ≠k):∀kvs:List (D×D),aT (kvs++[(k,v)]) a =aT kvs a
 | []=>by simp[aT,Ne.symm hk]
 | p::kvs=>by
  rw[List.cons_append];simp only[aT,tG k v hk kvs]
theorem bZ(kvs:List (D×D)){k a :D}(v:D)(hk:a ≠k):aT (putD kvs k v) a =aT kvs a :=by
 classical
 unfold putD;split
 ·exact oH k v hk kvs
 ·exact tG k v hk kvs
def oU(mh mh' :MH):Prop:=∃T,mh' =mh++T
theorem oU.push{mh mh' :MH}(h:oU mh mh')(o:MO):oU mh (mh' ++[o]):=by
 obtain⟨T,rfl⟩:=h;exact⟨T++[o],by simp⟩
variable{n:Nat}
theorem oU.set{mh mh' :MH}(h:oU mh mh')(a:mh.length<=n)(o:MO):oU mh (mh'.set n o):=by
 obtain⟨T,rfl⟩:=h;exact⟨T.set (n-mh.length) o,by rw[List.set_append_right _ _ a]⟩
variable{mh:MH}
theorem aL{o x:MO}(e:mh[n]? =some o):(mh++[x])[n]? =some o:=by
 rw[List.getElem?_append_left (List.getElem?_eq_some_iff.mp e).1];exact e
theorem get_set{n m:Nat}{o x:MO}(e:mh[n]? =some o)(h:m≠n):(mh.set m x)[n]? =some o:=by
 rw[List.getElem?_set_ne h];exact e
theorem cH{o:MO}(x:MO)(e:mh[n]? =some o):(mh.set n x)[n]? =some x:=by
 rw[List.getElem?_set_self (List.getElem?_eq_some_iff.mp e).1]
theorem iD{o:MO}(e:mh[n]? =some o):n<mh.length:=(aFp.mp e).1
variable{ds:List D}
theorem aU(e:mh[n]? =some (.lst ds)):aX mh (.ref n)=some ds:=by simp[aX,e]
theorem DL(e:mh[n]? =some (.lst ds)):jD mh (.ref n)=some ds:=by simp[jD,e]
theorem R0{α:Type}(l:List α)(x:α):oS (l++[x]) (-1)=some x:=by
 unfold oS HW;rw[if_neg (by lia),if_pos (by simp;lia)];simp only[Option.bind_some];have:((-1:Int)+((l++[x]).length:Int)).toNat=l.length:=by simp;lia
 rw[this];simp
theorem IP(ds:List D):cutD ds (some 1) none=ds.tail:=by
 cases ds with
 | nil=>rfl
 | cons a ds=>
  unfold cutD;have b:HT.c6 (a::ds).length 0 (some 1)=1:=by simp[HT.c6]
  have c:HT.c6 (a::ds).length (a::ds).length none=(a::ds).length:=by simp[HT.c6]
  rw[b,c];simp
theorem YH{k:Int}(h0:0<=k)(c:k<=ds.length):cutD ds none (some k)=ds.take k.toNat:=by
 unfold cutD;have a:HT.c6 ds.length 0 none=0:=by simp[HT.c6]
 have b:HT.c6 ds.length ds.length (some k)=k.toNat:=by
  simp[HT.c6];rw[if_neg (by lia)];lia
 rw[a,b];simp
theorem xM{α c:Type}{g:WG}{w:WE}{ρe:c9}{St:MH->Prop}{Q:DK}(em:α->D)(f:α->c)(b:c->D):∀(ds:List α) (a:List c) {mh:MH},St mh->
  (∀d∈ds,∀(N:DK),N (b (f d)) mh->g (em d) ρe λi=>w i mh N)->
  Q (.ref mh.length) (mh++[.lst ((a++ds.map f).map b)])->m4 g iM w ρe St Q (ds.map em) (a.map b) mh
 | [],a,mh,hst,_,q=>⟨hst,by simpa using q⟩
 | d::ds,a,mh,hst,h,q=>by
  refine⟨hst,?_⟩;simp only[FJ,if_true];refine h d aFr _ ?_;have:=xM (Q:=Q) (St:=St) (g:=g) (w:=w) (ρe:=ρe) em f b ds (a++[f d]) hst (λe he=>h e (aFt _ he)) (by simpa using q);simpa using this
theorem nK{α e:Type}{g:WG}{w:WE}{ρe:c9}{St:MH->Prop}{Q:DK}(em:α->D)(f:α->e)(a:e->D)(ds:List α)(b:St mh)
  (h:∀d∈ds,∀(N:DK),N (a (f d)) mh->g (em d) ρe λc=>w c mh N)
  (q:Q (.ref mh.length) (mh++[.lst ((ds.map f).map a)])):m4 g iM w ρe St Q (ds.map em) [] mh:=xM em f a ds [] b h q
def vF(P:Program)(w:World)(K:aJn)(mg:aJq)(base:Heap)(k:Nat)(x:Str)(N:List Str)(st:Stmt)(wB:WS):Prop:=
 ∀(f:Addr) (cdv:Value) (A:Around) (outer:List Env) (s:Shared) (H:Hp) (E:XK),f9 k (A.deeper (envOfC x (aE st) s.heap.objs.size f cdv))->
  lR (uW CM P w K mg base N x (aE st) f cdv A outer s H E).Q2 (cJ st) wB
section
variable {P:Program}{w:World}{K:aJn}{mg:aJq}{base:Heap}{h:Heap}
theorem eS{x:Str}{st:Stmt}{N ps:List Str}{k:Nat}{s:OA}{wB:WS}(b:fH K x st)(KX:K.In h)(G:h.Ns mainGlobals mg)(c:cD x st ps)(S:bC N ps (aE st))(e:vF P w K mg base k x N st wB)(len:∀ds mh R,s ds mh R->ds.length=ps.length)
  (f:∀ds mh R,oV mh->s ds mh R->wB {nx:=λ_ a=>Out mh.length .bU a R,rt:=λd a=>Out mh.length d a R} (aQ N ds) mh):Fn P w K mg base (k+1) x ps s:=
 YD b KX G c S len e λds mh R ok _ g=>f ds mh R ok g
theorem YC{x:Str}{st:Stmt}{N ps:List Str}{j k:Nat}{s:OA}{wB:WS}(e:k+1=j)(b:fH K x st)(KX:K.In h)(G:h.Ns mainGlobals mg)(c:cD x st ps)(S:bC N ps (aE st))(f:vF P w K mg base k x N st wB)(len:∀ds mh R,s ds mh R->ds.length=ps.length)
  (g:∀ds mh R,oV mh->s ds mh R->wB {nx:=λ_ a=>Out mh.length .bU a R,rt:=λd a=>Out mh.length d a R} (aQ N ds) mh):Fn P w K mg base j x ps s:=
 e▸eS b KX G c S f len g
theorem XJ{x:Str}{st:Stmt}{N:List Str}{k:Nat}{c:Addr}{wB:WS}(KX:K.In h)(G:h.Ns mainGlobals mg)(b:mg "law"=some (.ref c))(e:fH K "law" st)(S:bC N [x] (aE st))(f:cD "law" st [x])
  (g:∀base:Heap,vF P w K mg base k "law" N st wB)
  (i:∀ds mh R,oV mh->vO ds mh R->wB {nx:=λ_ a=>Out mh.length .bU a R,rt:=λd a=>Out mh.length d a R} (aQ N ds) mh):
  ∃fd:FuncData,(∀(s:Shared) (u:Value),BindsTo s fd ⟨[u],[]⟩ [(x,u)])/\∀base:Heap,j8 P w K mg base CM (k+1) c fd [x] (OF K vO):=
 XM KX G b e S f λbase=>⟨wB,g base,λds mh R ok _ j=>i ds mh R ok j⟩
end
def ZI:Bool->Nat
 | false=>sizeLine
 | true=>4000
def qN(b:Bool)(g:WG)(t:WT)(w:WE)(ρe:c9)(St:MH->Prop)(K:List D->MH->Prop):List D->List D->MH->Prop
 | [],ys,mh=>St mh/\K ys mh
 | d::ds,ys,mh=>St mh/\ys.length<ZI b/\g d ρe λa=>t a mh λc e=>if c=true then w a e λy f=>(b=true->∃k,y=aS k)/\qN b g t w ρe St K ds (ys++[y]) f else qN b g t w ρe St K ds ys e
def iG(b:Bool)(g:WG)(t:WT)(a:WI)(h:WG)(i:WT)(w:WE)(ρe:c9)(St:MH->Prop)(K:List D->MH->Prop):List D->List D->MH->Prop
 | [],ys,mh=>St mh/\K ys mh
 | d::ds,ys,mh=>St mh/\g d ρe λe=>t e mh λc f=>if c=true then a e f λes j k=>qN b h i w e j (iG b g t a h i w ρe St K ds) es ys k else iG b g t a h i w ρe St K ds ys f
def lstK(Q:DK):List D->MH->Prop:=λa mh=>Q (.ref mh.length) (mh++[.lst a])
def JF(own:List Str)(aD:List Nat)(wi:WI)(g:WG)(t:WT)(a:WI)(d:WG)(e:WT)(w:WE):WE:=λc mh Q=>wi c mh λds St b=>iG false g t a d e w (dD own aD c) St (lstK Q) ds [] b
@[simp] theorem s_lc2 {b:c9}{Q:DK}(own:List Str)(aD:List Nat)(i:WI)(g:WG)(t:WT)(i2:WI)(d:WG)(e:WT)(a:WE):JF own aD i g t i2 d e a b mh Q=(i b mh λds St c=>iG false g t i2 d e a (dD own aD b) St (lstK Q) ds [] c):=rfl
theorem bX.iA{K:aJn}{μ μ' :List Addr}{H H' :Hp}{a:c9}{σ:L2.St}(p:dX μ H μ' H')(E:bX K μ H a σ):bX K μ' H' a σ:=⟨E.1,λi d e=>by
 obtain⟨v,b,c⟩:=E.2 i d e
 exact⟨v,b,Is.iA p d v c⟩⟩
section
variable {X:Cx}
theorem YK{P:Program}{w:World}{b:Bool}{a:Addr}{c:List V}:Own (some (CT P w b a c)):=by cases b <;> trivial
theorem SS{b:Bool}{a:List V}(h:a.length<ZI b):a.length<sizeLine/\(b=true->(ST.bL [] (a.filterMap vJ)).length+1<scanBound):=by
 have sz:=aGb
 cases b with
 | false=>exact⟨h,λz=>nomatch z⟩
 | true=>
  have h' :a.length<4000:=h;have l1:=ST.kX (a.filterMap vJ) [];have l2:=aIc vJ a;exact⟨by lia,λ_=>by unfold scanBound;simp at l1;lia⟩
theorem L8{b:Bool}{wi A:WI}{g g2:TG}{gd r:WG}{t M:WT}{w:WE}{own:List Str}{aD:List Nat}(hr:gA X.K g gd)(hr2:gA X.K g2 r){σ:L2.St}{H:Hp}{Q:VK}{μ:List Addr}{L:c9}{R:List D->MH->Prop}(RR:Rep X.K μ mh H)(En:bX X.K μ H L σ)
  (h:wi L mh λds St O=>iG b gd t A r M w (dD own aD L) St R ds [] O)
  (F:∀(l μ' :List Addr) (N H' :Hp) (mh' :MH) (a:List D) (u:List V) (acc:Addr),aI μ H l N->aI l N μ' H' ->N acc=none->Rep X.K μ' mh' H' ->acc∉μ' ->H' acc=some (CT X.prog X.w b acc u)->IsL X.K μ' H' a u->R a mh' ->Q (.ref acc) H'):
  UX X.prog X.w b own aD (JS X.K wi) g (FC X.K t) (C1 X.prog X.w b (JS X.K A) g2 (FC X.K M) (tL X.K w)) σ H Q:=by
 refine⟨μ,L,mh,_,RR,En,h,λds St O q l J N P1 R1 It acc s=>?_⟩;have P:acc∉l:=λz=>R1.ne s z rfl;have mutC:∀{H:Hp} {u:List V},H acc=some (CT X.prog X.w b acc u)->EN (H acc):=λ{H u} e=>by rw[e];cases b <;> trivial
 refine⟨λi m u H' =>∃μ' mh' a,aI l N μ' H' /\Rep X.K μ' mh' H' /\acc∉μ' /\H' acc=some (CT X.prog X.w b acc u)/\IsL X.K μ' H' a u/\i<=ds.length/\m=ds.length-i/\iG b gd t A r M w (dD own aD L) St R (ds.drop i) a mh',
  ⟨ds.length,l,O,[],aI.out aI.refl s,R1.new s,P,aP,by unfold IsL;rfl,aGm _,by simp,by simpa using q⟩,?_⟩
 rintro i m u H' ⟨μ',mh',a,P',R',ha',e',l',hi',rfl,c⟩;refine⟨e',?_⟩;by_cases S:i<ds.length
 ·rw[List.drop_eq_getElem_cons S]at c;obtain⟨hst,c⟩:=c;obtain⟨hgo,hy⟩:=It.go μ' mh' H' (P'.weak R1) R' hst i ds[i] (by simp[S]);refine .inr ⟨hgo,λv B=>∃d p f,aI l N d B/\Rep X.K d p B/\acc∉d/\B acc=some (CT X.prog X.w b acc v)/\IsL X.K d B f v/\iG b gd t A r M w (dD own aD L) St R (ds.drop (i+1)) f p,?_,λx H'' y=>?_⟩
  ·rintro v B ⟨d,p,f,P2,R2,T,e2,l2,c2⟩;exact⟨ds.length-(i+1),by lia,d,p,f,P2,R2,T,e2,l2,S,rfl,c2⟩
  ·obtain⟨Py,Ry,Iy⟩:=hy x H'' y;obtain⟨hay,ey⟩:=Py.away ha' e';have ly:=IsL.mono R' Py a u l';have P0y:=P1.trans (P'.trans Py);refine hr x _ H'' _ μ' (dD own aD L) mh' _ _ Ry (En.mono RR P0y).emb Iy c λC q2 σ2 U=>?_;refine⟨μ',C,mh',_,Ry,U,q2,λc mh3 q3 μ3 H3 P3 R3=>?_⟩;obtain⟨ha3,e3⟩:=P3.away hay ey;have l3:=IsL.mono Ry P3 a u ly;have P13:=(P'.trans Py).trans P3
   cases c with
   | false=>rw[if_neg Bool.false_ne_true]at q3⊢;exact⟨μ3,mh3,a,P13,R3,ha3,e3,l3,q3⟩
   | true=>
    rw[if_pos rfl]at q3⊢;refine⟨μ3,C,mh3,_,R3,U.mono Ry P3,q3,λes St2 mh4 q4 W J2 H4 P4 R4 It2=>?_⟩;obtain⟨ha4,e4⟩:=P4.away ha3 e3;have l4:=IsL.mono R3 P4 a u l3
    refine⟨λk m u H' =>∃μ' mh' a,aI l N μ' H' /\dX W H4 μ' H' /\Rep X.K μ' mh' H' /\acc∉μ' /\H' acc=some (CT X.prog X.w b acc u)/\IsL X.K μ' H' a u/\k<=es.length/\m=es.length-k/\qN b r M w C St2 (iG b gd t A r M w (dD own aD L) St R (ds.drop (i+1))) (es.drop k) a mh',
     ⟨es.length,W,mh4,a,P13.trans P4,aI.refl.weak R4,R4,ha4,e4,l4,aGm _,by simp,by simpa using q4⟩,?_⟩
    rintro k m Y H5 ⟨E,G,j,P15,P5,R5,ha5,e5,l5,hk5,rfl,Z⟩;by_cases I:k<es.length
    ·rw[List.drop_eq_getElem_cons I]at Z;obtain⟨hst5,hsz5,Z⟩:=Z;obtain⟨hgo5,hy5⟩:=It2.go E G H5 P5 R5 hst5 k es[k] (by simp[I]);refine .inr ⟨hgo5,λv B=>∃d p f,aI l N d B/\dX W H4 d B/\Rep X.K d p B/\acc∉d/\B acc=some (CT X.prog X.w b acc v)/\IsL X.K d B f v/\qN b r M w C St2 (iG b gd t A r M w (dD own aD L) St R (ds.drop (i+1))) (es.drop (k+1)) f p,?_,λx6 H6 y6=>?_⟩
     ·rintro v B ⟨d,p,f,P2,W2,R2,T,e2,l2,c2⟩;exact⟨es.length-(k+1),by lia,d,p,f,P2,W2,R2,T,e2,l2,I,rfl,c2⟩
     ·obtain⟨P6,R6,I6⟩:=hy5 x6 H6 y6;obtain⟨ha6,e6⟩:=P6.away ha5 e5;have l6:=IsL.mono R5 P6 j Y l5;have En6:=bX.mono R5 P6 (bX.iA P5 ((U.mono Ry P3).mono R3 P4));refine hr2 x6 _ H6 _ E C G _ _ R6 En6 I6 Z λρ7 q7 σ7 En7=>?_;refine⟨E,ρ7,G,_,R6,En7,q7,λc mh8 q8 μ8 H8 P8 R8=>?_⟩;obtain⟨ha8,e8⟩:=P8.away ha6 e6;have l8:=IsL.mono R6 P8 j Y l6;have P18:=(P15.trans P6).trans P8;have W48:=(P5.trans (P6.weak R5)).trans (P8.weak R6)
      cases c with
      | false=>rw[if_neg Bool.false_ne_true]at q8⊢;exact⟨μ8,mh8,j,P18,W48,R8,ha8,e8,l8,q8⟩
      | true=>
       rw[if_pos rfl]at q8⊢;refine⟨SS (by rw[aW l8];exact hsz5),μ8,ρ7,mh8,_,R8,En7.mono R6 P8,q8,λy mh9 q9 μ9 vy H9 P9 R9 I9=>?_⟩;obtain⟨ha9,e9⟩:=P9.away ha8 e8;have hm:EN (H9 acc):=mutC e9;obtain⟨hk9,q9⟩:=q9;have l9:=IsL.mono R8 P9 j Y l8;refine⟨λhb=>by obtain⟨k,rfl⟩:=hk9 hb;exact⟨k,gV I9⟩,e9,μ9,mh9,j++[y],aI.out (P18.trans P9) s,?_,R9.out hm ha9,ha9,aP,IsL.out hm _ _ (kS l9 (fI I9)),q9⟩;have W49:=W48.trans (P9.weak R8);refine⟨W49.pre,λb o e n=>?_⟩;have:=W49.fr b o e n;by_cases hb:b=acc
       ·subst hb;rw[e9]at this;cases this;exact absurd YK n
       ·rw[aK hb];exact this
    ·have e:k=es.length:=by lia
     subst e;rw[List.drop_of_length_le (Nat.le_refl _)]at Z;exact .inl ⟨It2.stop E G H5 P5 R5 Z.1,E,G,j,P15,R5,ha5,e5,l5,Z.2⟩
 ·have e:i=ds.length:=by lia
  subst e;rw[List.drop_of_length_le (Nat.le_refl _)]at c;exact .inl ⟨It.stop μ' mh' H' (P'.weak R1) R' c.1,F _ _ _ _ _ _ _ _ P1 P' s R' ha' e' l' c.2⟩
theorem XF{tg iter d m f:Expr}{i B:List Expr}{scope sc:Scope}{N:List Str}{pos:Pos}{wi e:WI}{g l:TG}{D j:WG}{t n:WT}{w:WE}(own:List Str)(o1:Nat)(aD:List Nat)
  (hN:X.N=N) (hsc:X.env.scope=sc) (chk:bW N sc scope aD=true) (cS:X.calm=true) (hi:LI X tg iter wi) (o:o1<=own.length) (ho:j7 o1 g)
  (G:gA X.K g D) (p:GIn o1 own.length l) (q:gA X.K l j)
  (hg:∀cl C fp s₀ H₀,PG (aG X own aD scope cl C fp s₀ H₀) tg g) (ht:∀cl C fp s₀ H₀,AG (aG X own aD scope cl C fp s₀ H₀) i t)
  (r:∀cl C fp s₀ H₀,LI (aG X own aD scope cl C fp s₀ H₀) d m e)
  (s:∀cl C fp s₀ H₀,PG (aG X own aD scope cl C fp s₀ H₀) d l) (u:∀cl C fp s₀ H₀,AG (aG X own aD scope cl C fp s₀ H₀) B n)
  (he:∀cl C fp s₀ H₀,LE (aG X own aD scope cl C fp s₀ H₀) f w)
  (I:∀x,foldedSetIterable iter X.env x=pure x:=by intro _;rfl) (v:∀env x,foldedSetIterable m env x=pure x:=by intro _ _;rfl):
  LE X (.ListComp f [⟨tg,iter,i,0⟩,⟨d,m,B,0⟩] scope pos) (JF own aD wi D t e j n w):=
 PE.imp (VW (b:=false) (wi:=JS X.K wi) (tt:=FC X.K t) (tb:=C1 X.prog X.w false (JS X.K e) l (FC X.K n) (tL X.K w)) own o1 aD hN hsc chk cS hi o ho hg (λcl C fp s₀ H₀=>ht cl C fp s₀ H₀)
  (λacc cl C fp s₀ H₀=>IW (b:=false) cS rfl (r cl C fp s₀ H₀) (s cl C fp s₀ H₀) p (u cl C fp s₀ H₀) (he cl C fp s₀ H₀)) v I) λσ H Q h=>by
  obtain⟨μ,U,mh,R,J,En,h,F⟩:=h;refine L8 G q J En h λy μ' L H' mh' M V acc O z k E A P S c=>?_
  have T:aI y L (μ' ++[acc]) H' :=⟨by obtain⟨t,rfl⟩:=z.pre;exact⟨t++[acc],by simp⟩,z.fr,λa ha=>by
   rcases aG5.mp ha with ha | ha
   ·exact z.nw a ha
   ·simp at ha;subst ha;exact .inr k⟩
  exact F _ _ c (μ' ++[acc]) _ H' (O.trans T) (E.Y4 A P S) (by unfold Is;exact⟨acc,by rw[<-E.len];simp,rfl⟩)
end
theorem uG{b:Bool}{d γ:Type}{g:WG}{w:WE}{ρe:c9}{St:MH->Prop}{K:List D->MH->Prop}(em:d->D)(f:d->γ)(c:γ->D)(j:b=true->∀x,∃k,c x=aS k):∀(es:List d) (a:List D) {mh:MH},St mh->a.length+es.length<=ZI b->
  (∀e∈es,∀N:DK,N (c (f e)) mh->g (em e) ρe λi=>w i mh N)->K (a++(es.map f).map c) mh->qN b g iM w ρe St K (es.map em) a mh
 | [],a,mh,hst,_,_,q=>⟨hst,by simpa using q⟩
 | e::es,a,mh,hst,hl,h,q=>by
  simp only[List.length_cons]at hl;refine⟨hst,by lia,?_⟩;simp only[FJ,if_true];refine h e aFr _ ⟨λz=>j z _,?_⟩;exact uG em f c j es (a++[c (f e)]) hst (by simp;lia) (λe he=>h e (aFt _ he)) (by simpa using q)
theorem uY{b:Bool}{α n γ:Type}{g r:WG}{l:WI}{w:WE}{ρe:c9}{St:MH->Prop}{K:List D->MH->Prop}(em:α->D)(a:α->List n)(c:n->D)(f:α->n->γ)(m:γ->D)(h:α->c9)(s:b=true->∀x,∃k,m x=aS k):∀(ds:List α) (j:List D) {mh:MH},St mh->j.length+(ds.flatMap a).length<=ZI b->
  (∀d∈ds,∀N:c9->Prop,N (h d)->g (em d) ρe N)->(∀d∈ds,∀N:List D->(MH->Prop)->MH->Prop,(∀i:MH->Prop,i mh->N ((a d).map c) i mh)->l (h d) mh N)->
  (∀d∈ds,∀e∈a d,∀N:DK,N (m (f d e)) mh->r (c e) (h d) λo=>w o mh N)->
  K (j++(ds.flatMap λd=>(a d).map (f d)).map m) mh->iG b g iM l r iM w ρe St K (ds.map em) j mh
 | [],j,mh,hst,_,_,_,_,q=>⟨hst,by simpa using q⟩
 | d::ds,j,mh,hst,hl,h1,h2,h3,q=>by
  simp only[List.flatMap_cons,List.length_append]at hl;refine⟨hst,?_⟩;simp only[FJ,if_true];refine h1 d aFr _ ?_;refine h2 d aFr _ λi p=>?_;refine uG c (f d) m s (a d) j p (by lia) (λe he=>h3 d aFr e he) ?_;exact uY em a c f m h s ds _ hst (by rw[List.length_append,List.length_map,List.length_map];lia) (λe he=>h1 e (aFt _ he)) (λe he=>h2 e (aFt _ he)) (λe he=>h3 e (aFt _ he)) (by simpa using q)
theorem SR{b:Bool}{α m γ:Type}{g p:WG}{i:WI}{w:WE}{ρe:c9}{St:MH->Prop}{K:List D->MH->Prop}(em:α->D)(a:α->List m)(h:m->D)(f:α->m->γ)(l:γ->D)(c:α->c9)(ds:List α)(r:b=true->∀x,∃k,l x=aS k)(n:St mh)(s:(ds.flatMap a).length<=ZI b)
  (t:∀d∈ds,∀N:c9->Prop,N (c d)->g (em d) ρe N) (u:∀d∈ds,∀N:List D->(MH->Prop)->MH->Prop,(∀j:MH->Prop,j mh->N ((a d).map h) j mh)->i (c d) mh N)
  (v:∀d∈ds,∀e∈a d,∀N:DK,N (l (f d e)) mh->p (h e) (c d) λo=>w o mh N)
  (q:K ((ds.flatMap λd=>(a d).map (f d)).map l) mh):iG b g iM i p iM w ρe St K (ds.map em) [] mh:=
 uY em a h f l c r ds [] n (by simpa using s) t u v (by simpa using q)
theorem C6{Q:DK}{bs:List Bool}(h:mh[n]? =some (.lst (bs.map .bl))):EJ [.ref n] mh Q↔Q (.bl (bs.any id)) mh:=by
 unfold EJ;have e:jD mh (.ref n)=some (bs.map .bl):=by simp[jD,h]
 constructor
 ·rintro⟨x,c,i,g,d⟩;cases i;rw[e]at g;have j:bs.map D.bl=c.map D.bl:=aGe g;have k:bs=c :=(aJg (f:=D.bl) (λa b e=>by injection e)).mp j;subst k;exact d
 ·intro d;exact⟨_,bs,rfl,e,d⟩
end D3
namespace L2
open PySem PySem.Spec PyProof.Rows
open Builtin Builtin.Str
open AutoSeq1 (wpAny_loadPart')
end L2
namespace D3
open PySem PySem.Spec PyProof.Rows L2
end D3
namespace L2
open PySem PySem.Spec PyProof.Rows
end L2
namespace D3
open PySem PySem.Spec PyProof.Rows L2
end D3
namespace L2
open PySem PySem.Spec PyProof.Rows
section
variable {prog:Program}{w:World}{A:Around}{E:aJo}{s:Shared}
def enO(f0:Value)(it:Addr)(i:Nat)(old:Value):Obj:={cls:= .type "enumerate",dict:=none,data:= .fields #[f0,.bool false,.ref it,rawInt (i:Int),.none,old],slots:= #[]}
structure vG(h:Heap)(e:Addr)(q:Src)(f0:Value)(i:Nat):Prop where
 obj:∃old,h.get? e=some (enO f0 q.it i old)
 at_:q.At h i
variable{e:Addr}{q:Src}{i:Nat}{items:Array Value}
theorem SK{x:Value}{Q:aJo}(Z:vG s.heap e q .none i)(G:q.Sq s.heap items)(H:items[i]? =some x)(a:e≠q.it)
  (I:∀h',vG h' e q (rawInt s.heap.objs.size) (i+1)->h'.get? s.heap.objs.size=some {cls:= .type "tuple",data:= .seq #[.int i s.toks,x]}->
   (∀b o,b≠e->b≠q.it->s.heap.get? b=some o->h'.get? b=some o)->Q (.ref s.heap.objs.size) {s with heap:=h',toks:=s.toks+1}):
  wpAny (model prog w) A (Builtin.«enumerate.__next__» ⟨[.ref e],[]⟩) (λu J =>∃v,u= .done (.ret v)/\Q v J) E s:=by
 obtain⟨⟨old,he⟩,y⟩:=Z;obtain⟨z,g,d,tk,os⟩:=s;have c:e<z.objs.size:=aFu he;show wpAny _ _ (field (.ref e) 2 >>=_) _ _ _;refine aFm (aG7 he rfl (x:= .ref q.it) rfl (aFm (Src.item y G H λm NY f=>?_)));have B:m.get? e=some (enO .none q.it i old):=(f.2 e a).trans he;show wpAny _ _ (field (.ref e) 3 >>=_) _ _ ⟨m,g,d,tk,os⟩;refine aFm (aG7 B rfl (x:=rawInt (i:Int)) rfl ?_);show wpAny _ _ (field (.ref e) 4 >>=_) _ _ ⟨m,g,d,tk,os⟩;refine aFm (aG7 B rfl (x:= .none) rfl ?_);show wpAny _ _ (mkInt (i:Int) >>=_) _ _ ⟨m,g,d,tk,os⟩;refine aFm (wpAny_mkInt ?_);show wpAny _ _ (setField (.ref e) 3 (rawInt ((i:Int)+1)) >>=_) _ _ ⟨m,g,d,tk+1,os⟩;refine aFm (aG0 B (by simp) λK L n=>?_);show wpAny _ _ (setField (.ref e) 4 .none >>=_) _ _ ⟨K,g,d,tk+1,os⟩;refine aFm (aG0 L (by simp) λp M r=>?_);show wpAny _ _ (newTuple [.int i tk,x] >>=_) _ _ ⟨p,g,d,tk+1,os⟩;refine aFm (aHa ?_);have hsz:p.objs.size=z.objs.size:=by rw[r.1,n.1,f.1]
 have t:=aFn {cls:= .type "tuple",data:= .seq #[.int i tk,x]} M;have F:(p.push {cls:= .type "tuple",data:= .seq #[.int i tk,x]}).get? z.objs.size=some {cls:= .type "tuple",data:= .seq #[.int i tk,x]}:=by rw[<-hsz];exact aFs _ rfl
 have C:∀b o,b≠e->m.get? b=some o->(p.push {cls:= .type "tuple",data:= .seq #[.int i tk,x]}).get? b=some o:=λb o h D=>aFn _ (r.extBut b o h (n.extBut b o h D));show wpAny _ _ (Builtin.SmallTypes.ownedTupleIsFree (.ref e) >>=_) _ _ _;rw[hsz];generalize p.push {cls:= .type "tuple",data:= .seq #[.int i tk,x]}=h4 at t F C⊢;refine aFm ?_;unfold Builtin.SmallTypes.ownedTupleIsFree;refine aFm (aG7 t rfl (x:= .none) rfl (aFo ?_));simp only[if_true];refine aFm (aGt (aFm (aG7 t rfl (x:=old) rfl (aFm (aG0 t (by simp) λT N j=>?_)))));refine aFm ?_;unfold Builtin.SmallTypes.ownedTupleHandOut;refine aFm (aG0 N (by simp) λU O k=>aG0 O (by simp) λP R l=>aFm (aJ2 (aFo ⟨_,rfl,I P ⟨⟨x,?_⟩,?_⟩ ?_ ?_⟩)))
 ·exact R
 ·exact NY.to λo ho=>l.extBut _ _ (aGd a) (k.extBut _ _ (aGd a) (j.extBut _ _ (aGd a) (C _ _ (aGd a) ho)))
 ·exact l.extBut _ _ (aGp c) (k.extBut _ _ (aGp c) (j.extBut _ _ (aGp c) F))
 ·exact λb o h S D=>l.extBut _ _ h (k.extBut _ _ h (j.extBut _ _ h (C _ _ h (f.extBut _ _ S D))))
variable{Q:Option Value->Shared->Prop}
theorem yQ{x:Value}(Z:vG s.heap e q .none i)(g:q.Sq s.heap items)(h:items[i]? =some x)(d:e≠q.it)
  (j:∀h',vG h' e q (rawInt s.heap.objs.size) (i+1)->h'.get? s.heap.objs.size=some {cls:= .type "tuple",data:= .seq #[.int i s.toks,x]}->
   (∀b o,b≠e->b≠q.it->s.heap.get? b=some o->h'.get? b=some o)->Q (some (.ref s.heap.objs.size)) {s with heap:=h',toks:=s.toks+1}):
  wpAny (model prog w) A (pyNext (.ref e)) Q E s:=by
 have f:s.TypeIs (.ref e) "enumerate":=by obtain⟨old,he⟩:=Z.obj;exact⟨_,he,rfl⟩
 unfold pyNext
 exact aFm (aH0 (aG3 (name:=Str.ofString "__next__") f aGl (aG1 aGl f aHv
  (SK Z g h d λh' a b c=>aFo (j h' a b c)) (aHr _))))
theorem BB(f:A.handled=none)(Z:vG s.heap e q .none i)(g:q.Sq s.heap items)(h:items[i]? =none)
  (j:∀h',Heap.ExtBut q.it s.heap h' ->Q none {s with heap:=h'}):wpAny (model prog w) A (pyNext (.ref e)) Q E s:=by
 obtain⟨old,he⟩:=Z.obj
 have d:s.TypeIs (.ref e) "enumerate":=⟨_,he,rfl⟩
 unfold pyNext;refine aFm (aH0 (aG3 (name:=Str.ofString "__next__") d aGl (aG1 aGl d aHv ?_ (aHr _))));show wpAny _ _ (field (.ref e) 2 >>=_) _ _ _;refine aFm (aG7 he rfl (x:= .ref q.it) rfl (aFm (Src.done f Z.at_ g h λh' x a c =>?_)));obtain⟨o,ho,k⟩:=c;exact aFm (aHp (T:= "StopIteration") (b:=true) ⟨o,ho,k⟩ aJe (aFo (j _ a)))
theorem aC8{elts:List Expr}{x1}{pos:Pos}{e T:Addr}{Q:Unit->Shared->Prop}(a:e≠q.it)(Z:vG s.heap e q (rawInt T) i)
  (f:∀h',vG h' e q .none i->Heap.SameBut e s.heap h' ->Q () {s with heap:=h'}):wpAny (model prog w) A (letOwnedTupleGo (.Tuple elts x1 pos) (.ref e) (.ref T)) Q E s:=by
 obtain⟨⟨old,he⟩,b⟩:=Z;exact wpAny_letOwnedTupleGo_enum he λh' c d=>f h' ⟨⟨old,c⟩,b.to λo ho=>d.extBut _ _ (aGd a) ho⟩ d
theorem F7{f0:Value}{Q:aJo}(Z:vG s.heap e q f0 i)(h:Q (.ref e) s):wpAny (model prog w) A (pyIter (.ref e)) Q E s:=by
 have a:s.TypeIs (.ref e) "enumerate":=by obtain⟨old,he⟩:=Z.obj;exact⟨_,he,rfl⟩
 refine aHc a aHz (aG1 aHz a F.entry_enumerate_iter ?_ (F.args_enumerate_iter_1 _));exact aFo ⟨_,rfl,"enumerate",_,a,aGl.lookup,h⟩
end
open AutoSeq1 (wpAny_loadPart')
theorem LD(q:Src):Meets (Builtin.«enumerate.__new__» ⟨[.type "enumerate",.ref q.l],[]⟩) (λ_ R s=>(∃items,q.Sq s.heap items)/\
   ∀h' e,s.heap.objs.size<e->vG h' e ⟨s.heap.objs.size,q.l,q.tup⟩ .none 0->(∀b o,s.heap.get? b=some o->h'.get? b=some o)->R (.ok (.ret (.ref e))) {s with heap:=h'}):=
 .of_wp λprog w A R s h=>by
  obtain⟨m,r⟩:=h;obtain⟨items,m⟩:=m;obtain⟨n,g,d,tk,os⟩:=s;have p:=sub_enumerate
  have f:∀a:Heap,(⟨n.objs.size,q.l,q.tup⟩:Src).At a 0->a.objs.size=n.objs.size+1->(∀b o,n.get? b=some o->a.get? b=some o)->
    R (.ok (.ret (.ref a.objs.size))) ⟨a.push {cls:= .type "enumerate",data:= .fields #[.none,.bool false,.ref n.objs.size,rawInt 0,.none,.none]},g,d,tk,os⟩:=λa i k j=>
   r _ _ (by show n.objs.size<_;lia) ⟨⟨.none,aFs _ rfl⟩,i.to λo e=>aFn _ e⟩ λb o e=>aFn _ (j b o e)
  unfold Builtin.«enumerate.__new__»
  wp_walk
  refine wpAny_stack_any λst=>aFo ?_;split
  ·rename_i c _ _ _ _ _;cases (c==Value.type "enumerate")
   ·wp_walk using Src.start m
    intro a i k j
    wp_walk
    exact⟨_,rfl,f a i k j⟩
   ·wp_walk using Src.start m
    intro a i k j
    wp_walk
    exact⟨_,rfl,f a i k j⟩
  ·wp_walk using Src.start m
   intro a i k j
   wp_walk
   exact⟨_,rfl,f a i k j⟩
section
variable {prog:Program}{w:World}{A:Around}{E:aJo}{s:Shared}
theorem SX{q:Src}{Q:aJo}(a:∃items,q.Sq s.heap items)
  (h:∀h' e,s.heap.objs.size<e->vG h' e ⟨s.heap.objs.size,q.l,q.tup⟩ .none 0->(∀b o,s.heap.get? b=some o->h'.get? b=some o)->Q (.ref e) {s with heap:=h'}):
  wpAny (model prog w) A (call (.type "enumerate") [Value.ref q.l]) Q E s:=
 callType_new F.called_enumerate (by decide) (F.typeCall_enumerate_1 _) (F.newCall_enumerate_1 _) (λobj=>F.args_object_init_2 obj _) F.entry_enumerate_new (LD q)
  ⟨a,λh' e t Z k=>⟨by obtain⟨old,he⟩:=Z.obj;exact⟨_,he,rfl⟩,h h' e t Z k⟩⟩
end
def Ite(K:aJn)(a:Addr)(t:Bool):It where
 go:=λi H=>∃xs v,rQ K H t a xs/\xs[i]? =some v
 OL:=λi H x H' =>∃p v,H p=none/\x= .ref p/\H' =upd H p (.tup [.int i,v])/\∀xs,rQ K H t a xs->xs[i]? =some v
 stop:=λi H=>∃xs,rQ K H t a xs/\xs.length<=i
theorem OW{P:Program}{w:World}{K:aJn}{elts:List Expr}{x1}{pos:Pos}{e:Addr}{q:Src}(f:e≠q.it):
  Turn P w K (.Tuple elts x1 pos) (Ite K q.l q.tup) [e,q.it] e (λi h=>vG h e q .none i) where
 mem:=aFr
 self:=λA i s Q E Z h=>F7 Z h
 obj:=λi h Z b a=>by
  simp only[List.mem_cons,List.not_mem_nil,or_false]at a;rcases a with rfl | rfl
  ·obtain⟨old,he⟩:=Z.obj;exact⟨_,he,λv z=>by cases z⟩
  ·obtain⟨o,ho,hd⟩:=Z.at_.obj;exact⟨o,ho,λv z=>by rw[hd]at z;cases z⟩
 keep:=λi h h' Z k=>by
  obtain⟨⟨old,he⟩,NY⟩:=Z;exact⟨⟨old,k e (by simp) _ he⟩,NY.to λo ho=>k q.it (by simp) o ho⟩
 item:=by
  intro X n p t C i pins s σ H E I j Z hg;subst n p t;obtain⟨xs,v,m,hi⟩:=hg;obtain⟨aN,F,x⟩:=I.JB m;obtain⟨u,G,r⟩:=F.get hi;refine yQ Z (x q.it) (by simpa using G) f λJ L D M=>?_;refine⟨_,rfl,aC8 (s:={s with heap:=J,toks:=s.toks+1}) f L λN O d=>?_⟩;have g:e<s.heap.objs.size:=by obtain⟨old,he⟩:=Z.obj;exact aFu he
  have y:q.it<s.heap.objs.size:=by obtain⟨o,ho,_⟩:=Z.at_.obj;exact aFu ho
  have c:s.heap.objs.size≠e:=aGp g
  have kk:∀b o,b∉[e,q.it]->s.heap.get? b=some o->N.get? b=some o:=λb o a ho=>by
   simp only[List.mem_cons,List.not_mem_nil,or_false,not_or]at a;exact d.extBut _ _ a.1 (M b o a.1 a.2 ho)
  refine⟨.ref s.heap.objs.size,upd H s.heap.objs.size (.tup [.int i,v]),I.GD (t' :=s.toks+1) j kk (aFq _) ⟨by have:=aGb;simp;lia,[.int i s.toks,u],.cons ⟨_,rfl⟩ (.cons r .nil),⟨_,d.extBut _ _ c D,rfl,0,rfl⟩,λo ho=>by rw[d.extBut _ _ c D]at ho;cases ho;rfl⟩,rfl,?_,O,λb a=>?_⟩
  ·refine⟨s.heap.objs.size,v,I.bG.fresh (aFq _),rfl,rfl,λT R=>?_⟩;rw[I.sJ R m];exact hi
  ·have B:=(j b a).1
   have:b≠s.heap.objs.size:=by
    simp only[List.mem_cons,List.not_mem_nil,or_false]at a;rcases a with rfl | rfl
    ·exact aFz g
    ·exact aFz y
   rw[aK this];exact B
 done:=by
  intro X n p t C i pins s σ H E I j Z hg;subst n p t;obtain⟨xs,m,S⟩:=hg;obtain⟨aN,r,x⟩:=I.JB m
  refine BB (I.ok.hd C) Z (x q.it) ?_ λh' kp=>⟨rfl,I.DZ (t' :=s.toks) j λb o a ho=>kp b o (λz=>a (by simp[z])) ho⟩
  have:=r.length;rw[List.getElem?_toArray];exact aI5.mpr (by lia)
def iEn(K:aJn)(c:TA):TI:=λσ H R=>c σ H λvs b=>∃a t,vs=[.ref a]/\(∃xs,rQ K b t a xs)/\R (Ite K a t) b
theorem aAh{X:Cx}{e:Expr}{i:TA}{p pos:Pos}{elts:List Expr}{x1}{j:Pos}(hg:Gl X "enumerate")(m:X.mg "enumerate"=none)(n:PA X [e] i)
  (hv:bootBuiltins "enumerate"=some (.type "enumerate"):=by decide+kernel)
  (o:starEach [e] X.env=(false,eval e X.env)::starEach [] X.env:=by rfl):
  PI X (.Tuple elts x1 j) (.Call (.Name "enumerate" p) [e] [] pos) (iEn X.K i):=by
 intro pins s σ H R I h;refine aH9 (jE I hg m hv ?_);refine aGj (bV (n pos pins s σ H _ I h) λus s1 ⟨vs,f,d,r1,q1⟩=>?_) o rfl;obtain⟨a,t,rfl,⟨xs,r⟩,v⟩:=q1;obtain⟨u,rfl,x⟩:=vals1 r1;cases x;obtain⟨aN,_,g⟩:=d.JB r;refine SX (q:=⟨0,a,t⟩) ⟨aN.toArray,g 0⟩ λh' z k Z kp=>?_;have y:Inv X pins σ f {s1 with heap:=h'}:=d.kept (t' :=s1.toks) kp;have T:=OW (P:=X.prog) (w:=X.w) (K:=X.K) (elts:=elts) (x1:=x1) (pos:=j) (e:=z) (q:=⟨s1.heap.objs.size,a,t⟩) (aGp k);refine F7 Z ⟨z,_,_,Ite X.K a t,f,rfl,y,T,Z,λb l=>?_,v⟩
 have c:s1.heap.objs.size<=b:=by
  simp only[List.mem_cons,List.not_mem_nil,or_false]at l;rcases l with rfl | rfl
  ·exact aGs k
  ·exact aFq _
 exact(d.D0 c (d.bG.fresh c):qA X pins f b)
end L2
namespace D3
open PySem PySem.Spec PyProof.Rows L2
def AQ(e wi f:WE):WE:=λc mh Q=>e c mh λo b=>∃n,o= .ref n/\(∃kvs,b[n]? =some (.bI false kvs))/\wi c b λi d=>f c d λx a=>∃kvs key,a[n]? =some (.bI false kvs)/\i=aS key/\kvs.length<sizeLine/\
 (∀v,aT kvs i=some v->Q v a)/\(aT kvs i=none->Q x (a.set n (.bI false (putD kvs i x))))
open Classical in
noncomputable def iF(kvs:List (D×D))(k:D):List (D×D):=kvs.filter λp=>decide (p.1≠k)
def E8(d wi:WE):WS:=λE b mh=>d b mh λo c=>wi b c λi a=>∃n kvs key,o= .ref n/\a[n]? =some (.bI false kvs)/\i=aS key/\(aT kvs i).isSome=true/\E.nx b (a.set n (.bI false (iF kvs i)))
theorem B1{K:aJn}{μ:List Addr}{H:Hp}(key:Key):∀{kvs:List (D×D)} {kk:List (Key×V)},kvs.map (·.1)=kk.map (λp=>aS p.1)->IsL K μ H (kvs.map (·.2)) (kk.map (·.2))->
  (iF kvs (aS key)).map (·.1)=(gP kk key).map (λp=>aS p.1)/\IsL K μ H ((iF kvs (aS key)).map (·.2)) ((gP kk key).map (·.2))
 | [],[],_,_=>⟨rfl,by simp[iF,gP,IsL]⟩
 | [],_::_,h,_=>by simp at h
 | _::_,[],h,_=>by simp at h
 | p::kvs,q::kk,h,l=>by
  simp only[List.map_cons,List.cons.injEq]at h;simp only[List.map_cons]at l;unfold IsL at l;obtain⟨w,r,e,i,l⟩:=l;simp only[List.cons.injEq]at e;obtain⟨rfl,rfl⟩:=e;obtain⟨d,f⟩:=B1 key h.2 l;by_cases hk:q.1=key
  ·have a:p.1=aS key:=by rw[h.1,hk]
   have b:iF (p::kvs) (aS key)=iF kvs (aS key):=by unfold iF;rw[List.filter_cons_of_neg (by simp[a])]
   have c:gP (q::kk) key=gP kk key:=by unfold gP;rw[List.filter_cons_of_neg (by simp[hk])]
   rw[b,c];exact⟨d,f⟩
  ·have a:¬p.1=aS key:=λz=>hk (iB (h.1.symm.trans z));have b:iF (p::kvs) (aS key)=p::iF kvs (aS key):=by unfold iF;rw[List.filter_cons_of_pos (by simp[a])]
   have c:gP (q::kk) key=q::gP kk key:=by unfold gP;rw[List.filter_cons_of_pos (by simp[hk])]
   rw[b,c];refine⟨by simp[h.1,d],?_⟩;simp only[List.map_cons];unfold IsL;exact⟨_,_,rfl,i,f⟩
section
variable {X:Cx}{o i x:Expr}{wo wi wx:WE}{apos cZ pos jX:Pos}
theorem X4{K:aJn}{μ:List Addr}{mh:MH}{H:Hp}{n:Nat}{v:V}{kvs:List (D×D)}(R:Rep K μ mh H)(h:Is K μ H (.ref n) v)(e:mh[n]? =some (.bI false kvs)):∃a,v= .ref a/\IsD H a:=by
 obtain⟨a,vs,rfl,b,⟨kk,hv,_,_⟩,_⟩:=mZ R h e;exact⟨a,rfl,.inl ⟨kk,.inl hv⟩⟩
theorem QK{t ty A:TE}(ho:PE X o t)(he:PE X i ty)(E:PE X x A)(m:M2 X o "setdefault" apos i x cZ):PE X (.Call (.Attribute o "setdefault" apos) [i,x] [] cZ)
  (λσ H Q=>t σ H λx j=>∃a,x= .ref a/\IsD j a/\ty σ j λy l=>A σ l λz f=>∃kvs k,f a=some (.dK kvs)/\y=kV k/\kvs.length<sizeLine/\(∀v,fZ kvs k=some v->Q v f)/\(fZ kvs k=none->Q z (upd f a (.dK (putK kvs k z))))):=by
 intro pins s σ H Q I h;refine wpAny_Call_method m.base m.SG m.line PySem.F.plainAttrs_dict aHe aJ7 (bV (ho pins s σ H _ I h) λu s1 n=>?_);obtain⟨x,j,B,G,a,ex,d,q1⟩:=n;subst ex;obtain rfl:u=Value.ref a:=G;obtain⟨J,K,_⟩:=MR B d;refine⟨J,K,?_⟩;rw[m.trees]
 refine aIm rfl (aJ0 (aHg (bV (he pins s1 σ j _ B q1) λY s2 ⟨y,l,L,M,q2⟩=>
  aHg (bV (E pins s2 σ l _ L q2) λN Z ⟨z,f,p,C,kvs,k,e,O,P,R,S⟩=>aIj ?_))))
 subst O;obtain⟨T,hd,vs,b,D⟩:=B2 p.bG e;have hz:vs.length<=sizeLine:=by rw[<-b.length];exact T
 refine call_meetsIn aHe D.typeIs aJ3 (aIy _ _ _) (kt_meets_setdefault (aR X.prog X.w) a (oB M) hd N) ⟨vs,D,hz,λv hv=>?_,λU h' g V=>?_⟩
 ·have c:=b.val k;rw[hv]at c
  cases hvv:fZ kvs k with
  | none=>rw[hvv]at c;exact c.elim
  | some r =>rw[hvv]at c;exact⟨r,f,p.tok _,c,R r hvv⟩
 ·have c:=b.val k;rw[U]at c
  cases hvv:fZ kvs k with
  | some r =>rw[hvv]at c;exact c.elim
  | none=>
   have W:(putK kvs k z).length<=sizeLine:=by have:=fU kvs k z;lia
   have he:∃q,h'.get? a=some q:=let ⟨q,_,_,hq,_⟩:=g;⟨q,hq⟩;exact⟨z,_,i6 p (by rw[e];exact True.intro) V he (zI W hd (b.put k C) g),C,S hvv⟩
theorem RP(ho:LE X o wo)(hi:LE X i wi)(P:LE X x wx)(base:attributeBase o "setdefault" X.env (eval o X.env)=eval o X.env:=by rfl)
  (SG:((backTo cZ (starEach [i,x] X.env)).all (λx=>!x.1) && (backToKw cZ (keywordEach [] X.env)).all (λx=>x.1.isSome) && decide (([i,x]:List Expr).length+([]:List Keyword).length+(if ([]:List Keyword).isEmpty then 0 else 1)<30))=true:=by rfl)
  (line:(apos.endLine==cZ.line)=true:=by rfl) (trees:backTo cZ (starEach [i,x] X.env)=[(false,eval i X.env),(false,eval x X.env)]:=by rfl):
  LE X (.Call (.Attribute o "setdefault" apos) [i,x] [] cZ) (AQ wo wi wx):=PE.imp (QK ho hi P ⟨base,SG,line,trees⟩) λσ H Q h=>by
 obtain⟨μ,m,mh,R,p,En,h,F⟩:=h;refine⟨μ,m,mh,_,p,En,h,λS r q s vo H1 t u E=>?_⟩;obtain⟨n,rfl,⟨G,T⟩,q⟩:=q;obtain⟨a,rfl,U⟩:=X4 u E T;refine⟨a,rfl,U,s,m,r,_,u,En.mono p t,q,λdi y q2 z vi H2 A R2 V=>?_⟩;refine⟨z,m,y,_,R2,En.mono p (t.trans A),q2,λdx B q3 b I C J g L=>?_⟩;obtain⟨kvs,key,e,rfl,hz,W,Y⟩:=q3;obtain⟨a',vs,Z,M,⟨kk,hv,k,rfl⟩,l⟩:=mZ g (Is.mono u (A.trans J) _ _ E) e;cases Z;cases gV V;have N:=F.at ((t.trans A).trans J);have ln:kk.length=kvs.length:=by have:=aGx List.length k;simp at this;lia
 refine⟨kk,key,hv,rfl,by lia,λv c=>?_,λc=>?_⟩
 ·rcases iW key k l with ⟨d,j⟩ | ⟨d',w,d,j,O⟩
  ·rw[c]at d;cases d
  ·rw[c]at d;cases d;exact N.here g (W d' j) O
 ·rcases iW key k l with ⟨d,j⟩ | ⟨d',w,d,j,O⟩
  ·have D:aI b C b (upd C a (.dK (putK kk key I))):=aI.set g M;obtain⟨p1,p2⟩:=sO (f:=aS) iB key L k l;have R4:Rep X.K b (B.set n (.bI false (putD kvs (aS key) dx))) (upd C a (.dK (putK kk key I))):=pY g M (by trivial) ⟨_,⟨_,aP,p1,rfl⟩,p2.mono g D⟩;exact N _ _ (Y j) b _ _ D R4 (Is.mono g D _ _ L)
  ·rw[c]at d;cases d
theorem RH(ho:LE X o wo)(hi:LE X i wi):LS X (.Delete [.Subscript o i jX] pos) (E8 wo wi):=PS.imp (QD ho hi) λD σ H h=>by
 obtain⟨μ,d,mh,E,R,En,h,F⟩:=h;refine⟨μ,d,mh,_,R,En,h,λz f q g J L m p A=>?_⟩;refine⟨g,d,f,_,p,En.mono R m,q,λM j q2 b N k r R2 B=>?_⟩;obtain⟨n,kvs,key,rfl,e,rfl,s,q⟩:=q2;obtain⟨a,vs,rfl,t,⟨kk,hv,u,rfl⟩,l⟩:=mZ R2 (Is.mono p r _ _ A) e;cases gV B;have v:aI b k b (upd k a (.dK (gP kk key))):=aI.set R2 t;obtain⟨C,G⟩:=B1 key u l;have I:Rep X.K b (j.set n (.bI false (iF kvs (aS key)))) (upd k a (.dK (gP kk key))):=pY R2 t (by trivial) ⟨_,⟨_,aP,C,rfl⟩,G.mono R2 v⟩;have c:=(m.trans r).trans v;refine⟨a,kk,key,rfl,hv,rfl,?_,F.nx d _ q b σ _ c I (En.mono R c)⟩
 rcases iW key u l with ⟨x,y⟩ | ⟨d',w,x,y,O⟩
 ·rw[y]at s;cases s
 ·rw[x];rfl
@[simp] theorem aEf {c:c9}{mh:MH}{Q:DK}:AQ wo wi wx c mh Q↔wo c mh λo b=>∃n,o= .ref n/\(∃kvs,b[n]? =some (.bI false kvs))/\wi c b λi d=>wx c d λx a=>∃kvs key,a[n]? =some (.bI false kvs)/\i=aS key/\kvs.length<sizeLine/\
 (∀v,aT kvs i=some v->Q v a)/\(aT kvs i=none->Q x (a.set n (.bI false (putD kvs i x)))):=Iff.rfl
@[simp] theorem aEi {b:c9}{mh:MH}{E:iK}:E8 wo wi E b mh=(wo b mh λo c=>wi b c λi a=>∃n kvs key,o= .ref n/\a[n]? =some (.bI false kvs)/\i=aS key/\(aT kvs i).isSome=true/\E.nx b (a.set n (.bI false (iF kvs i)))):=rfl
end
theorem WX{X:Cx}(i j:Nat){x y:Str}{a b:Expr}{t:WA}{k l pt pos:Pos}{m n:Nat}{c:Pos}(A:X.calm=true)(hN:X.N.Nodup)(B:LA X [a,b] t)(hi:X.N[i]? =some x:=by rfl)(C:X.N[j]? =some y:=by rfl)(o:i≠j:=by decide)
  (G:X.env.scope.names.lookup x=some .local:=by rfl) (I:X.env.scope.names.lookup y=some .local:=by rfl)
  (J:swappedStores [.Tuple [.Name x k,.Name y l] m pt] (.Tuple [a,b] n c) X.env=pure (some [x,y]):=by rfl)
  (K:swapsWithSole [.Tuple [.Name x k,.Name y l] m pt] (.Tuple [a,b] n c) pos.line X.env=pure false:=by rfl):
  LS X (.Assign [.Tuple [.Name x k,.Name y l] m pt] (.Tuple [a,b] n c) pos) (bJ (lO t) (gT 2 (bS (gN i) (bS (gN j) iX)))):=
 PS.imp (VI A hN hi C o G I B J K) λD σ H h=>by
  obtain⟨μ,L,mh,E,u,En,h,F⟩:=h;refine⟨μ,L,mh,_,u,En,h,λds p M s vs O w P f=>?_⟩;obtain⟨_,Q,e,T,d,r,rfl,U,r2,rfl,rfl,q⟩:=M;cases e;unfold IsL at f;obtain⟨v,V,rfl,f,g⟩:=f;unfold IsL at g;obtain⟨R,S,rfl,g,z⟩:=g;unfold IsL at z;subst z;exact⟨v,R,rfl,F.nx _ p q s _ O w P (((En.mono u w).set i f).set j g)⟩
abbrev cF(P:Program)(W:World)(K:aJn)(mg:aJq)(base:Heap)(N:List Str)(q:Str)(S:Stmt)(f:Addr)(a:Value)(A:Around)(o:List Env)(s:Shared)(H:Hp)(E:XK):Cx:=(uW CM P W K mg base N q (aE S) f a A o s H E).Q2
section
variable {P:Program}{W:World}{K:aJn}{mg:aJq}{base:Heap}{N:List Str}{q:Str}{S:Stmt}{f:Addr}{cd:Value}{A:Around}{o:List Env}{s:Shared}{H:Hp}{E:XK}
 {tg iter elt:Expr} {ifs:List Expr} {scope:Scope} {pos:Pos} {wi:WI} {g:TG} {gd:WG} {t:WT} {w:WE} (own:List Str) (aD:List Nat)
def cN(N own:List Str)(aD:List Nat):List Str:=own++aD.map λi=>N.getD i ""
theorem XD(chk:bW N (aE S) scope aD=true)(nd:(cN N own aD).Nodup)(a:gA K g gd)(ho:j7 own.length g)
  (hi:LI (cF P W K mg base N q S f cd A o s H E) tg iter wi)
  (hg:(cN N own aD).Nodup->∀cl C fp s₀ H₀,PG (aG (cF P W K mg base N q S f cd A o s H E) own aD scope cl C fp s₀ H₀) tg g) (ht:∀cl C fp s₀ H₀,AG (aG (cF P W K mg base N q S f cd A o s H E) own aD scope cl C fp s₀ H₀) ifs t)
  (he:∀cl C fp s₀ H₀,LE (aG (cF P W K mg base N q S f cd A o s H E) own aD scope cl C fp s₀ H₀) elt w)
  (b:∀x,foldedSetIterable iter (cF P W K mg base N q S f cd A o s H E).env x=pure x:=by intro _;rfl):LE (cF P W K mg base N q S f cd A o s H E) (.ListComp elt [⟨tg,iter,ifs,0⟩] scope pos) (sH own aD wi gd t w):=
 UD (N:=N) (sc:=aE S) own aD rfl rfl chk rfl hi ho a (hg nd) ht he b
theorem HL{i:Nat}{x:Str}{a c:Pos}(chk:bW N (aE S) scope aD=true)(nd:(cN N own aD).Nodup)(d:gA K g gd)(ho:j7 own.length g)
  (hN:N.Nodup) (hi:LI (cF P W K mg base N q S f cd A o s H E) tg iter wi)
  (hg:(cN N own aD).Nodup->∀cl C fp s₀ H₀,PG (aG (cF P W K mg base N q S f cd A o s H E) own aD scope cl C fp s₀ H₀) tg g) (ht:∀cl C fp s₀ H₀,AG (aG (cF P W K mg base N q S f cd A o s H E) own aD scope cl C fp s₀ H₀) ifs t)
  (he:∀cl C fp s₀ H₀,LE (aG (cF P W K mg base N q S f cd A o s H E) own aD scope cl C fp s₀ H₀) elt w)
  (b:N[i]? =some x:=by rfl) (e:Loc (cF P W K mg base N q S f cd A o s H E).env.scope x:=by first | exact Or.inl rfl | exact Or.inr rfl) (h:swapsWith (.ListComp elt [⟨tg,iter,ifs,0⟩] scope pos) (some (.Name x a)) c.line (cF P W K mg base N q S f cd A o s H E).env=pure true:=by rfl)
  (j:(cF P W K mg base N q S f cd A o s H E).fn x=true\/(cF P W K mg base N q S f cd A o s H E).env.scope.names.lookup x=some .local:=by first | exact .inl rfl | exact .inr rfl | assumption)
  (k:∀x,foldedSetIterable iter (cF P W K mg base N q S f cd A o s H E).env x=pure x:=by intro _;rfl):LS (cF P W K mg base N q S f cd A o s H E) (.Assign [.Name x a] (.ListComp elt [⟨tg,iter,ifs,0⟩] scope pos) c) (bJ (sH own aD wi gd t w) (gN i)):=
 LQ i hN (N:=N) (sc:=aE S) own aD rfl rfl chk rfl hi ho d (hg nd) ht he b e h j k
theorem RO{o1:Nat}{a d:Expr}{p:List Expr}{b:WI}{e:TG}{c:WG}{r:WT}(chk:bW N (aE S) scope aD=true)(nd:(cN N own aD).Nodup)(u:gA K g gd)(h:gA K e c)(i:o1<=own.length)(ho:j7 o1 g)
  (j:GIn o1 own.length e) (hi:LI (cF P W K mg base N q S f cd A o s H E) tg iter wi)
  (hg:(cN N own aD).Nodup->∀cl C fp s₀ H₀,PG (aG (cF P W K mg base N q S f cd A o s H E) own aD scope cl C fp s₀ H₀) tg g) (ht:∀cl C fp s₀ H₀,AG (aG (cF P W K mg base N q S f cd A o s H E) own aD scope cl C fp s₀ H₀) ifs t)
  (k:∀cl C fp s₀ H₀,LI (aG (cF P W K mg base N q S f cd A o s H E) own aD scope cl C fp s₀ H₀) a d b)
  (l:(cN N own aD).Nodup->∀cl C fp s₀ H₀,PG (aG (cF P W K mg base N q S f cd A o s H E) own aD scope cl C fp s₀ H₀) a e) (m:∀cl C fp s₀ H₀,AG (aG (cF P W K mg base N q S f cd A o s H E) own aD scope cl C fp s₀ H₀) p r)
  (he:∀cl C fp s₀ H₀,LE (aG (cF P W K mg base N q S f cd A o s H E) own aD scope cl C fp s₀ H₀) elt w)
  (v:∀x,foldedSetIterable iter (cF P W K mg base N q S f cd A o s H E).env x=pure x:=by intro _;rfl) (n:∀env x,foldedSetIterable d env x=pure x:=by intro _ _;rfl):
  LE (cF P W K mg base N q S f cd A o s H E) (.ListComp elt [⟨tg,iter,ifs,0⟩,⟨a,d,p,0⟩] scope pos) (JF own aD wi gd t b c r w):=
 XF (N:=N) (sc:=aE S) own o1 aD rfl rfl chk rfl hi i ho u j h (hg nd) ht k (l nd) m he v n
end
def nU:HO->Nat
 | .dK kk=>kk.length
 | .dT kk=>kk.length
 | _=>0
def N8:HO->Nat->Hp->V->Prop
 | .dK kk,i,_,x=>∃p,kk[i]? =some p/\x=kV p.1
 | .dT kk,i,H,x=>∃p b,kk[i]? =some p/\x= .ref b/\H b=some (.tup (p.1.map kV))
 | _,_,_,_=>False
def zD:HO->Prop
 | .dK _=>True
 | .dT _=>True
 | _=>False
def Itd(a:Addr)(ob:Obj):It where
 go:=λi H=>∃u,H a=some (.rY ob u)/\zD u/\i<nU u
 OL:=λi H x H' =>H' =H/\∃u,H a=some (.rY ob u)/\N8 u i H x
 stop:=λi H=>∃u,H a=some (.rY ob u)/\zD u/\nU u<=i
theorem ME{H:Hp}:∀{kk:List (List Key×V)} {xs:List (List Key×Addr×Value)} {i:Nat},KT H kk xs->i<kk.length->∃p q,kk[i]? =some p/\xs[i]? =some q/\H q.2.1=some (.tup (p.1.map kV))
 | _,_,_,.nil,h=>by simp at h
 | _,_,0,.cons r _,h=>⟨_,_,rfl,rfl,r.2.1⟩
 | _,_,i+1,.cons _ t,h=>by
  obtain⟨p,q,a,b,c⟩:=ME (i:=i) t (by simpa using h);exact⟨p,q,by simpa using a,by simpa using b,c⟩
theorem MD{H:Hp}:∀{kk:List (List Key×V)} {xs:List (List Key×Addr×Value)},KT H kk xs->kk.length=xs.length
 | _,_,.nil=>rfl
 | _,_,.cons _ t=>by simp[MD t]
variable{es:Array DictEntry}
theorem MG{P:Program}{w:World}{H:Hp}{h:Heap}{a:Addr}{ob:Obj}{ep:Nat}{u:HO}(m:zD u)(ok:cA P w H h a u)(ho:h.get? a=some ob)(hd:ob.data= .dict es ep):
  es.size=nU u/\∀i,i<nU u->∃e x,es[i]? =some e/\RelV x e.key/\N8 u i H x:=by
 cases u with
 | dK kk=>
  obtain⟨z,n,vs,r,o,f,g,b,s,c,j,k,C⟩:=ok;rw[ho]at b;cases b;rw[hd]at c;cases c;have V:=oJ k r;have d:=V.length;simp at d;refine⟨d.symm,λi hi=>?_⟩
  replace hi:i<kk.length:=hi
  obtain⟨y,l,t⟩:=V.get (i:=i) (x:=kV kk[i].1) (by simp[hi]);rw[List.getElem?_map,Option.map_eq_some_iff]at l;obtain⟨e,he,rfl⟩:=l;exact⟨e,_,by simpa using he,t,kk[i],by simp[hi],rfl⟩
 | dT kk=>
  obtain⟨z,n,xs,r,o,f,g,b,s,c,j,k⟩:=ok;rw[ho]at b;cases b;rw[hd]at c;cases c;have d:=aGx List.length j;simp at d;have hk:=MD r;refine⟨by rw[d];exact hk.symm,λi hi=>?_⟩;obtain⟨p,q,v,A,B⟩:=ME r hi;have:es.toList[i]? =some (entryOfKey (tupleKind (aR P w)) q):=by rw[j,List.getElem?_map,A];rfl
  exact⟨entryOfKey (tupleKind (aR P w)) q,.ref q.2.1,by simpa using this,rfl,p,q.2.1,v,rfl,B⟩
 | _=>exact m.elim
theorem JN{P:Program}{w:World}{K:aJn}{tg:Expr}(it a:Addr){ob:Obj}{ep:Nat}(C:ob.ExactDict)(hd:ob.data= .dict es ep):Turn P w K tg (Itd a ob) [it] it (λi h=>Heap.IsKeyIter h it a i es.size ep) where
 mem:=by simp
 obj:=λi h st b f=>by
  have e:b=it:=by simpa using f
  subst e;obtain⟨o,e,c,d⟩:=st;exact⟨o,e,λv z=>by rw[d]at z;cases z⟩
 keep:=λi h h' st k=>st.at λo e=>k it (by simp) o e
 item:=by
  intro X p q r D i pins s σ H E I m st hg;subst p q r;obtain⟨u,n,g,hi⟩:=hg
  obtain⟨j,t⟩:=(show s.heap.get? a=some ob/\cA X.prog X.w H s.heap a u from I.bG a _ n)
  obtain⟨e,x,F,r1,G⟩:=(MG g t j hd).2 i hi;obtain⟨f0,f1,J,y,A,B⟩:=m it (by simp);refine A3 st ⟨ob,j,C,hd⟩ F λh' l L=>?_;have M:Inv X pins σ H {s with heap:=h'}:=I.turned (t' :=s.toks) (λb o f e=>(L.2 b f).trans e) f0 f1 y A B;obtain⟨o,e,c,d⟩:=id l;exact⟨_,rfl,GC (s:={s with heap:=h'}) e c d (by decide) ⟨x,H,M,r1,⟨rfl,u,n,G⟩,l,λb f=>(m b f).1⟩⟩
 done:=by
  intro X p q r D i pins s σ H E I m st hg;subst p q r;obtain⟨u,n,g,hi⟩:=hg
  obtain⟨j,t⟩:=(show s.heap.get? a=some ob/\cA X.prog X.w H s.heap a u from I.bG a _ n)
  have hz:=(MG g t j hd).1;obtain⟨f0,f1,J,y,A,B⟩:=m it (by simp)
  exact FO (I.ok.hd D) st ⟨ob,j,C,hd⟩ (by simp;lia) λh' N=>⟨rfl,I.turned (t' :=s.toks) (λb o f e=>N b o f e) f0 f1 y A B⟩
 self:=λ_ _ _ _ _ st h=>wpAny_pyIter_keyiter st h
theorem B5{K:aJn}{μ:List Addr}{mh:MH}{H:Hp}{n:Nat}{a:Addr}{o:MO}{ob:HO}(R:Rep K μ mh H)(h:μ[n]? =some a)(l:m7 K μ (upd H a ob) o a):Rep K μ (mh.set n o) (upd H a ob):=by
 have P:aI μ H μ (upd H a ob):=aI.set R h;refine⟨by simp[R.len],R.nd,λm b f d e=>?_⟩;by_cases c:m=n
 ·subst c;rw[h]at d;cases d;have g:m<mh.length:=by rw[<-R.len];exact(aFp.mp h).1
  rw[List.getElem?_set_self g]at e;cases e;exact l
 ·rw[List.getElem?_set_ne (Ne.symm c)]at e;exact(R.obj m b f d e).mono R P (aK λz=>c (w4 R.nd d (by rw[z];exact h)))
def mD(w:WE):WI:=λb mh Q=>w b mh λx a=>∃n t kvs,x= .ref n/\((a[n]? =some (.bI t kvs)/\∀ob,Q (kvs.map (·.1)) (λmh' =>mh'[n]? =some (.eY t kvs ob)) (a.set n (.eY t kvs ob)))\/
 ∃ob,a[n]? =some (.eY t kvs ob)/\Q (kvs.map (·.1)) (λmh' =>mh'[n]? =some (.eY t kvs ob)) a)
section
variable {K:aJn}{μ:List Addr}{mh:MH}{H:Hp}{n:Nat}{a:Addr}{t:Bool}{kvs:List (D×D)}{ob:Obj}
theorem pZ{u:HO}{ks:List D}{vs:List V}(h:rR (some u) ks vs t):zD u/\nU u=ks.length:=by
 cases t with
 | false=>obtain⟨kk,e,rfl,_⟩:=h;cases e;exact⟨trivial,by simp[nU]⟩
 | true=>obtain⟨kk,e,rfl,_⟩:=h;cases e;exact⟨trivial,by simp[nU]⟩
theorem MJ{u:HO}{ks:List D}{vs:List V}{i:Nat}{d:D}{x:V}(h:rR (some u) ks vs t)(hd:ks[i]? =some d)(k:N8 u i H x):Is K μ H d x:=by
 cases t with
 | false=>
  obtain⟨kk,e,rfl,_⟩:=h;cases e;obtain⟨p,a,rfl⟩:=k;rw[List.getElem?_map,a]at hd;cases hd;exact MN _
 | true=>
  obtain⟨kk,e,rfl,_⟩:=h;cases e;obtain⟨p,b,a,rfl,c⟩:=k;rw[List.getElem?_map,a]at hd;cases hd;unfold Is;exact⟨b,_,rfl,.inl c,sU _⟩
theorem X2(o:μ[n]? =some a)(hz:kvs.length<=sizeLine):EO K μ H (kvs.map (·.1)) (λmh' =>mh'[n]? =some (.eY t kvs ob)) (Itd a ob):=by
 refine⟨by simpa using hz,λμ' mh' H' g c h i d e=>?_,λμ' mh' H' g c h=>?_⟩
 ·obtain⟨vs,u,hv,f,l⟩:=c.obj n a _ (g.get o) h;obtain⟨j,m⟩:=pZ f;refine⟨⟨u,hv,j,by rw[m];exact(aFp.mp e).1⟩,λx H'' y=>?_⟩;obtain⟨rfl,p,b,k⟩:=y;rw[hv]at b;cases b;exact⟨aI.refl,c,MJ f e k⟩
 ·obtain⟨vs,u,hv,f,l⟩:=c.obj n a _ (g.get o) h;obtain⟨j,m⟩:=pZ f;exact⟨u,hv,j,by rw[m];exact aFq _⟩
theorem freeze{X:Cx}{pins:List (Addr×Obj)}{σ:L2.St}{s:Shared}{u:HO}(I:Inv X pins σ H s)(e:H a=some u)(j:zD u):
  ∃ob es ep,s.heap.get? a=some ob/\ob.ExactDict/\ob.data= .dict es ep/\(a==sysModules)=false/\Inv X pins σ (upd H a (.rY ob u)) s:=by
 have ok:=I.bG a u e
 obtain⟨ob,es,ep,c,g,h,i⟩:∃ob es ep,s.heap.get? a=some ob/\ob.ExactDict/\ob.data= .dict es ep/\(a==sysModules)=false:=by
  cases u with
  | dK kk=>obtain⟨z,i,vs,r,o,d,f,c,g,h,_⟩:=ok;exact⟨o,d,f,c,g,h,i⟩
  | dT kk=>obtain⟨z,i,xs,r,o,d,f,c,g,h,_⟩:=ok;exact⟨o,d,f,c,g,h,i⟩
  | _=>exact j.elim
 have k:EN (H a):=by rw[e];cases u <;> first | exact j.elim | trivial
 refine⟨ob,es,ep,c,g,h,i,?_⟩;refine I.write (t' :=s.toks) (h' :=s.heap) k (.inl rfl) (λb u _ q=>q) ⟨ob,c⟩ ⟨c,?_⟩;refine ok.vK (λb u _ q=>q) (λb q=>?_) λb xs q=>?_
 ·rw[aK (λz=>by subst z;rw[e]at q;cases q;exact j)];exact q
 ·rw[aK (λz=>by subst z;rw[e]at q;cases q;exact j)];exact q
end
section
variable {X:Cx}{tg l:Expr}{w:WE}
theorem W6(Y:LE X l w):LI X tg l (mD w):=by
 intro pins s σ H R I h;obtain⟨μ,Z,mh,S,RR,En,h,F⟩:=h
 refine bV (Y pins s σ H (λv j=>∃c x f,aI μ H c j/\Rep X.K c f j/\Is X.K c j x v/\∃n t kvs,x= .ref n/\((f[n]? =some (.bI t kvs)/\∀ob,S (kvs.map (·.1)) (λmh' =>mh'[n]? =some (.eY t kvs ob)) (f.set n (.eY t kvs ob)))\/
  ∃ob,f[n]? =some (.eY t kvs ob)/\S (kvs.map (·.1)) (λmh' =>mh'[n]? =some (.eY t kvs ob)) f)) I ⟨μ,Z,mh,_,RR,En,h,λd f q c v j O y E=>⟨c,d,f,O,y,E,q⟩⟩) λv s1 zz=>?_
 obtain⟨x,j,E,r1,c,dx,f,O,y,ix,n,t,kvs,rfl,q⟩:=zz;obtain⟨a,J,rfl⟩:=jG ix;cases r1
 have L:∀{G:Hp} {B:MH} {ob:Obj} {es:Array DictEntry} {ep:Nat},Inv X pins σ G s1->aI μ H c G->Rep X.K c B G->s1.heap.get? a=some ob->ob.ExactDict->ob.data= .dict es ep->(a==sysModules)=false->kvs.length<=sizeLine->
   S (kvs.map (·.1)) (λmh' =>mh'[n]? =some (.eY t kvs ob)) B->wpAny (model X.prog X.w) X.A (pyIter (.ref a)) (PIE X pins σ tg R) X.xe s1:=λ{G B ob es ep} M P R2 k g i T hz q=>by
  refine A2 T ⟨ob,k,g,i⟩ ?_;refine⟨s1.heap.objs.size,[s1.heap.objs.size],_,_,G,rfl,M.kept (t' :=s1.toks) λb o e=>aFn _ e,JN _ a g i,⟨_,aFs _ rfl,rfl,rfl⟩,λb hb=>?_,F _ _ _ q c _ G P R2 (X2 J hz)⟩;have e:b=s1.heap.objs.size:=by simpa using hb
  subst e;exact M.D0 (aFq _) (M.bG.fresh (aFq _))
 rcases q with ⟨e,q⟩ | ⟨ob,e,q⟩
 ·obtain⟨vs,hv,V⟩:=y.obj n a _ J e
  obtain⟨u,W,Q⟩:∃u,j a=some u/\rR (some u) (kvs.map (·.1)) vs t:=by
   cases t with
   | false=>obtain⟨kk,z,r⟩:=hv;exact⟨_,z,kk,rfl,r⟩
   | true=>obtain⟨kk,z,r⟩:=hv;exact⟨_,z,kk,rfl,r⟩
  obtain⟨m,p⟩:=pZ Q;obtain⟨ob,es,ep,k,g,i,T,M⟩:=freeze E W m
  have hz:kvs.length<=sizeLine:=by
   have ok:=E.bG a u W
   cases u with
   | dK kk=>
    obtain⟨z,_⟩:=ok;have:kk.length=kvs.length:=by simpa[nU] using p
    lia
   | dT kk=>
    obtain⟨z,_⟩:=ok;have:kk.length=kvs.length:=by simpa[nU] using p
    lia
   | _=>exact m.elim
  have P:aI c j c (upd j a (.rY ob u)):=aI.set y J;exact L M (O.trans P) (B5 (o:= .eY t kvs ob) y J ⟨vs,u,aP,Q,IsL.mono y P _ vs V⟩) k g i T hz (q ob)
 ·obtain⟨vs,u,hv,Q,V⟩:=y.obj n a _ J e;obtain⟨m,p⟩:=pZ Q
  obtain⟨U,ok⟩:=(show s1.heap.get? a=some ob/\cA X.prog X.w j s1.heap a u from E.bG a _ hv)
  obtain⟨es,ep,g,i,N,hz⟩:∃es ep,ob.ExactDict/\ob.data= .dict es ep/\(a==sysModules)=false/\nU u<=sizeLine:=by
   cases u with
   | dK kk=>obtain⟨z,N,vs,r,o,C,D,k,g,i,_⟩:=ok;rw[U]at k;cases k;exact⟨C,D,g,i,N,z⟩
   | dT kk=>obtain⟨z,N,xs,r,o,C,D,k,g,i,_⟩:=ok;rw[U]at k;cases k;exact⟨C,D,g,i,N,z⟩
   | _=>exact m.elim
  exact L E O y U g i N (by rw[p]at hz;simpa using hz) q
end
def kOk:Bool->D->Prop
 | false,y=>∃key,y=aS key
 | true,y=>∃ks:List Key,y= .tup (ks.map aS)
def gY(mh:MH)(n:Nat)(t:Bool)(kvs:List (D×D)):Prop:=mh[n]? =some (.bI t kvs)\/∃ob,mh[n]? =some (.eY t kvs ob)
theorem jW{K:aJn}{μ:List Addr}{H:Hp}(key:List Key):∀{kvs:List (D×D)} {kk:List (List Key×V)},kvs.map (·.1)=kk.map (λp=>.tup (p.1.map aS))->IsL K μ H (kvs.map (·.2)) (kk.map (·.2))->
  (fZ kk key=none/\aT kvs (.tup (key.map aS))=none)\/∃d v,fZ kk key=some v/\aT kvs (.tup (key.map aS))=some d/\Is K μ H d v
 | [],[],_,_=>.inl ⟨rfl,rfl⟩
 | [],_::_,h,_=>by simp at h
 | _::_,[],h,_=>by simp at h
 | p::kvs,q::kk,h,l=>by
  simp only[List.map_cons,List.cons.injEq]at h;simp only[List.map_cons]at l;unfold IsL at l;obtain⟨w,r,e,i,l⟩:=l;simp only[List.cons.injEq]at e;obtain⟨rfl,rfl⟩:=e;by_cases hk:q.1=key
  ·right;have c:p.1= .tup (key.map aS):=by rw[h.1,hk]
   exact⟨p.2,q.2,mE hk,by simp[aT,c],i⟩
  ·have c:¬p.1= .tup (key.map aS):=λz=>hk (by
    have:=h.1.symm.trans z;simp only[D.tup.injEq]at this
    exact(aJg (f:=aS) λa b e=>iB e).mp this)
   rw[mF hk];simp only[aT,if_neg c];exact jW key h.2 l
section
variable {X:Cx}{pins:List (Addr×Obj)}{σ:L2.St}{H:Hp}{s:Shared}{a:Addr}
theorem i5{μ:List Addr}{mh:MH}{n:Nat}{t:Bool}{kvs:List (D×D)}{v:V}(R:Rep X.K μ mh H)(h:Is X.K μ H (.ref n) v)(e:gY mh n t kvs):∃a vs u,v= .ref a/\Rd H a u/\rR (some u) (kvs.map (·.1)) vs t/\IsL X.K μ H (kvs.map (·.2)) vs:=by
 obtain⟨a,q,rfl⟩:=jG h;rcases e with e | ⟨ob,e⟩
 ·obtain⟨vs,hv,l⟩:=R.obj n a _ q e
  cases t with
  | false=>obtain⟨kk,z,r⟩:=hv;exact⟨a,vs,_,rfl,.inl z,⟨kk,rfl,r⟩,l⟩
  | true=>obtain⟨kk,z,r⟩:=hv;exact⟨a,vs,_,rfl,.inl z,⟨kk,rfl,r⟩,l⟩
 ·obtain⟨vs,u,hv,b,l⟩:=R.obj n a _ q e;exact⟨a,vs,u,rfl,.inr ⟨ob,hv⟩,b,l⟩
theorem y8{b:Addr}{ks:List Key}(I:Inv X pins σ H s)(e:sX X.K H b (ks.map kV)):(tupleKind (aR X.prog X.w)).is s.heap ks b:=by
 obtain⟨aN,r,⟨o,a,c,n,d⟩,_⟩:=I.tuple e;exact⟨o,aN.toArray,n,a,c,d,by simpa using qL r⟩
def HF:O2:=λy x mh Q=>∃n t kvs,x= .ref n/\gY mh n t kvs/\kOk t y/\Q (.bl (aT kvs y).isSome) mh
def sP:O2:=λy x mh Q=>∃n t kvs,x= .ref n/\gY mh n t kvs/\kOk t y/\Q (.bl !(aT kvs y).isSome) mh
theorem WB(G:X.A.units+64<cLine):dP X (compareOp .In) (bE X.K HF):=by
 intro pins s σ H y x u v Q I i r q;obtain⟨μ,mh,J,dx,R,f,j,B,⟨n,t,kvs,rfl,e,hk,q⟩,F⟩:=q;obtain⟨a,vs,L,rfl,k,m,l⟩:=i5 f B e;cases r
 cases t with
 | false=>
  obtain⟨kk,z,g,rfl⟩:=m;cases z;obtain⟨key,rfl⟩:=hk;cases gV j;refine aFd (by lia) I (.inl ⟨kk,key,k,rfl,rfl⟩) i λM o =>?_
  rcases iW key g l with ⟨c,d⟩ | ⟨d',w,c,d,C⟩
  ·rw[c];rw[d]at q;exact⟨.bl false,H,o,rfl,F.here f q .bl⟩
  ·rw[c];rw[d]at q;exact⟨.bl true,H,o,rfl,F.here f q .bl⟩
 | true=>
  obtain⟨kk,z,g,rfl⟩:=m;cases z;obtain⟨ks,rfl⟩:=hk;obtain⟨b,N,rfl,sq,D⟩:=dB j;cases fD D;cases i;obtain⟨z,hd,xs,h,E⟩:=pW I.bG k;refine wpAny_in_heap (aH4 (by lia)) (y8 I sq) hd E ?_;have p:=(h.val ks).eA;rw[Option.isSome_map]at p;rw[<-p]
  rcases jW ks g l with ⟨c,d⟩ | ⟨d',w,c,d,C⟩
  ·rw[c];rw[d]at q;exact⟨.bl false,H,I.tok _,rfl,F.here f q .bl⟩
  ·rw[c];rw[d]at q;exact⟨.bl true,H,I.tok _,rfl,F.here f q .bl⟩
theorem HC(G:X.A.units+64<cLine):dP X (compareOp .NotIn) (bE X.K sP):=by
 intro pins s σ H y x u v Q I i r q;obtain⟨μ,mh,J,dx,R,f,j,B,⟨n,t,kvs,rfl,e,hk,q⟩,F⟩:=q;obtain⟨a,vs,L,rfl,k,m,l⟩:=i5 f B e;cases r
 cases t with
 | false=>
  obtain⟨kk,z,g,rfl⟩:=m;cases z;obtain⟨key,rfl⟩:=hk;cases gV j;refine SQ (by lia) I (.inl ⟨kk,key,k,rfl,rfl⟩) i λM o =>?_
  rcases iW key g l with ⟨c,d⟩ | ⟨d',w,c,d,C⟩
  ·rw[c];rw[d]at q;exact⟨.bl true,H,o,rfl,F.here f q .bl⟩
  ·rw[c];rw[d]at q;exact⟨.bl false,H,o,rfl,F.here f q .bl⟩
 | true=>
  obtain⟨kk,z,g,rfl⟩:=m;cases z;obtain⟨ks,rfl⟩:=hk;obtain⟨b,N,rfl,sq,D⟩:=dB j;cases fD D;cases i;obtain⟨z,hd,xs,h,E⟩:=pW I.bG k;refine wpAny_notIn_heap (aH4 (by lia)) (y8 I sq) hd E ?_;have p:=(h.val ks).eA;rw[Option.isSome_map]at p;rw[<-p]
  rcases jW ks g l with ⟨c,d⟩ | ⟨d',w,c,d,C⟩
  ·rw[c];rw[d]at q;exact⟨.bl true,H,I.tok _,rfl,F.here f q .bl⟩
  ·rw[c];rw[d]at q;exact⟨.bl false,H,I.tok _,rfl,F.here f q .bl⟩
end
open PySem.Calls
theorem aD4{l:PySem.W.OpenLaw}{q:Program}{loose:List Str}{K:Params->aJn}{as:List Addr}{d:DefRec}{a:List (Str×Expr)}{N:Nat}(ok:l.wellSaid=true)(e:∀P,as=(K P).map (·.1))
  (left:PySem.W.LeftO l.prog q loose (λ_=>true) (λs=>as.map s.heap.get?) (λw=>(K w.params).map λp=>some p.2) N)
  (b:PySem.W.defOf q l.name=some (d,a)) (h:l.prog.theDef l.name=some (d.params,d.body,d.scope)) (hk:PySem.W.kwWritten? d.params.kwonlyargs d.params.kw_defaults=some a)
  (g:(PySem.W.chainsOk q && PySem.W.opensWell l.prog && (PySem.W.frees l.row.toRowW && l.row.within.isEmpty))=true) (i:l.prog.bare) (j:l.row.toRowW.promised)
  (call:PySem.W.WalkO q loose (λ_ _=>True) (PySem.W.InK K) l.row.toRowW d a λf vs=>PySem.call f vs):l.Holds:=
 PySem.W.holds_law ok λc=>PySem.W.holds_open (r:=l.row) (XP:=λ_ _=>True) left (PySem.W.InK.of e) PySem.W.InK.keeps (λ_ _=>trivial) (λ_ _ _ _ _=>trivial) b h hk
  (λs _=>PySem.W.recFacts_of (R:=[]) rfl) (Bool.or_true _) c g i j call
section
variable {P:Program}{W:World}{K:aJn}{mg:aJq}{base:Heap}{N:List Str}{q:Str}{S:Stmt}{f:Addr}{cd:Value}{A:Around}{o:List Env}{s:Shared}{H:Hp}{E:XK}
 {tg iter elt:Expr} {ifs:List Expr} {scope:Scope} {pos p1 p2:Pos} {wi:WI} {g:TG} {gd:WG} {t:WT} {w:WE} (own:List Str) (aD:List Nat)
end
variable {X:Cx}{pos:Pos}
def u9:OA:=λxs mh Q=>∃ds,xs=[.tup ds]/\ds.length<64/\EL ds/\
 ∀a,a.Perm ds->a.Pairwise (λd e=>lx (enc e) (enc d)=false)->Q (.ref mh.length) (mh++[.lst a])
section
variable {X:Cx}
theorem D9(hu:X.A.units+64<cLine):cB X (.builtin "sorted") (dJ X.K u9):=by
 intro pins s σ H xs us Q I r q;obtain⟨μ,mh,ds,R,N,O,⟨es,rfl,P,U,q⟩,F⟩:=q;obtain⟨v,rfl,S⟩:=gO O;obtain⟨a,vs,rfl,sq,l⟩:=dB S;obtain⟨u,rfl,T⟩:=vals1 r;cases T;obtain⟨aN,i,V,hz⟩:=I.tuple sq;have sz:=aGb;have j:=hU I es (qU U) l i;have G:aN.length=es.length:=bK j;have W:X.A.in1.in1.units+40<cLine:=by show X.A.units+1+1+40<_;lia
 obtain⟨o,ho,Y,n,hd⟩:=V
 refine TS.AX (A:=X.A) (yW s.heap) (Ok:=λvs Z =>vs=aN/\∃c,Z ={s with heap:=c}/\∀b o,s.heap.get? b=some o->c.get? b=some o)
  (λE R hR=>wpAny_collect_seq a (.inr rfl) ho Y hd (λh' k=>hR _ _ ⟨by simp,h',rfl,k⟩) (by simp;lia)) ?_ ?_ ?_
 ·rintro J _ ⟨e,_⟩;rw[e];lia
 ·rintro J _ ⟨e,c,rfl,hk⟩;rw[e];by_cases g:2<=aN.length
  ·obtain⟨κ,p⟩:=pH (prog:=X.prog) (w:=X.w) (A:=X.A.in1.in1) W U j g;exact⟨κ,λ_ h' k=>p h' λb o e=>k b o (hk b o e)⟩
  ·exact⟨general',λz=>absurd z g⟩
 ·rintro J _ ⟨e,c,rfl,hk⟩ out x y g ep kept B;rw[e]at x;obtain⟨ts,t1,t2,t3,t4⟩:=OY l i j;rw[<-t3]at x;obtain⟨f,C,L⟩:=pL (·.u) x ts rfl;have h:∀t∈f,Is X.K μ H t.d t.v/\RelV t.v t.u/\Vl s.heap t.d t.u:=λt ht=>t4 t (C.mem_iff.mp ht);have pd:(f.map (·.d)).Perm es:=by rw[<-t1];exact C.map _
  have pw:(f.map (·.d)).Pairwise (λd e=>lx (enc e) (enc d)=false):=by
   rw[<-L]at y;rw[List.pairwise_map]at y⊢;refine y.imp_of_mem λ{t t'} m m' c=>?_;have e1:dv s.heap t.u=t.d:=lL (h t m).2.2;have e2:dv s.heap t'.u=t'.d:=lL (h t' m').2.2;unfold ltV at c;rw[e1,e2]at c;exact c
  have ln:(f.map (·.v)).length<=sizeLine:=by
   have:=C.length_eq;have D :=aGx List.length t2;have:=i.length;simp at D ⊢
   lia
  have M:Inv X pins σ H {s with heap:=c}:=Inv.drawn I rfl rfl hk
  have I1:Inv X pins σ (upd H c.objs.size (.lst (f.map (·.v)))) {s with heap:=g}:=
   M.laid (h' :=g) (t' :=s.toks) kept (aFq _) ⟨ln,out,ep,by rw[<-L];exact pD λt ht=>(h t ht).2.1,B⟩
  exact⟨.ref c.objs.size,_,I1,rfl,gW N F (sT λt ht=>(h t ht).1) (q _ pd pw) _ (M.bG.fresh (aFq _))⟩
end
end D3
namespace HT
open PySem PyProof.Rows
open PySem.SeqAt
end HT
namespace D3
open PySem PySem.Spec PyProof.Rows L2
section
variable {P:Program}{W:World}{K:aJn}{mg:aJq}{base:Heap}{N:List Str}{q:Str}{S:Stmt}{f:Addr}{cd:Value}{A:Around}{o:List Env}{s:Shared}{H:Hp}{E:XK}
 {tg iter elt:Expr} {ifs:List Expr} {scope scope0:Scope} {pos:Pos} {wi:WI} {g:TG} {gd:WG} {t:WT} {w:WE} {own0:List Str} {caps0:List Nat} {cl0:List (Str×Addr)} {C0:Addr} {fp0:List Addr} {s0:Shared} {H0:Hp} (own:List Str) (aD:List Nat)
abbrev cC(P:Program)(W:World)(K:aJn)(mg:aJq)(base:Heap)(N:List Str)(q:Str)(S:Stmt)(f:Addr)(cd:Value)(A:Around)(o:List Env)(s:Shared)(H:Hp)(E:XK)(own0:List Str)(caps0:List Nat)(scope0:Scope)(cl0:List (Str×Addr))(C0:Addr)(fp0:List Addr)(s0:Shared)(H0:Hp):Cx:=
 aG (cF P W K mg base N q S f cd A o s H E) own0 caps0 scope0 cl0 C0 fp0 s0 H0
def reS(sc scope:Scope):Scope:={scope with names:=scope.names.map λy=>if (y.2==NameKind.free && sc.kind== .function && sc.names.lookup y.1==some .cell) then (y.1,NameKind.cell) else y}
theorem XE(chk:bW (cN N own0 caps0) (reS (aE S) scope0) scope aD=true)(nd:(cN (cN N own0 caps0) own aD).Nodup)(a:gA K g gd)(ho:j7 own.length g)
  (hi:LI (cC P W K mg base N q S f cd A o s H E own0 caps0 scope0 cl0 C0 fp0 s0 H0) tg iter wi)
  (hg:(cN (cN N own0 caps0) own aD).Nodup->∀cl C fp s₀ H₀,PG (aG (cC P W K mg base N q S f cd A o s H E own0 caps0 scope0 cl0 C0 fp0 s0 H0) own aD scope cl C fp s₀ H₀) tg g)
  (ht:∀cl C fp s₀ H₀,AG (aG (cC P W K mg base N q S f cd A o s H E own0 caps0 scope0 cl0 C0 fp0 s0 H0) own aD scope cl C fp s₀ H₀) ifs t)
  (he:∀cl C fp s₀ H₀,LE (aG (cC P W K mg base N q S f cd A o s H E own0 caps0 scope0 cl0 C0 fp0 s0 H0) own aD scope cl C fp s₀ H₀) elt w)
  (b:∀x,foldedSetIterable iter (cC P W K mg base N q S f cd A o s H E own0 caps0 scope0 cl0 C0 fp0 s0 H0).env x=pure x:=by intro _;rfl):
  LE (cC P W K mg base N q S f cd A o s H E own0 caps0 scope0 cl0 C0 fp0 s0 H0) (.ListComp elt [⟨tg,iter,ifs,0⟩] scope pos) (sH own aD wi gd t w):=
 UD (N:=cN N own0 caps0) (sc:=reS (aE S) scope0) own aD rfl rfl chk rfl hi ho a (hg nd) ht he b
end
def i4:Nat->List D->List D
 | _,[]=>[]
 | k,d::ds=>.tup [.int (k:Nat),d]::i4 (k+1) ds
theorem fE:∀(k:Nat) (ds:List D),(i4 k ds).length=ds.length
 | _,[]=>rfl
 | k,d::ds=>by simp[i4,fE (k+1) ds]
theorem j3:∀{k:Nat} {ds:List D} {i:Nat} {x:D},(i4 k ds)[i]? =some x->∃d,ds[i]? =some d/\x= .tup [.int ((k+i:Nat):Int),d]
 | k,[],i,x,h=>by simp[i4]at h
 | k,d::ds,0,x,h=>by simp[i4]at h;exact⟨d,rfl,by rw[<-h];rfl⟩
 | k,d::ds,i+1,x,h=>by
  obtain⟨e,he,rfl⟩:=j3 (k:=k+1) (ds:=ds) (i:=i) (by simpa[i4] using h);exact⟨e,by simpa using he,by rw[show k+1+i=k+(i+1) by lia]⟩
def ZC(b:WA):WI:=λc mh Q=>b c mh λxs a=>∃x ds,xs=[x]/\aX a x=some ds/\ds.length<=sizeLine/\Q (i4 0 ds) (λmh' =>aX mh' x=some ds) a
@[simp] theorem s_en (a:WE)(g:c9)(mh:MH)(P:List D->(MH->Prop)->MH->Prop):ZC (aB a aJ) g mh P=(a g mh λx b=>got (aX b x) λds=>ds.length<=sizeLine/\P (i4 0 ds) (λmh' =>aX mh' x=some ds) b):=by
 unfold ZC;simp only[U5,aA2];congr 1;funext x b;apply propext;rw[<-eR];constructor
 ·rintro⟨y,ds,e,c,d,f⟩;cases e;exact⟨ds,c,d,f⟩
 ·rintro⟨ds,c,d,f⟩;exact⟨x,ds,rfl,c,d,f⟩
section
variable {X:Cx}{e:Expr}{elts:List Expr}{wa:WA}{p pos jX:Pos}
theorem aBb{x1}(hg:Gl X "enumerate")(y:X.mg "enumerate"=none)(A:LA X [e] wa)
  (B:starEach [e] X.env=(false,eval e X.env)::starEach [] X.env:=by rfl):
  LI X (.Tuple elts x1 jX) (.Call (.Name "enumerate" p) [e] [] pos) (ZC wa):=
 PI.imp (aAh hg y A (by decide+kernel) B) λσ H R h=>by
  obtain⟨μ,C,mh,f,D,En,h,F⟩:=h;refine⟨μ,C,mh,_,D,En,h,λxs l q g vs n E o G=>?_⟩;obtain⟨x,ds,rfl,I,hz,q⟩:=q;obtain⟨v,rfl,r⟩:=gO G;obtain⟨a,xs,rfl,J,P⟩:=jB o r I;refine⟨a,DU x,rfl,⟨xs,J⟩,F _ _ l q g _ n E o ?_⟩
  have c:∀μ' mh' H',dX g n μ' H' ->Rep X.K μ' mh' H' ->aX mh' x=some ds->∃xs,rQ X.K H' (DU x) a xs/\IsL X.K μ' H' ds xs:=λμ' mh' H' j f st=>by
   obtain⟨Q,b,L,s1,l1⟩:=jB f (Is.iA j _ _ r) st;cases L;exact⟨b,s1,l1⟩
  refine⟨by rw[fE];exact hz,λμ' mh' H' j f st i d M=>?_,λμ' mh' H' j f st=>?_⟩
  ·obtain⟨b,s1,l1⟩:=c μ' mh' H' j f st;obtain⟨d',N,rfl⟩:=j3 M;obtain⟨k,s,i1⟩:=eQ l1 N;refine⟨⟨b,k,s1,s⟩,λz H'' O=>?_⟩;obtain⟨t,S,u,rfl,rfl,m⟩:=O;have:=m b s1;rw[s]at this;cases this;have w:aI μ' H' μ' (upd H' t (.tup [.int i,k])):=aI.new f u;refine⟨w,f.new u,?_⟩;unfold Is;refine⟨t,[.int i,k],rfl,.of aP,?_⟩;unfold IsL;exact⟨.int i,[k],rfl,by rw[Nat.zero_add];unfold Is;rfl,fI (Is.mono f w _ _ i1)⟩
  ·obtain⟨b,s1,l1⟩:=c μ' mh' H' j f st;rw[fE];exact⟨b,s1,by rw[aW l1];exact aFq _⟩
end
mutual
def okh:D->Bool
 | .int _=>true
 | .str _=>true
 | .bl _=>true
 | .tup ds=>aB0 ds
 | _=>false
def aB0:List D->Bool
 | []=>true
 | d::ds=>okh d && aB0 ds
end
mutual
def good:D->Bool
 | .int _=>true
 | .str _=>true
 | .tup ds=>lI ds
 | _=>false
def lI:List D->Bool
 | []=>true
 | d::ds=>good d && lI ds
end
section
variable {prog:Program}{w:World}
mutual
theorem GB:∀(d e:D),good d=true->good e=true->(iZ d e=true↔d=e)
 | .int i,e,_,h2=>by cases e <;> simp[good]at h2 <;> simp[iZ]
 | .str x,e,_,h2=>by cases e <;> simp[good]at h2 <;> simp[iZ]
 | .tup ds,e,h1,h2=>by
  cases e with
  | tup es=>simp only[iZ,D.tup.injEq];exact uH ds es (by simpa only[good] using h1) (by simpa only[good] using h2)
  | int i=>simp[iZ]
  | str x=>simp[iZ]
  | _=>simp[good]at h2
 | .bU,e,h1,_=>by simp[good]at h1
 | .bl _,e,h1,_=>by simp[good]at h1
 | .ty _,e,h1,_=>by simp[good]at h1
 | .fl _,e,h1,_=>by simp[good]at h1
 | .ref _,e,h1,_=>by simp[good]at h1
theorem uH:∀(ds es:List D),lI ds=true->lI es=true->(gX ds es=true↔ds=es)
 | [],es,_,_=>by cases es <;> simp[gX]
 | d::ds,[],_,_=>by simp[gX]
 | d::ds,e::es,h1,h2=>by
  simp only[lI,Bool.and_eq_true]at h1 h2;simp only[gX,Bool.and_eq_true,List.cons.injEq];rw[GB d e h1.1 h2.1,uH ds es h1.2 h2.2]
end
noncomputable instance:DecidableEq DN:=λ_ _=>Classical.propDecidable _
end
section
variable {prog:Program}{w:World}{K:Type}[DecidableEq K]{knd:HeapKind prog w K}{A:Around}{E:aJo}{s:Shared}
theorem AZ{d a:Addr}{xs:List (K×Addr×Value)}{k:K}{dflt:Value}{Q:aJo}(h:knd.room A)(b:knd.is s.heap k a)(m:s.heap.DictOfH knd d xs)
  (n:∀(j:Nat) (p:Addr×Value),xs[j]? =some (k,p)->Q p.2 {s with toks:=s.toks+knd.draws k})
  (q:(∀(j:Nat) (p:Addr×Value),xs[j]? ≠some (k,p))->∀h',h'.DictOfH knd d (xs++[(k,a,dflt)])->Heap.SameBut d s.heap h' ->Q dflt {s with heap:=h',toks:=s.toks+knd.draws k})
  (hz:xs.length<=sizeLine):wpAny (model prog w) A (dictSetDefault d (.ref a) dflt) Q E s:=by
 obtain⟨o,es,ep,ho,r,hd,he,c,i⟩:=m;unfold dictSetDefault
 try with_reducible refine aGf ?_
 refine aFm (knd.pyHash h b (aFm (wpAny_dictFind_heap (s:={s with toks:=s.toks+knd.draws k}) h b ho hd he c i ?_ ?_)))
 ·intro f
  refine aFm (aGt (aFm (wpAny_updateDictKeys (hz:=by have e:=size_of_entries he;lia) (s:={s with toks:=s.toks+knd.draws k}) ho hd (aFo (q f _ ⟨_,_,ep+1,aGv _ ho (Obj.isFreed_of_dict (Obj.data_mapDictKeys hd _)),
   r.mapDictKeys _,Obj.data_mapDictKeys hd _,?_,?_,?_⟩ (aGg ..))))))
  ·simp[he,entryOfKey]
  ·intro x hx;rcases aG5.mp hx with hx | hx
   ·exact knd.keeps (c x hx) ho hd (aGg ..)
   ·simp only[List.mem_singleton]at hx;subst hx;exact knd.keeps b ho hd (aGg ..)
  ·rw[List.map_append,List.nodup_append];refine⟨i,by simp,λx hx y l=>?_⟩;simp only[List.map_cons,List.map_nil,List.mem_singleton]at l;subst l;rintro rfl;obtain⟨p,t,e⟩:=aFv.mp hx;obtain⟨j,g⟩:=aGw.mp t;exact f j p.2 (by rw[g,<-e])
 ·intro j p g;refine aFm (aIr (s:={s with toks:=s.toks+knd.draws k}) ho hd ?_);rw[entry_at he j,g];exact aFm (aGt (aFo (n j p g)))
theorem pP(knd:HeapKind prog w K)(d a:Addr)(hd:(d==sysModules)=false)(dflt:Value):
  MeetsIn prog w (Builtin.«dict.setdefault» ⟨[.ref d,.ref a,dflt],[]⟩) (λA R s=>knd.room A.in1/\∃k xs,knd.is s.heap k a/\s.heap.DictOfH knd d xs/\xs.length<=sizeLine/\
   (∀(j:Nat) (p:Addr×Value),xs[j]? =some (k,p)->R (.ok (.ret p.2)) {s with toks:=s.toks+knd.draws k})/\
   ((∀(j:Nat) (p:Addr×Value),xs[j]? ≠some (k,p))->∀h',h'.DictOfH knd d (xs++[(k,a,dflt)])->Heap.SameBut d s.heap h' ->R (.ok (.ret dflt)) {s with heap:=h',toks:=s.toks+knd.draws k})):=
 .of_wp λA R s f=>by
  obtain⟨g,k,xs,hk,e,hz,h,i⟩:=f;unfold Builtin.«dict.setdefault»;refine aFm ?_;unfold Builtin.Dict.keyAndDefault;refine aFm (wpAny_notOrdered_dict e.typeIs ?_);show wpAny _ _ (pure (d,Value.ref a,some dflt)) _ _ s;refine aFo ?_;show wpAny _ _ (if (d==sysModules)=true then _ else (dictSetDefault d (.ref a) dflt >>=_)) _ _ s;rw[if_neg (by rw[hd];exact Bool.false_ne_true)];exact aFm (AZ g hk e (λj p l=>aFo ⟨_,rfl,h j p l⟩) (λm h' b c =>aFo ⟨_,rfl,i m h' b c⟩) hz)
end
def oG:WS:=λ_ _ _=>False
theorem LP{X:Cx}{st:Stmt}:LS X st oG:=λ_ _ _ _ _ _ z=>by obtain⟨_,_,_,_,_,_,h,_⟩:=z;exact h.elim
theorem RE{X:Cx}{b:Expr}{c:List Comprehension}{scope:Scope}{cZ pos a :Pos}{w:WE}(i:Nat){x:Str}(hN:X.N.Nodup)(he:LE X (.ListComp b c scope cZ) w)(hi:X.N[i]? =some x:=by rfl)(d:Loc X.env.scope x:=by first | exact Or.inl rfl | exact Or.inr rfl)(e:swapsWith (.ListComp b c scope cZ) (some (.Name x a)) pos.line X.env=pure false:=by rfl)(f:X.fn x=true\/X.env.scope.names.lookup x=some .local:=by first | exact .inl rfl | exact .inr rfl | assumption):
  LS X (.Assign [.Name x a] (.ListComp b c scope cZ) pos) (bJ w (gN i)):=LN i hN he hi d e f
end D3
namespace L2
open PySem PySem.Spec PyProof.Rows
end L2
namespace D3
open PySem PySem.Spec PyProof.Rows L2
end D3
namespace ST
open PySem PySem.SetTable
open PySem.Builtin PySem.Builtin.Frozenset
end ST
namespace L2
open PySem PySem.Spec PyProof.Rows
variable{scope:Scope}
theorem aCb{P:Program}{w:World}{k v:Expr}{gs:List Comprehension}{pos:Pos}:TK P w (.DictComp k v gs scope pos) gs newDict (λ_ (kvs:List (Key×V))=>.dK kvs) []:=
 ⟨rfl,λa h=>aG6 (h _ (λc o e=>aFn _ e) (aHq _ _) λH=>B3 _ a),by intros;rfl,by intros;rfl⟩
theorem compTurn_dict(k v a iter:Expr)(b:List Expr)(scope:Scope)(pos:Pos)(it:Value)(acc:Addr)(env:Env):
  compTurn (.DictComp k v [⟨a,iter,b,0⟩] scope pos) 0 it (.ref acc) env=(do
   standAt iter.pos
   match<-pyNext it with
   | none=>pure (.done .next)
   | some x=>
    letOwnedTupleGo a it x
    assign a env x
    let mut ok:=true
    for c in b do
     if ok then ok<-isTrue c env (eval c env)
    if ok then
     (do
       let kv<-eval k env
       let vv<-holding [kv] (eval v env)
       standAt {k.pos with endLine:=v.pos.endLine,endCol:=v.pos.endCol}
       holding [kv,vv] (dictSet acc kv vv))
    again (.compLoop (.DictComp k v [⟨a,iter,b,0⟩] scope pos) 0 it (.ref acc) env)):=by rfl
theorem vX{prog:Program}{w:World}{A:Around}{R:Result->Shared->Prop}{s:Shared}{k v a iter:Expr}{o:List Expr}{pos:Pos}{it:Value}{acc:Addr}{env:Env}(I:Nat->Shared->Prop)
  (p:∀n s,I n s->wpAny (model prog w) A (pyNext it) (λr b=>match r with
   | none=>R (.ok .next) b
   | some x=>wpAny (model prog w) A (letOwnedTupleGo a it x) (λ_ b=>wpAny (model prog w) A (assign a env x) (λ_ f=>
     wpAny (model prog w) A (forIn o true λc r=>if r=true then do let ok<-isTrue c env (eval c env);pure (ForInStep.yield ok) else pure (ForInStep.yield r)) (λok e=>
      if ok=true then wpAny (model prog w) A (eval k env) (λz g=>wpAny (model prog w) A (eval v env) (λB i=>
       wpAny (model prog w) A (dictSet acc z B) (λ_ j=>∃m,m<n/\I m j) (λ_ _=>False) i) (λ_ _=>False) g) (λ_ _=>False) e
      else ∃m,m<n/\I m e) (λ_ _=>False) f) (λ_ _=>False) b) (λ_ _=>False) b) (λ_ _=>False) s)
  (n:Nat) (h:I n s):codeAny (model prog w) A (.compLoop (.DictComp k v [⟨a,iter,o,0⟩] scope pos) 0 it (.ref acc) env) R s:=by
 refine codeAny_loop rfl I (λn s C=>?_) n h;show wpAny _ A ((compTurn (.DictComp k v [⟨a,iter,o,0⟩] scope pos) 0 it (.ref acc) env).onRaise (λx=>do noteFrame x env;theTreesLotGoes x)) _ _ s;refine wpAny_noted ?_;rw[compTurn_dict];refine aFm (aH1 (aFm (aGa (p n s C) (λr b d=>?_) λ_ _ h' =>h'.elim)))
 cases r with
 | none=>exact aFo d
 | some x=>
  refine aFm (aGa d (λ_ b d=>?_) λ_ _ h' =>h'.elim);refine aFm (aGa d (λ_ f q=>aFm (aGa q (λok e l=>?_) λ_ _ h' =>h'.elim)) λ_ _ h' =>h'.elim)
  cases ok with
  | false=>exact aFo ⟨rfl,l⟩
  | true=>
   exact aFm (aFm (aGa l (λz g t=>aFm (aGf (aGa t (λB i u=>aFm (aH1 (aGf (aGa u (λ_ j y=>aFo ⟨rfl,y⟩) λ_ _ h' =>h'.elim)))) λ_ _ h' =>h'.elim))) λ_ _ h' =>h'.elim))
def tbD(tk tv:TE)(acc:Addr):S9 (List (Key×V)):=λkvs σ H N=>kvs.length<sizeLine/\tk σ H λy b=>tv σ b λv a=>∃k,y=kV k/\a acc=some (.dK kvs)/\N (putK kvs k v) (upd a acc (.dK (putK kvs k v)))
def tDC(own:List Str)(aD:List Nat)(wi:TI)(g:TG)(tt:TT)(tk tv:TE):TE:=JT (λ_ kvs=>.dK kvs) [] own aD wi g tt (tbD tk tv)
section
variable {X:Cx}{tg iter ek ev:Expr}{ifs:List Expr}{scope sc:Scope}{N:List Str}{pos:Pos}{wi:TI}{g:TG}{tt:TT}{tk tv:TE}(own:List Str)(aD:List Nat)
  (hN:X.N=N) (hsc:X.env.scope=sc) (chk:bW N sc scope aD=true) (cS:X.calm=true) (hi:PI X tg iter wi) (ho:j7 own.length g)
  (hg:∀cl C fp s₀ H₀,PG (aG X own aD scope cl C fp s₀ H₀) tg g) (ht:∀cl C fp s₀ H₀,OH (aG X own aD scope cl C fp s₀ H₀) ifs tt)
  (hk:∀cl C fp s₀ H₀,PE (aG X own aD scope cl C fp s₀ H₀) ek tk) (hv:∀cl C fp s₀ H₀,PE (aG X own aD scope cl C fp s₀ H₀) ev tv)
include hN hsc chk cS hi ho hg ht hk hv
theorem GN(P:∀x,foldedSetIterable iter X.env x=pure x){pins:List (Addr×Obj)}{s:Shared}{σ:St}{H:Hp}{Q:VK}{use:Option (Value->Sem Unit)}{L :aJo}(I:Inv X pins σ H s)(h:tDC own aD wi g tt tk tv σ H Q)
  (b:∀(acc C:Addr) (m:aJq) (o:Hp) (d:Shared) (r:Flow),Inv X pins σ o d->o C=none->C≠X.env.locals->X.s₀.heap.objs.size<=C->(∀x c,X.env.cells.lookup x=some c->c≠C)->(∀p∈X.pn++pins,p.1≠C)->d.heap.Ns C m->Q (.ref acc) o->
   compPost (model X.prog X.w) X.A X.xe use L (.ref acc) C (.ok r) d):
  wpAny (model X.prog X.w) X.A (comprehension (.DictComp ek ev [⟨tg,iter,ifs,0⟩] scope pos) scope X.env (firstIterPos [⟨tg,iter,ifs,0⟩] pos) newDict (firstAsync [⟨tg,iter,ifs,0⟩]) (firstIter [⟨tg,iter,ifs,0⟩] X.env) use) L X.xe s:=by
 refine qR aCb own own.length aD (λenv acc K s=>wpAny (model X.prog X.w) X.A (eval ek env) (λM S=>wpAny (model X.prog X.w) X.A (eval ev env) (λN T=>wpAny (model X.prog X.w) X.A (dictSet acc M N) (λ_ d=>K d) (λ_ _=>False) T) (λ_ _=>False) S) (λ_ _=>False) s)
  hN hsc chk cS hi (aFq _) ho hg ht (λacc cl C fp s₀ H₀ pins s σ H O NN K U _ q k=>?_) (λit acc env R I f n s h=>vX I f n h) P I h b
 obtain⟨hl,q⟩:=q;refine bV (hk _ _ _ _ _ _ s σ H _ U q) λM t u=>?_;obtain⟨y,v,B,V,D⟩:=u;refine bV (hv _ _ _ _ _ _ t σ v _ B D) λN W E=>?_;obtain⟨x,Y,i,Z,key,e,a,F⟩:=E;subst e;obtain⟨z,hd,vs,j,dd⟩:=B2 i.bG a;have hz:vs.length<=sizeLine:=by rw[<-j.length];exact z
 have G:(putK O key x).length<=sizeLine:=by have:=fU O key x;lia
 refine wpAny_dictSet_pairs (hsz:=hz) (oB V) dd λh' l J=>?_;have he:∃q,h'.get? acc=some q:=let ⟨q,_,_,hq,_⟩:=l;⟨q,hq⟩;exact k _ _ _ (i6 i (by rw[a];exact True.intro) J he (zI G hd (j.put key Z) l)) F
theorem aAm(a:∀x,foldedSetIterable iter X.env x=pure x:=by intro _;rfl):PE X (.DictComp ek ev [⟨tg,iter,ifs,0⟩] scope pos) (tDC own aD wi g tt tk tv):=by
 intro pins s σ H Q I h;have e:eval (.DictComp ek ev [⟨tg,iter,ifs,0⟩] scope pos) X.env=comprehension (.DictComp ek ev [⟨tg,iter,ifs,0⟩] scope pos) scope X.env (firstIterPos [⟨tg,iter,ifs,0⟩] pos) newDict (firstAsync [⟨tg,iter,ifs,0⟩]) (firstIter [⟨tg,iter,ifs,0⟩] X.env):=by rfl
 rw[e];exact GN own aD hN hsc chk cS hi ho hg ht hk hv a I h uX
end
theorem KP{X:Cx}{tg iter j k:Expr}{f:List Expr}{scope sc:Scope}{N:List Str}{pos d l:Pos}{wi:TI}{g:TG}{tt:TT}{tk tv:TE}{i:Nat}{x:Str}(own:List Str)(aD:List Nat)
  (hN:X.N=N) (hsc:X.env.scope=sc) (chk:bW N sc scope aD=true) (cS:X.calm=true) (hi:PI X tg iter wi) (ho:j7 own.length g)
  (hg:∀cl C fp s₀ H₀,PG (aG X own aD scope cl C fp s₀ H₀) tg g) (ht:∀cl C fp s₀ H₀,OH (aG X own aD scope cl C fp s₀ H₀) f tt)
  (hk:∀cl C fp s₀ H₀,PE (aG X own aD scope cl C fp s₀ H₀) j tk) (hv:∀cl C fp s₀ H₀,PE (aG X own aD scope cl C fp s₀ H₀) k tv)
  (nd:X.N.Nodup) (n:X.N[i]? =some x) (A:Loc X.env.scope x) (B:swapsWith (.DictComp j k [⟨tg,iter,f,0⟩] scope pos) (some (.Name x d)) l.line X.env=pure true)
  (E:X.fn x=true\/X.env.scope.names.lookup x=some .local) (F:∀x,foldedSetIterable iter X.env x=pure x:=by intro _;rfl):
  PS X (.Assign [.Name x d] (.DictComp j k [⟨tg,iter,f,0⟩] scope pos) l) (JV (tDC own aD wi g tt tk tv) (oD i)):=by
 intro pins s σ H D I h;rw[arm_exec_Assign];refine aFm (aH1 (aFm (aJ1 (show swapsWithSole [.Name x d] _ l.line X.env=pure true from B) ?_)));rw[if_pos rfl];refine aFm (aFm (GN (Q:=λv G=>D.nx (σ.set i (some v)) G) own aD hN hsc chk cS hi ho hg ht hk hv F I h λacc C m J V r K L w M y O P q=>?_));show wpAny _ _ (assign (.Name x d) X.env (.ref acc)) _ _ _;refine PyProof.Rows.assign_Name (qD K nd n A (v:= .ref acc) rfl (λR S p=>?_) E);obtain⟨a,T,ha⟩:=p
 have t:C≠a:=by
  rcases ha with rfl | ha
  ·exact w
  ·exact λz=>y x a ha z.symm
 refine⟨m,?_,λh' u=>aFo (aFo ⟨_,J,?_,q⟩)⟩
 ·obtain⟨o,es,ep,e,c⟩:=P;exact⟨o,es,ep,(T.2 C t).trans e,c⟩
 ·exact S.turned (t' :=R.toks) (it:=C) (λb o U e=>u.extBut b o U e) L w (.inr M) y O
end L2
namespace D3
open PySem PySem.Spec PyProof.Rows L2
def m3(g:WG)(t:WT)(e f:WE)(ρe:c9)(St:MH->Prop)(Q:DK):List D->List (D×D)->MH->Prop
 | [],ys,mh=>St mh/\Q (.ref mh.length) (mh++[.bI false ys])
 | d::ds,ys,mh=>St mh/\g d ρe λa=>t a mh λb c=>if b=true then e a c λk h=>f a h λy i=>(∃key,k=aS key)/\m3 g t e f ρe St Q ds (putD ys k y) i else m3 g t e f ρe St Q ds ys c
def OE(own:List Str)(aD:List Nat)(wi:WI)(g:WG)(t:WT)(c d:WE):WE:=λb mh Q=>wi b mh λds St a=>m3 g t c d (dD own aD b) St Q ds [] a
theorem SA{K:aJn}{μ:List Addr}{H:Hp}{k:Key}{v:V}(h:Is K μ H (aS k) v):v=kV k:=by
 cases k with
 | inl i=>exact bR h
 | inr x=>exact dC h
section
variable {X:Cx}
theorem GL{wi:WI}{g:TG}{P:WG}{t:WT}{S T:WE}{own:List Str}{aD:List Nat}(hr:gA X.K g P){σ:L2.St}{H:Hp}{Q:VK}(h:tL X.K (OE own aD wi P t S T) σ H Q):tDC own aD (JS X.K wi) g (FC X.K t) (tL X.K S) (tL X.K T) σ H Q:=by
 obtain⟨μ,U,mh,R,RR,En,h,F⟩:=h;refine⟨μ,U,mh,_,RR,En,h,λds St mh1 q l J H1 P1 V It acc j=>?_⟩;have r:acc∉l:=λz=>V.ne j z rfl
 refine⟨λi m kk H' =>∃μ' mh' f,aI l H1 μ' H' /\Rep X.K μ' mh' H' /\acc∉μ' /\H' acc=some (.dK kk)/\f.map (·.1)=kk.map (λp=>aS p.1)/\IsL X.K μ' H' (f.map (·.2)) (kk.map (·.2))/\f.length<=i/\i<=ds.length/\m=ds.length-i/\m3 P t S T (dD own aD U) St R (ds.drop i) f mh',
  ⟨ds.length,l,mh1,[],aI.out aI.refl j,V.new j,r,aP,rfl,by simp[IsL],aFq _,aGm _,by simp,by simpa using q⟩,?_⟩
 rintro i m kk H' ⟨μ',mh',f,s,B,C,e',W,l',hd',hi',rfl,c⟩;refine⟨e',?_⟩;have hlen:kk.length=f.length:=by have:=aGx List.length W;simpa using this.symm
 by_cases u:i<ds.length
 ·rw[List.drop_eq_getElem_cons u]at c;obtain⟨hst,c⟩:=c;obtain⟨hgo,hy⟩:=It.go μ' mh' H' (s.weak V) B hst i ds[i] (by simp[u]);refine .inr ⟨hgo,λv D=>∃k o d,aI l H1 k D/\Rep X.K k o D/\acc∉k/\D acc=some (.dK v)/\d.map (·.1)=v.map (λp=>aS p.1)/\IsL X.K k D (d.map (·.2)) (v.map (·.2))/\d.length<=i+1/\m3 P t S T (dD own aD U) St R (ds.drop (i+1)) d o,?_,λx H'' y=>?_⟩
  ·rintro ys2 D ⟨k,o,d,P2,R2,ha2,e2,k2,l2,hd2,c2⟩;exact⟨ds.length-(i+1),by lia,k,o,d,P2,R2,ha2,e2,k2,l2,hd2,u,rfl,c2⟩
  ·obtain⟨Y,E,Iy⟩:=hy x H'' y;obtain⟨hay,ey⟩:=Y.away C e';have ly:=IsL.mono B Y _ _ l';have P0y:=P1.trans (s.trans Y);refine hr x _ H'' _ μ' (dD own aD U) mh' _ _ E (En.mono RR P0y).emb Iy c λw q2 σ2 A=>?_;refine⟨μ',w,mh',_,E,A,q2,λb G q3 I H3 L Z=>?_⟩;obtain⟨M,e3⟩:=L.away hay ey;have l3:=IsL.mono E L _ _ ly;have N:=(s.trans Y).trans L
   cases b with
   | false=>rw[if_neg Bool.false_ne_true]at q3⊢;exact⟨I,G,f,N,Z,M,e3,W,l3,by lia,q3⟩
   | true=>
    rw[if_pos rfl]at q3⊢;refine⟨by have:=It.small;lia,I,w,G,_,Z,A.mono E L,q3,λdk mh4 q4 μ4 vk H4 P4 R4 I4=>?_⟩;obtain⟨ha4,e4⟩:=P4.away M e3;refine⟨μ4,w,mh4,_,R4,(A.mono E L).mono Z P4,q4,λy mh5 q5 μ5 vy H5 P5 R5 I5=>?_⟩;obtain⟨⟨key,rfl⟩,q5⟩:=q5;obtain⟨O,e5⟩:=P5.away ha4 e4;have hm:EN (H5 acc):=by rw[e5];trivial
    have l5:=IsL.mono Z (P4.trans P5) _ _ l3;obtain⟨n1,n2⟩:=sO iB key I5 W l5;have:=A6 f (aS key) y;exact⟨key,SA I4,e5,μ5,mh5,putD f (aS key) y,aI.out ((N.trans P4).trans P5) j,R5.out hm O,O,aP,n1,IsL.out hm _ _ n2,by lia,q5⟩
 ·have e:i=ds.length:=by lia
  subst e;rw[List.drop_of_length_le (Nat.le_refl _)]at c;refine .inl ⟨It.stop μ' mh' H' (s.weak V) B c.1,?_⟩
  have Pa:aI l H1 (μ' ++[acc]) H' :=⟨by obtain⟨t,rfl⟩:=s.pre;exact⟨t++[acc],by simp⟩,s.fr,λa ha=>by
   rcases aG5.mp ha with ha | ha
   ·exact s.nw a ha
   ·simp at ha;subst ha;exact .inr j⟩
  exact F _ _ c.2 (μ' ++[acc]) _ H' (P1.trans Pa) (B.IY C ⟨kk.map (·.2),⟨kk,e',W,rfl⟩,IsL.pre (λn a h=>by rw[List.getElem?_append_left (List.getElem?_eq_some_iff.mp h).1];exact h) _ _ l'⟩) (by unfold Is;exact⟨acc,by rw[<-B.len];simp,rfl⟩)
theorem aBe{tg iter d e:Expr}{a:List Expr}{scope sc:Scope}{N:List Str}{pos:Pos}{wi:WI}{g:TG}{f:WG}{t:WT}{b c:WE}(own:List Str)(aD:List Nat)
  (hN:X.N=N) (hsc:X.env.scope=sc) (chk:bW N sc scope aD=true) (cS:X.calm=true) (hi:LI X tg iter wi) (ho:j7 own.length g)
  (i:gA X.K g f)
  (hg:∀cl C fp s₀ H₀,PG (aG X own aD scope cl C fp s₀ H₀) tg g) (ht:∀cl C fp s₀ H₀,AG (aG X own aD scope cl C fp s₀ H₀) a t)
  (hk:∀cl C fp s₀ H₀,LE (aG X own aD scope cl C fp s₀ H₀) d b) (hv:∀cl C fp s₀ H₀,LE (aG X own aD scope cl C fp s₀ H₀) e c)
  (j:∀x,foldedSetIterable iter X.env x=pure x:=by intro _;rfl):LE X (.DictComp d e [⟨tg,iter,a,0⟩] scope pos) (OE own aD wi f t b c):=
 PE.imp (aAm (wi:=JS X.K wi) (tt:=FC X.K t) (tk:=tL X.K b) (tv:=tL X.K c) own aD hN hsc chk cS hi ho hg (λcl C fp s₀ H₀=>ht cl C fp s₀ H₀) (λcl C fp s₀ H₀=>hk cl C fp s₀ H₀) (λcl C fp s₀ H₀=>hv cl C fp s₀ H₀) j) λσ H Q h=>GL i h
theorem LR(i:Nat){x:Str}{a k:Pos}{tg iter c d:Expr}{b:List Expr}{scope sc:Scope}{N:List Str}{pos:Pos}{wi:WI}{g:TG}{l:WG}{t:WT}{e f:WE}(nd:X.N.Nodup)(own:List Str)(aD:List Nat)
  (hN:X.N=N) (hsc:X.env.scope=sc) (chk:bW N sc scope aD=true) (cS:X.calm=true) (hi:LI X tg iter wi) (ho:j7 own.length g)
  (m:gA X.K g l)
  (hg:∀cl C fp s₀ H₀,PG (aG X own aD scope cl C fp s₀ H₀) tg g) (ht:∀cl C fp s₀ H₀,AG (aG X own aD scope cl C fp s₀ H₀) b t)
  (hk:∀cl C fp s₀ H₀,LE (aG X own aD scope cl C fp s₀ H₀) c e) (hv:∀cl C fp s₀ H₀,LE (aG X own aD scope cl C fp s₀ H₀) d f)
  (j:X.N[i]? =some x:=by rfl) (n:Loc X.env.scope x:=by first | exact Or.inl rfl | exact Or.inr rfl) (o:swapsWith (.DictComp c d [⟨tg,iter,b,0⟩] scope pos) (some (.Name x a)) k.line X.env=pure true:=by rfl) (p:X.fn x=true\/X.env.scope.names.lookup x=some .local:=by first | exact .inl rfl | exact .inr rfl | assumption)
  (q:∀x,foldedSetIterable iter X.env x=pure x:=by intro _;rfl):LS X (.Assign [.Name x a] (.DictComp c d [⟨tg,iter,b,0⟩] scope pos) k) (bJ (OE own aD wi l t e f) (gN i)):=
 PS.imp (KP (wi:=JS X.K wi) (tt:=FC X.K t) (tk:=tL X.K e) (tv:=tL X.K f) own aD hN hsc chk cS hi ho hg (λcl C fp s₀ H₀=>ht cl C fp s₀ H₀) (λcl C fp s₀ H₀=>hk cl C fp s₀ H₀) (λcl C fp s₀ H₀=>hv cl C fp s₀ H₀) nd j n o p q) λD σ H h=>GL m (zZ (sV i) h)
end
open PySem.W
def oK:O2:=λx y mh Q=>∃n kvs key d,x= .ref n/\gY mh n false kvs/\y=aS key/\aT kvs y=some d/\Q d mh
theorem ixF{X:Cx}(h:X.A.units+64<cLine):OI X (bE X.K oK):=by
 intro b c pins s σ H x y v u Q I i j q k;obtain⟨μ,mh,dx,D,R,f,m,o,⟨n,kvs,key,d,rfl,e,rfl,hd,q⟩,F⟩:=q;obtain⟨a,vs,E,rfl,p,r,l⟩:=i5 f m e;obtain⟨kk,z,t,rfl⟩:=r;cases z;cases gV o
 rcases iW key t l with ⟨_,z⟩ | ⟨d',w,B,g,C⟩
 ·rw[hd]at z;cases z
 ·rw[hd]at g;cases g;exact F5 h b c pins s σ H _ _ v u Q I i j ⟨a,w,rfl,.inl ⟨kk,key,p,rfl,B.symm⟩,F.here f q C⟩ k
section
variable {P:Program}{W:World}{K:aJn}{mg:aJq}{base:Heap}{N:List Str}{q:Str}{S:Stmt}{f:Addr}{cd:Value}{A:Around}{o:List Env}{s:Shared}{H:Hp}{E:XK}
variable {tg iter ek ev:Expr}{ifs:List Expr}{scope:Scope}{pos:Pos}{wi:WI}{g:TG}{gd:WG}{t:WT}{wk wv:WE}(own:List Str)(aD:List Nat)
theorem XG(chk:bW N (aE S) scope aD=true)(nd:(cN N own aD).Nodup)(a:gA K g gd)(ho:j7 own.length g)
  (hi:LI (cF P W K mg base N q S f cd A o s H E) tg iter wi)
  (hg:(cN N own aD).Nodup->∀cl C fp s₀ H₀,PG (aG (cF P W K mg base N q S f cd A o s H E) own aD scope cl C fp s₀ H₀) tg g) (ht:∀cl C fp s₀ H₀,AG (aG (cF P W K mg base N q S f cd A o s H E) own aD scope cl C fp s₀ H₀) ifs t)
  (hk:∀cl C fp s₀ H₀,LE (aG (cF P W K mg base N q S f cd A o s H E) own aD scope cl C fp s₀ H₀) ek wk) (hv:∀cl C fp s₀ H₀,LE (aG (cF P W K mg base N q S f cd A o s H E) own aD scope cl C fp s₀ H₀) ev wv)
  (b:∀x,foldedSetIterable iter (cF P W K mg base N q S f cd A o s H E).env x=pure x:=by intro _;rfl):LE (cF P W K mg base N q S f cd A o s H E) (.DictComp ek ev [⟨tg,iter,ifs,0⟩] scope pos) (OE own aD wi gd t wk wv):=
 aBe (N:=N) (sc:=aE S) own aD rfl rfl chk rfl hi ho a (hg nd) ht hk hv b
end
section
variable {X:Cx}{pins:List (Addr×Obj)}{σ:L2.St}{H:Hp}{s:Shared}{a:Addr}{u:HO}{ob:Obj}
theorem aDl(g:∀o u,X.H₀ a≠some (.rY o u))(I:Inv X pins σ H s)(e:H a=some (.rY ob u))(l:zD u):Inv X pins σ (upd H a u) s:=by
 have d:∀b,H b=none->b≠a:=λb h z=>by rw[z,e]at h;cases h
 refine⟨I.ok,I.os,I.bare,⟨I.base.keep,I.base.slot,λb o i f j=>?_,I.base.there,λb xs h=>?_,λb o v h=>?_,λb ps h=>?_⟩,I.loc,I.cell,?_,λx c h=>?_,λp k=>?_,λb o h=>?_,I.len⟩
 ·have:=I.base.free b o i f j;rw[aK (d b this)];exact this
 ·have:=I.base.yA b xs h;rw[aK λz=>by rw[z,e]at this;cases this];exact this
 ·have:=I.base.uJ b o v h;rw[aK λz=>g o v (by rw[<-z];exact h)];exact this
 ·obtain⟨more,this⟩:=I.base.yC b ps h;exact⟨more,by rw[aK λz=>by rw[z,e]at this;cases this];exact this⟩
 ·rw[aK (d _ I.free)];exact I.free
 ·rw[aK (d _ (I.j2 x c h))];exact I.j2 x c h
 ·obtain⟨i,f,j⟩:=I.pin p k;exact⟨i,by rw[aK (d _ f)];exact f,j⟩
 ·have own:∀b c,H b=some (.own c)->(upd H a u) b=some (.own c):=λb c q=>by
   rw[aK λz=>by rw[z,e]at q;cases q];exact q
  have tup:∀b xs,H b=some (.tup xs)->(upd H a u) b=some (.tup xs):=λb xs q=>by
   rw[aK λz=>by rw[z,e]at q;cases q];exact q
  by_cases z:b=a
  ·subst z;rw[aP]at h;cases h;exact(I.bG b _ e).2.vK (λ_ _ _ q=>q) (λb q=>own b _ q) tup
  ·rw[aK z]at h;exact(I.bG b o h).vK (λ_ _ _ q=>q) (λb q=>own b _ q) tup
end
def OQ(w:WS):WS:=λE d mh=>∃n t kvs,mh[n]? =some (.bI t kvs)/\w {E with nx:=λc b=>∃a ob,b[n]? =some (.eY t a ob)/\E.nx c (b.set n (.bI t a))} d mh
theorem WV{X:Cx}{st:Stmt}{w:WS}(h:LS X st w):LS X st (OQ w):=by
 intro pins s σ H D I z;obtain⟨μ,C,mh,E,R,En,⟨n,t,kvs,e,G⟩,F⟩:=z
 obtain⟨a,J,j,K,L⟩:∃a,μ[n]? =some a/\∃j,H a=some j/\zD j:=by
  have M:=R.len;have N:=(aFp.mp e).1
  obtain⟨a,k⟩:∃a,μ[n]? =some a:=⟨_,aGi (by rw[M];exact N)⟩
  obtain⟨vs,hv,l⟩:=R.obj n a _ k e
  cases t with
  | false=>obtain⟨kk,z,r⟩:=hv;exact⟨a,k,_,z,trivial⟩
  | true=>obtain⟨kk,z,r⟩:=hv;exact⟨a,k,_,z,trivial⟩
 have m:∀o u,X.H₀ a≠some (.rY o u):=λo u q=>by
  have:=I.base.uJ a o u q;rw[K]at this;cases this;exact L
 have O:=h pins s σ H {D with nx:=λb H' =>∃u ob,H' a=some (.rY ob u)/\zD u/\D.nx b (upd H' a u)} I ⟨μ,C,mh,_,R,En,G,⟨λp mh' r μ' b H' A d x =>?_,F.rt,F.bk,F.ct⟩⟩
 ·refine bV O λf S q=>?_
  cases f with
  | next=>
   obtain⟨b,H',P,u,ob,e,y,q⟩:=q;exact⟨b,_,aDl m P e y,q⟩
  | brk=>exact q
  | cont=>exact q
  | ret v=>exact q
 ·obtain⟨B,ob,Q,q⟩:=r;have c :=A.get J;obtain⟨vs,u,hv,g,l⟩:=d.obj n a _ c Q;have i:aI μ' H' μ' (upd H' a u):=aI.set d c
  have y:zD u:=by
   cases t with
   | false=>obtain⟨kk,z,r⟩:=g;cases z;trivial
   | true=>obtain⟨kk,z,r⟩:=g;cases z;trivial
  refine⟨u,ob,hv,y,F.nx p _ q μ' b _ (A.trans i) (B5 d c ?_) (x.mono d i)⟩
  cases t with
  | false=>obtain⟨kk,z,r⟩:=g;cases z;exact⟨vs,⟨kk,aP,r⟩,IsL.mono d i _ _ l⟩
  | true=>obtain⟨kk,z,r⟩:=g;cases z;exact⟨vs,⟨kk,aP,r⟩,IsL.mono d i _ _ l⟩
@[simp] theorem s_thw {w:WS}{E:iK}{d:c9}{mh:MH}:OQ w E d mh=(∃n t kvs,mh[n]? =some (.bI t kvs)/\w {E with nx:=λc b=>∃a ob,b[n]? =some (.eY t a ob)/\E.nx c (b.set n (.bI t a))} d mh):=rfl
section
variable {X:Cx}{pins:List (Addr×Obj)}{σ:L2.St}{H:Hp}{s:Shared}
theorem JY{a:Addr}{kk:List (Key×V)}(I:Inv X pins σ H s)(c:Rd H a (.dK kk)):
  ∃(vs:List (Key×Value)) (ep:Nat),KV kk vs/\kk.length<=sizeLine/\KdlSrc X.prog X.w "dict" a a vs.length (λi v=>∃k x,vs[i]? =some (k,x)/\(aR X.prog X.w).is k v=true) (λh=>h.DictAt (aR X.prog X.w) a vs ep)/\s.heap.DictAt (aR X.prog X.w) a vs ep:=by
 obtain⟨z,hd,vs,b,o,es,ep,d,e,f,g,j,l⟩:=pX I.bG c;exact⟨vs,ep,b,z,kdl_dict hd,o,es,d,e,f,g,j,l⟩
theorem MA:∀{kk:List (Key×V)} {vs:List (Key×Value)} {us:List Value},KV kk vs->us.length=vs.length->(∀(i:Nat) (v:Value),us[i]? =some v->∃k x,vs[i]? =some (k,x)/\(aR X.prog X.w).is k v=true)->Vals (kk.map λp=>kV p.1) us
 | [],_,us,.nil,hl,_=>by
  have:us=[]:=by simpa using hl
  subst this;exact .nil
 | p::kk,_,us,.cons r t,hl,h=>by
  cases us with
  | nil=>simp at hl
  | cons u us=>
   simp only[List.map_cons];refine .cons ?_ (MA t (by simpa using hl) λi v hv=>?_)
   ·obtain⟨k,x,e,hk⟩:=h 0 u rfl;simp at e;subst e;rw[r.1];exact tS hk
   ·obtain⟨k,x,e,hk⟩:=h (i+1) v (by simpa using hv);exact⟨k,x,by simpa using e,hk⟩
def EH:OA:=λxs mh Q=>∃n kvs,xs=[.ref n]/\gY mh n false kvs/\Q (.ref mh.length) (mh++[.lst (kvs.map (·.1))])
theorem NP(j:X.calm=true):cB X (.type "list") (dJ X.K EH):=by
 intro pins s σ H xs us Q I r q;obtain⟨μ,mh,ds,R,g,k,⟨n,kvs,rfl,e,q⟩,F⟩:=q;obtain⟨v,rfl,m⟩:=gO k;obtain⟨u,rfl,t⟩:=vals1 r;obtain⟨a,vs,B,rfl,w,⟨kk,z,x,rfl⟩,l⟩:=i5 g m e;cases z;cases t;obtain⟨C,ep,d,hz,src,f⟩:=JY I w;have h:=d.length;refine kdl_call src (I.ok.hd j) f (by lia) λh' tk acc c hk y b=>?_;have A:Vals (kk.map λp=>kV p.1) acc.toList:=MA d (by simpa using b.1) λi v hv=>b.2 i v (by simpa using hv);refine⟨.ref s.heap.objs.size,_,I.laid (a:=s.heap.objs.size) (o:= .lst (kk.map λp=>kV p.1)) (t' :=tk) hk (aFq _) ⟨by simpa using hz,acc.toList,c,A,by simpa using y⟩,rfl,?_⟩;rw[x]at q;exact gW g F (nF kk) q _ (I.bG.fresh (aFq _))
variable{P:Nat->Value->Prop}
theorem zR{prog:Program}{w:World}{A:Around}{E:aJo}{s:Shared}{d:Addr}{n:Nat}{l:Heap->Prop}{R:List Value->Shared->Prop}(K:KdlSrc prog w "dict" d d n P l)(p:A.handled=none)(bG:l s.heap)(r:n<=sizeLine)
  (h:∀(h' :Heap) (tk:Nat) (acc:Array Value),s.heap.objs.size<=h'.objs.size->(∀b o,s.heap.get? b=some o->h'.get? b=some o)->ItemsOf P acc n->R acc.toList {s with heap:=h',toks:=tk}):
  wpAny (model prog w) A (collect (.ref d)) R E s:=by
 have i:=aGp (K.there _ bG).1;unfold collect;refine aFm (aJc (aHd entry_proto_collect' ?_));rw[Around.under_plainId PySem.F.plain_proto_collect _];refine aFm (aG6 (aFo ⟨aIb PySem.F.plain_list_iadd _,aHd entry_list_iadd' ?_⟩));rw[Around.under_plainId PySem.F.plain_list_iadd _]
 have key:=kdl_extend (A:=A) (s:={s with heap:=s.heap.push {cls:= .type "list",data:= .seq ([]:List Value).toArray}})
  (R:=λ(q:Result) (j :Shared)=>∃(h' :Heap) (tk:Nat) (a :Array Value) (c' :Nat),q= .ok (.ret (.ref s.heap.objs.size))/\j ={s with heap:=h',toks:=tk}/\(∀b o,s.heap.get? b=some o->h'.get? b=some o)/\h'.get? s.heap.objs.size=some {cls:= .type "list",dict:=none,data:= .seq a c',slots:= #[]}/\ItemsOf P a n)
  K p (K.keep _ _ bG λb _ o e=>aFn _ e) s.heap.objs.size i i (.ref s.heap.objs.size) 0 (aFs _ rfl)
  (λh' tk a c' hk g c=>⟨h',tk,a,c',rfl,rfl,λb o e=>hk b o (aFz (aFu e)) (aFn _ e),g,c⟩) r
 refine aGa key (λk j x=>?_) λe j x=>?_
 ·cases k with
  | done f=>
   obtain⟨h',tk,a,c',e,rfl,hk,g,c⟩:=x;cases e;exact aFm (aJ9 g (aFo (h h' tk a (aGs (aFu g)) hk c)))
  | again c₁=>
   refine⟨x.1,aHl x.2 λq m y=>?_⟩;obtain⟨h',tk,a,c',rfl,rfl,hk,g,c⟩:=y;exact aFm (aJ9 g (aFo (h h' tk a (aGs (aFu g)) hk c)))
 ·obtain⟨_,_,_,_,t,_⟩:=x;cases t
theorem qJ{prog:Program}{w:World}{d:Addr}{n:Nat}{m:Heap->Prop}(K:KdlSrc prog w "dict" d d n P m)(q:n<=sizeLine):
  MeetsIn prog w (Builtin.«tuple.__new__» ⟨[.type "tuple",.ref d],[]⟩)
   (λA R s=>A.handled=none/\m s.heap/\∀(h' :Heap) (tk:Nat) (acc:Array Value),s.heap.objs.size<=h'.objs.size->(∀b o',s.heap.get? b=some o' ->h'.get? b=some o')->ItemsOf P acc n->R (.ok (.ret (.ref h'.objs.size))) {s with heap:=h'.push {cls:= .type "tuple",data:= .seq acc},toks:=tk}):=
 .of_wp λA R s ⟨r,bG,h⟩=>by
  obtain⟨i,g,j,tk,os⟩:=s;have p:=sub_tuple_self;have k:=init_tuple_lookup;have t:=madeHere_tuple;have u:Shared.TypeIs ⟨i,g,j,tk,os⟩ (.ref d) "dict":=K.type _ bG;have a:∀(E:aJo) (l :List Value->Shared->Prop),(∀(h' :Heap) (f :Nat) (acc:Array Value),i.objs.size<=h'.objs.size->(∀b o,i.get? b=some o->h'.get? b=some o)->ItemsOf P acc n->l acc.toList ⟨h',g,j,f,os⟩)->wpAny (model prog w) A.in1 (collect (.ref d)) l E ⟨i,g,j,tk,os⟩:=λE l h=>zR K r bG q h;unfold Builtin.«tuple.__new__»;generalize collect=x at a⊢
  wp_walk using aIl u
  refine a _ _ λh' f acc hsz hk c=>?_;show wpAny _ _ (Builtin.Tuple.tupleExact acc.toList.toArray >>=λv=>ret v) _ _ _;unfold Builtin.Tuple.tupleExact;have y:acc.size=n:=c.1;refine aFm (aG6 ?_ (by show acc.toList.toArray.size<=sizeLine;simp;lia));refine aFo ⟨_,rfl,?_⟩;have e:acc.toList.toArray=acc:=by simp
  rw[e];exact h h' f acc hsz hk c
def AA:OA:=λxs mh Q=>∃n kvs,xs=[.ref n]/\gY mh n false kvs/\Q (.tup (kvs.map (·.1))) mh
theorem IS(j:X.calm=true):cB X (.type "tuple") (dJ X.K AA):=by
 intro pins s σ H xs us Q I r q;obtain⟨μ,mh,ds,R,g,k,⟨n,kvs,rfl,e,q⟩,F⟩:=q;obtain⟨v,rfl,m⟩:=gO k;obtain⟨u,rfl,t⟩:=vals1 r;obtain⟨a,vs,B,rfl,w,⟨kk,z,x,rfl⟩,l⟩:=i5 g m e;cases z;cases t;obtain⟨C,ep,d,hz,src,f⟩:=JY I w;have h:=d.length;refine callType_newIn PySem.F.called_tuple (by decide) (PySem.F.typeCall_tuple_1 _) (PySem.F.newCall_tuple_1 _) (λobj=>PySem.F.args_object_init_2 obj _) PySem.F.entry_tuple_new (qJ src (by lia)) ⟨I.ok.hd j,f,λh' tk acc hsz hk c=>?_⟩;have y:Vals (kk.map λp=>kV p.1) acc.toList:=MA d (by simpa using c.1) λi v hv=>c.2 i v (by simpa using hv);refine⟨(IsTup.new h' acc).typeIs,.ref h'.objs.size,_,I.laid (a:=h'.objs.size) (o:= .tup (kk.map λp=>kV p.1)) (t' :=tk) (λb o' A=>aFn _ (hk b o' A)) hsz ⟨by simpa using hz,_,y,IsTup.new _ _,tH _ _⟩,rfl,?_⟩;rw[x]at q;exact nH g F (nF kk) q _ (I.bG.fresh hsz)
end
def isKey:Value->Bool
 | .int .. =>true
 | .str .. =>true
 | _=>false
def noU(o:Obj):Bool:=match o.data with | .seq aN _=>decide (aN.size<2) && aN.all (λv=>!isKey v) | _=>true
def NoU(K:aJn):Prop:=∀a o,K.lookup a=some o->noU o=true
theorem WK:∀{K:aJn},(K.all λp=>noU p.2)=true->NoU K
 | [],_,a,o,e=>by cases e
 | (b,u)::K,h,a,o,e=>by
  simp only[List.all_cons,Bool.and_eq_true]at h;rw[List.lookup_cons]at e;split at e
  ·cases e;exact h.1
  ·exact WK h.2 a o e
theorem MQ{k:Key}{u:Value}(r:RelV (kV k) u):isKey u=true:=by
 cases k with
 | inl i=>obtain⟨t,rfl⟩:=r;rfl
 | inr x=>obtain⟨t,rfl⟩:=r;rfl
theorem IZ.aEu{K:aJn}{H:Hp}{a:Addr}{ks:List Key}(b:NoU K)(h:IZ K H a (ks.map kV))(c:ks≠[]):H a=some (.tup (ks.map kV)):=by
 rcases h with h | ⟨o,aN,n,e,_,_,d,_,r⟩
 ·exact h
 ·have:=b a o e;simp only[noU,d,Bool.and_eq_true]at this
  cases ks with
  | nil=>exact absurd rfl c
  | cons k ks=>
   obtain⟨l⟩:=aN
   cases r with
   | cons r t=>
    have f:=this.2;simp[MQ r]at f
section
variable {X:Cx}{o i x:Expr}{wo wi wx:WE}{apos cZ pos jX:Pos}
def Q0:O2:=λx y mh Q=>∃(n:Nat) (kvs:List (D×D)) (ks:List Key) (d:D),x= .ref n/\gY mh n true kvs/\y= .tup (ks.map aS)/\aT kvs y=some d/\Q d mh
theorem ixU(W:X.A.units+64<cLine):OI X (bE X.K Q0):=by
 intro c f pins s σ H x y v u Q I C D q E;obtain⟨μ,mh,dx,Y,R,k,G,J,⟨n,kvs,ks,d,rfl,e,rfl,hd,q⟩,F⟩:=q;obtain⟨a,vs,Z,rfl,L,M,l⟩:=i5 k G e;obtain⟨kk,z,N,rfl⟩:=M;cases z;obtain⟨b,ws,rfl,sq,O⟩:=dB J;cases fD O;cases C;cases D;obtain⟨z,P,xs,i,m⟩:=pW I.bG L
 rcases jW ks N l with ⟨_,z⟩ | ⟨d',w,S,t,T⟩
 ·rw[hd]at z;cases z
 ·rw[hd]at t;cases t;have B:=m.typeIs (s:=s);obtain⟨w',U,j⟩:=vC.some_of (v:=w) (o:=(atKey xs ks).map (·.2)) (by rw[<-S];exact i.val ks);obtain⟨p,V,rfl⟩:=aFw.mp U;unfold subscriptTail;refine aFm ?_;rw[getitemInPython_of_ne B.not_modules];refine aFm (wpAny_specialOf B PySem.F.slot_dict_getitem.lookup ?_)
  have g:wpAny (model X.prog X.w) X.A (subscripted f false (.ref a) (.ref b)) (λr h=>wpAny (model X.prog X.w) X.A (letTemporaryGo c (.ref a) r >>=λ_=>pure r) (EP X pins σ Q) X.xe h) X.xe s:=by
   rw[E];exact wpAny_operating (wpAny_getItem_heap (aH4 (by lia)) (y8 I sq) m V (aFm (wpAny_letTemporaryGo (aFo ⟨w,H,I.tok _,j,F.here k q T⟩))))
  first
   | exact aFo (aFm g)
   | exact aFm (aFo (aFm g))
   | exact aFm g
theorem KZ{K ty L:TE}(hu:X.A.units+64<cLine)(ho:PE X o K)(he:PE X i ty)(U:PE X x L)(m:M2 X o "setdefault" apos i x cZ):PE X (.Call (.Attribute o "setdefault" apos) [i,x] [] cZ)
  (λσ H Q=>K σ H λx l=>∃a,x= .ref a/\IsD l a/\ty σ l λy r=>L σ r λz k=>∃kvs ks b,k a=some (.dT kvs)/\y= .ref b/\k b=some (.tup (ks.map kV))/\kvs.length<sizeLine/\(∀v,fZ kvs ks=some v->Q v k)/\(fZ kvs ks=none->Q z (upd k a (.dT (putK kvs ks z))))):=by
 intro pins s σ H Q I h;refine wpAny_Call_method m.base m.SG m.line PySem.F.plainAttrs_dict aHe aJ7 (bV (ho pins s σ H _ I h) λu s1 t=>?_);obtain⟨x,l,M,V,a,ex,d,q1⟩:=t;subst ex;obtain rfl:u=Value.ref a:=V;obtain⟨W,Y,_⟩:=MR M d;refine⟨W,Y,?_⟩;rw[m.trees];refine aIm rfl (aJ0 (aHg (bV (he pins s1 σ l _ M q1) λZ s2 B=>?_)));obtain⟨y,r,I2,ry,q2⟩:=B;refine aHg (bV (U pins s2 σ r _ I2 q2) λfv s3 C=>aIj ?_);obtain⟨z,k,n,N,kvs,ks,b,e,ey,O,hlt,qa,qb⟩:=C;subst ey;obtain rfl:Z=Value.ref b:=ry;obtain⟨zz,hd,xs,g,D⟩:=GJ n.bG e;have hz:xs.length<=sizeLine:=by rw[<-Paired.length g];exact zz
 have f:=g.val ks
 refine call_meetsIn aHe D.typeIs aJ3 (aIy _ _ _) (pP (tupleKind (aR X.prog X.w)) a b hd fv)
  ⟨aH4 (by lia),ks,xs,L2.oN n.bG O,D,hz,λj p hj=>?_,λE h' G hs=>?_⟩
 ·obtain⟨_,_,_,_,_,_,_,_,nd⟩:=D;rw[atKey_of_get nd hj]at f
  cases hvv:fZ kvs ks with
  | none=>rw[hvv]at f;exact f.elim
  | some J =>rw[hvv]at f;exact⟨J,k,n.tok _,f,qa J hvv⟩
 ·have P:=atKey_none_of_get E;rw[P]at f
  cases hvv:fZ kvs ks with
  | some J =>rw[hvv]at f;exact f.elim
  | none=>
   have hl:(putK kvs ks z).length<=sizeLine:=by have:=fU kvs ks z;lia
   have R:=g.put ks O N;rw[storedH_new P]at R;obtain⟨q,es,ep,S,h2,h3,h4,_,h5⟩:=G;refine⟨z,_,i6 (ob:= .dT (putK kvs ks z)) (t' :=s3.toks+(tupleKind (aR X.prog X.w)).draws ks) n (by rw[e];exact True.intro) hs ⟨q,S⟩ ⟨hl,hd,_,R.keeps λc ys T=>?_,q,es,ep,S,h2,h3,h4,h5⟩,N,qb hvv⟩;rw[aK (LB T e (λz=>nomatch z))];exact T
def x5(wo wi wx:WE):WE:=λc mh Q=>wo c mh λo b=>∃n,o= .ref n/\(∃kvs,b[n]? =some (.bI true kvs))/\wi c b λi e=>wx c e λx a=>∃(kvs:List (D×D)) (ks:List Key),a[n]? =some (.bI true kvs)/\i= .tup (ks.map aS)/\ks≠[]/\kvs.length<sizeLine/\
 (∀d,aT kvs i=some d->Q d a)/\(aT kvs i=none->Q x (a.set n (.bI true (putD kvs i x))))
@[simp] theorem aCz {c:c9}{mh:MH}{Q:DK}:x5 wo wi wx c mh Q=(wo c mh λo b=>∃n,o= .ref n/\(∃kvs,b[n]? =some (.bI true kvs))/\wi c b λi e=>wx c e λx a=>∃(kvs:List (D×D)) (ks:List Key),a[n]? =some (.bI true kvs)/\i= .tup (ks.map aS)/\ks≠[]/\kvs.length<sizeLine/\
 (∀d,aT kvs i=some d->Q d a)/\(aT kvs i=none->Q x (a.set n (.bI true (putD kvs i x))))):=rfl
theorem LY(Y:NoU X.K)(Z:X.A.units+64<cLine)(ho:LE X o wo)(hi:LE X i wi)(hx:LE X x wx)(base:attributeBase o "setdefault" X.env (eval o X.env)=eval o X.env:=by rfl)
  (SG:((backTo cZ (starEach [i,x] X.env)).all (λx=>!x.1) && (backToKw cZ (keywordEach [] X.env)).all (λx=>x.1.isSome) && decide (([i,x]:List Expr).length+([]:List Keyword).length+(if ([]:List Keyword).isEmpty then 0 else 1)<30))=true:=by rfl)
  (line:(apos.endLine==cZ.line)=true:=by rfl) (trees:backTo cZ (starEach [i,x] X.env)=[(false,eval i X.env),(false,eval x X.env)]:=by rfl):
  LE X (.Call (.Attribute o "setdefault" apos) [i,x] [] cZ) (x5 wo wi wx):=PE.imp (KZ Z ho hi hx ⟨base,SG,line,trees⟩) λσ H Q h=>by
 obtain⟨μ,p,mh,R,r,En,h,F⟩:=h;refine⟨μ,p,mh,_,r,En,h,λdo' s q t vo H1 u y O=>?_⟩;obtain⟨n,rfl,⟨P,e0⟩,q⟩:=q;obtain⟨a,_,rfl,_,⟨z,B,_,_⟩,_⟩:=mZ y O e0;refine⟨a,rfl,.inr ⟨z,.inl B⟩,t,p,s,_,y,En.mono r u,q,λdi C q2 E vi H2 G R2 I2=>?_⟩;refine⟨E,p,C,_,R2,En.mono r (u.trans G),q2,λdx I q3 c S J L j T=>?_⟩;obtain⟨kvs,ks,e,rfl,M,hz,qa,qb⟩:=q3;obtain⟨a',vs,ea,U,⟨kk,hv,m,rfl⟩,l⟩:=mZ j (Is.mono y (G.trans L) _ _ O) e;cases ea;obtain⟨b,ys,rfl,sq,ly⟩:=y9 (Is.mono R2 L _ _ I2);cases fD ly;have V:=F.at ((u.trans G).trans L);have ln:kk.length=kvs.length:=by have:=aGx List.length m;simp at this;lia
 refine⟨kk,ks,b,hv,rfl,sq.aEu Y M,by lia,λv d=>?_,λd=>?_⟩
 ·rcases jW ks m l with ⟨g,k⟩ | ⟨d',w,g,k,W⟩
  ·rw[d]at g;cases g
  ·rw[d]at g;cases g;exact V.here j (qa d' k) W
 ·rcases jW ks m l with ⟨g,k⟩ | ⟨d',w,g,k,W⟩
  ·have N:aI c J c (upd J a (.dT (putK kk ks S))):=aI.set j U;obtain⟨p1,p2⟩:=sO (f:=λks:List Key=>D3.D.tup (ks.map aS)) MI ks T m l;have R4:Rep X.K c (I.set n (.bI true (putD kvs (.tup (ks.map aS)) dx))) (upd J a (.dT (putK kk ks S))):=pY j U (by trivial) ⟨_,⟨_,aP,p1,rfl⟩,p2.mono j N⟩;exact V _ _ (qb k) c _ _ N R4 (Is.mono j N _ _ T)
  ·rw[d]at g;cases g
end
def EY(w:WE):WT:=λb mh Q=>w b mh λx a=>∃n kvs,x= .ref n/\gY a n false kvs/\Q (!kvs.isEmpty) a
@[simp] theorem aDy {w:WE}{b:c9}{mh:MH}{Q:Bool->MH->Prop}:EY w b mh Q=(w b mh λx a=>∃n kvs,x= .ref n/\gY a n false kvs/\Q (!kvs.isEmpty) a):=rfl
theorem RC{X:Cx}{a:Expr}{f:WE}(r:LE X a f)(he:∀c,isTrue a X.env c=(do let v<-c;standAt a.pos;holding [v] (truthy v)):=by intro _;rfl):LT X a (EY f):=by
 have t:PT X a (λσ H Q=>tL X.K f σ H λx H' =>∃b kk,x= .ref b/\Rd H' b (.dK kk)/\Q (!kk.isEmpty) H'):=by
  intro pins s σ H Q I h;refine isTrue_plain (bV (r pins s σ H _ I h) λv s1 u=>?_) (he _);obtain⟨x,g,d,r1,b,kk,rfl,i,q⟩:=u;cases r1;obtain⟨z,hd,vs,j,w⟩:=pX d.bG i;have G:=j.length;have sz:=aGb;refine wpAny_truthy_dict hd w (by lia) ⟨g,d.tok _,?_⟩;have e:vs.isEmpty=kk.isEmpty:=by cases kk <;> cases vs <;> simp_all
  rw[e];exact q
 refine PT.imp t λσ H Q h=>?_;obtain⟨μ,y,mh,R,A,E,h,F⟩:=h;refine⟨μ,y,mh,_,A,E,h,λdx k m o J g B p d=>?_⟩;obtain⟨n,kvs,rfl,e,m⟩:=m;obtain⟨a,vs,L,rfl,i,⟨kk,z,C,rfl⟩,l⟩:=i5 (X:=X) p d e;cases z;refine⟨a,kk,rfl,i,?_⟩
 have D:kk.isEmpty=kvs.isEmpty:=by
  have:=aGx List.length C;cases kk <;> cases kvs <;> simp_all
 rw[D];exact F _ k m o g B p
section
variable {P:Program}{W:World}{K:aJn}{mg:aJq}{base:Heap}{N:List Str}{q:Str}{S:Stmt}{f:Addr}{cd:Value}{A:Around}{o:List Env}{s:Shared}{H:Hp}{E:XK}
variable {tg iter ek ev:Expr}{ifs:List Expr}{scope:Scope}{pos:Pos}{wi:WI}{g:TG}{gd:WG}{t:WT}{wk wv:WE}(own:List Str)(aD:List Nat)
theorem HM{i:Nat}{x:Str}{a c:Pos}(chk:bW N (aE S) scope aD=true)(nd:(cN N own aD).Nodup)(d:gA K g gd)(ho:j7 own.length g)
  (hN:N.Nodup) (hi:LI (cF P W K mg base N q S f cd A o s H E) tg iter wi)
  (hg:(cN N own aD).Nodup->∀cl C fp s₀ H₀,PG (aG (cF P W K mg base N q S f cd A o s H E) own aD scope cl C fp s₀ H₀) tg g) (ht:∀cl C fp s₀ H₀,AG (aG (cF P W K mg base N q S f cd A o s H E) own aD scope cl C fp s₀ H₀) ifs t)
  (hk:∀cl C fp s₀ H₀,LE (aG (cF P W K mg base N q S f cd A o s H E) own aD scope cl C fp s₀ H₀) ek wk) (hv:∀cl C fp s₀ H₀,LE (aG (cF P W K mg base N q S f cd A o s H E) own aD scope cl C fp s₀ H₀) ev wv)
  (b:N[i]? =some x:=by rfl) (e:Loc (cF P W K mg base N q S f cd A o s H E).env.scope x:=by first | exact Or.inl rfl | exact Or.inr rfl) (h:swapsWith (.DictComp ek ev [⟨tg,iter,ifs,0⟩] scope pos) (some (.Name x a)) c.line (cF P W K mg base N q S f cd A o s H E).env=pure true:=by rfl)
  (j:(cF P W K mg base N q S f cd A o s H E).fn x=true\/(cF P W K mg base N q S f cd A o s H E).env.scope.names.lookup x=some .local:=by first | exact .inl rfl | exact .inr rfl | assumption)
  (k:∀x,foldedSetIterable iter (cF P W K mg base N q S f cd A o s H E).env x=pure x:=by intro _;rfl):LS (cF P W K mg base N q S f cd A o s H E) (.Assign [.Name x a] (.DictComp ek ev [⟨tg,iter,ifs,0⟩] scope pos) c) (bJ (OE own aD wi gd t wk wv) (gN i)):=
 LR i hN (N:=N) (sc:=aE S) own aD rfl rfl chk rfl hi ho d (hg nd) ht hk hv b e h j k
end
def Z3(tv:TE):TE:=λσ H Q=>∀p,H p=none->∀q,upd H p (.dT []) q=none->tv σ (upd (upd H p (.dT [])) q (.tup [])) λy a=>∃b c,[(V.ref q,y)]=[(V.ref b,c)]/\a p=some (.dT [])/\a b =some (.tup [])/\Q (.ref p) (upd a p (.dT [([],c)]))
section
variable {X:Cx}{v:Expr}{pos kp:Pos}{tv:TE}{wv:WE}
theorem QL{x1}(M:X.A.units+64<cLine)(hv:PE X v tv):PE X (.Dict [some (.Tuple [] x1 kp)] [v] pos) (Z3 tv):=by
 intro pins s σ H Q I q;have p:=I.bG.fresh (aFq s.heap.objs.size);have u:=I.laid (a:=s.heap.objs.size) (o:= .dT []) (h' :=s.heap.push {cls:= .type "dict",data:= .dict #[]}) (t' :=s.toks) (λ_ _ q=>aFn _ q) (aFq _) (B0 s.heap I.big);have w:PPs X pos [some (.Tuple [] x1 kp)] [v] [(ZS (λσ H Q=>Q [] H),tv)]:=KR (KW qG) hv QE;refine wpAny_Dict_any rfl rfl (by simp) (by simp) (bV (w pins _ σ _ (λps f=>∃e y,ps=[(.ref e,y)]/\f s.heap.objs.size=some (.dT [])/\f e =some (.tup [])/\Q (.ref s.heap.objs.size) (upd f s.heap.objs.size (.dT [([],y)]))) u ⟨aGm _,λe g =>?_⟩) λN s2 x=>?_)
 ·exact q _ p e g
 ·obtain⟨ps,O,h,d,e,y,rfl,i,l,q2⟩:=x
  cases d with
  | cons r t=>
   cases t;rename_i b;obtain⟨B,P⟩:=b;obtain rfl:B=Value.ref e :=r.1;obtain⟨z,hd,xs,d,C⟩:=GJ h.bG i;have D:xs=[]:=by cases d;rfl
   subst D;unfold storeAll;rw[List.forIn_cons];refine aFm (aFm (wpAny_dictSet_heap (k:=([]:List Key)) (hsz:=aGm _) (by show X.A.units<cLine;lia) (L2.oN h.bG l) C λh' j E=>aFo ?_));refine aFo ?_;have F:=d.put ([]:List Key) l r.2;obtain⟨q,es,ep,m,G,J,K,_,L⟩:=j;refine⟨.ref s.heap.objs.size,_,i6 (ob:= .dT [([],y)]) h (by rw[i];exact True.intro) E ⟨q,m⟩ ⟨by show 1<=sizeLine;rw[sizeLine_eq];decide,hd,_,F.keeps λc R n=>?_,q,es,ep,m,G,J,K,L⟩,rfl,q2⟩;rw[aK (LB n i (λz=>nomatch z))];exact n
def E7(wv:WE):WE:=λb mh Q=>wv b (mh++[.bI true []]) λx a=>a[mh.length]? =some (.bI true [])/\Q (.ref mh.length) (a.set mh.length (.bI true [(.tup [],x)]))
@[simp] theorem aEh {b:c9}{mh:MH}{Q:DK}:E7 wv b mh Q=(wv b (mh++[.bI true []]) λx a=>a[mh.length]? =some (.bI true [])/\Q (.ref mh.length) (a.set mh.length (.bI true [(.tup [],x)]))):=rfl
theorem RT{x1}(t:X.A.units+64<cLine)(hv:LE X v wv):LE X (.Dict [some (.Tuple [] x1 kp)] [v] pos) (E7 wv):=PE.imp (QL t hv) λσ H Q h=>by
 obtain⟨μ,u,mh,R,b,E,h,F⟩:=h;intro p n q e;have o:aI μ H (μ++[p]) (upd H p (.dT [])):=aI.BC b n;have f:Rep X.K (μ++[p]) (mh++[.bI true []]) (upd H p (.dT [])):=b.Q4 n ⟨[],⟨[],aP,rfl,rfl⟩,by simp[IsL]⟩;have r:aI (μ++[p]) (upd H p (.dT [])) (μ++[p]) (upd (upd H p (.dT [])) q (.tup [])):=aI.new f e;have R2:Rep X.K (μ++[p]) (mh++[.bI true []]) (upd (upd H p (.dT [])) q (.tup [])):=f.new e;refine⟨μ++[p],u,_,_,R2,E.mono b (o.trans r),h,λx g i a y j k c w=>?_⟩;obtain⟨z,i⟩:=i;have d:a[mh.length]? =some p:=k.get (by rw[<-b.len];simp);obtain⟨B,⟨l,C,D,J⟩,_⟩:=c.obj _ _ _ d z;have:l=[]:=by simpa using D.symm
 subst this;have m:q∉μ++[p]:=λG=>f.ne e G rfl;refine⟨q,y,rfl,C,k.fr _ _ aP m,?_⟩;have s:aI a j a (upd j p (.dT [([],y)])):=aI.set c d;have I:Rep X.K a (g.set mh.length (.bI true [(.tup [],x)])) (upd j p (.dT [([],y)])):=pY c d (by trivial) ⟨[y],⟨_,aP,rfl,rfl⟩,fI (Is.mono c s _ _ w)⟩;exact F _ _ i a _ _ (((o.trans r).trans k).trans s) I (by unfold Is;exact⟨p,d,rfl⟩)
end
theorem SY:bootBuiltins "dict"=some (.type "dict"):=by decide+kernel
def EI:OA:=λxs mh Q=>∃n kvs,xs=[.ref n]/\gY mh n false kvs/\Q (.ref mh.length) (mh++[.bI false kvs])
theorem NQ{X:Cx}:cB X (.type "dict") (dJ X.K EI):=by
 intro pins s σ H xs us Q I r q;obtain⟨μ,mh,ds,R,c,j,⟨n,kvs,rfl,e,q⟩,F⟩:=q;obtain⟨v,rfl,k⟩:=gO j;obtain⟨u,rfl,m⟩:=vals1 r;obtain⟨a,vs,B,rfl,p,⟨kk,z,t,rfl⟩,l⟩:=i5 c k e;cases z;cases m;obtain⟨z,hd,w,d,x⟩:=pX I.bG p;have g:=I.bG.fresh (aFq s.heap.objs.size);refine kt_call_dict hd x (by rw[<-d.length];exact z) λh' f y=>?_;have hk:∀b o',s.heap.get? b=some o' ->h'.get? b=some o' :=λb o' h=>(y.2 b (aFz (aFu h))).trans (aFn _ h);have A:(s.heap.objs.size==sysModules)=false:=aI7.mpr (aGd (aFz I.big));refine⟨.ref s.heap.objs.size,_,I.laid (a:=s.heap.objs.size) (o:= .dK kk) (t' :=s.toks) hk (aFq _) ⟨z,A,w,d,f⟩,rfl,?_⟩;have i:aI μ H (μ++[s.heap.objs.size]) (upd H s.heap.objs.size (.dK kk)):=aI.BC c g;exact F _ _ q (μ++[s.heap.objs.size]) _ _ i (c.Q4 g ⟨kk.map (·.2),⟨kk,aP,t,rfl⟩,l.mono c i⟩) (by unfold Is;exact⟨s.heap.objs.size,by rw[<-c.len];simp,rfl⟩)
end D3
namespace L2
open PySem PySem.Spec PyProof.Rows
def zO(f0:Value)(f1:Bool)(TI TO:Addr):Obj:={cls:= .type "zip",dict:=none,data:= .fields #[f0,.bool f1,.bool false,.ref TI,.ref TO],slots:= #[]}
structure qY(h:Heap)(z TI TO:Addr)(q r:Src)(i:Nat):Prop where
 obj:∃(f0:Value) (f1:Bool),(f0= .none\/∃a:Nat,f0=rawInt a)/\h.get? z=some (zO f0 f1 TI TO)
 aN:∃n,h.get? TI=some {cls:= .type "tuple",data:= .seq #[.ref q.it,.ref r.it] n}
 own:∃(x y:Value) (n:Nat),h.get? TO=some {cls:= .type "tuple",data:= .seq #[x,y] n}
 NY:q.At h i
 at2:r.At h i
variable{q r:Src}{i:Nat}
theorem qY.to{h h' :Heap}{z TI TO:Addr}(Z:qY h z TI TO q r i)(k:∀b o,b=z\/b=TI\/b=TO\/b=q.it\/b=r.it->h.get? b=some o->h'.get? b=some o):qY h' z TI TO q r i:=by
 obtain⟨⟨f0,f1,a,hz⟩,⟨n,c⟩,⟨x,y,m,d⟩,f,g⟩:=Z;exact⟨⟨f0,f1,a,k _ _ (.inl rfl) hz⟩,⟨n,k _ _ (.inr (.inl rfl)) c⟩,⟨x,y,m,k _ _ (.inr (.inr (.inl rfl))) d⟩,f.to λo e=>k _ _ (.inr (.inr (.inr (.inl rfl)))) e,g.to λo e=>k _ _ (.inr (.inr (.inr (.inr rfl)))) e⟩
structure CL(z TI TO:Addr)(q r:Src):Prop where
 n1:TI≠z
 n2:TO≠z
 n3:TI≠TO
 q1:q.it≠z
 q2:q.it≠TI
 q3:q.it≠TO
 r1:r.it≠z
 r2:r.it≠TI
 r3:r.it≠TO
 qr:q.it≠r.it
 l1:q.l≠z/\q.l≠TO/\q.l≠q.it/\q.l≠r.it
 l2:r.l≠z/\r.l≠TO/\r.l≠q.it/\r.l≠r.it
section
variable {prog:Program}{w:World}{A:Around}{E:aJo}{s:Shared}
theorem IX{a:Addr}{Q:Option Obj->Shared->Prop}(h:Q (s.heap.get? a) s):wpAny (model prog w) A (loadIfAlive a) Q E s:=λ_ _ _=>h
theorem GH{z TI TO:Addr}{f0:Value}{f1:Bool}{Q:Bool->Shared->Prop}(d:f0= .none\/∃a:Nat,f0=rawInt a)(hz:s.heap.get? z=some (zO f0 f1 TI TO))(b:Q true s)
  (c:∀h',h'.get? z=some (zO f0 true TI TO)->Heap.SameBut z s.heap h' ->Q false {s with heap:=h'}):wpAny (model prog w) A (Builtin.SmallTypes.ownedTupleIsFree (.ref z)) Q E s:=by
 unfold Builtin.SmallTypes.ownedTupleIsFree;refine aFm (aG7 hz rfl (x:=f0) rfl ?_);rcases d with rfl | ⟨a,rfl⟩
 ·exact aFo b
 ·show wpAny _ _ (loadIfAlive ((a:Int).toNat) >>=_) _ _ _;refine aFm (IX ?_);generalize s.heap.get? (a:Int).toNat=o
  cases o with
  | none=>exact aFo b
  | some o=>
   simp only[Option.isNone_some,Bool.false_eq_true,if_false];refine aFm (aG7 hz rfl (x:= .bool f1) rfl ?_)
   cases f1 with
   | true=>
    rw[if_neg (show ¬((Value.bool true !=Value.bool true)=true) from Bool.false_ne_true)];exact aFo (c _ hz (Heap.SameBut.refl _ _))
   | false=>
    rw[if_pos (show (Value.bool false !=Value.bool true)=true from rfl)];exact aFm (aG0 hz (by simp) λe f g=>aFo (c e f g))
variable{xs ys:Array Value}
theorem SI{z TI TO:Addr}{x y:Value}{Q:aJo}(D:CL z TI TO q r)(Z:qY s.heap z TI TO q r i)
  (hs1:q.Sq s.heap xs) (hs2:r.Sq s.heap ys) (hx:xs[i]? =some x) (hy:ys[i]? =some y)
  (hQ:∀h' p,s.heap.objs.size<=p->qY h' z TI TO q r (i+1)->h'.get? p=some {cls:= .type "tuple",data:= .seq #[x,y]}->
   (∀c o,c≠z->c≠TO->c≠q.it->c≠r.it->s.heap.get? c=some o->h'.get? c=some o)->Q (.ref p) {s with heap:=h'}):
  wpAny (model prog w) A (Builtin.«zip.__next__» ⟨[.ref z],[]⟩) (λfin s' =>∃v,fin= .done (.ret v)/\Q v s') E s:=by
 obtain⟨⟨f0,f1,hf,hz⟩,⟨nI,P⟩,⟨x0,y0,n0,hTO⟩,h1,h2⟩:=Z;refine aFm (m:=field (.ref z) 2) (aG7 hz rfl (x:= .bool false) rfl ?_);refine aFm (m:=field (.ref z) 3) (aG7 hz rfl (x:= .ref TI) rfl ?_);refine aFm (m:=seqItems? (.ref TI)) (aGq P rfl ?_);refine aFm (m:=Builtin.SmallTypes.ownedTupleIsFree (.ref z)) (GH hf hz ?_ λh0 hz0 M=>?_)
 ·simp only[if_true];refine aFm (aGt ?_);refine aFm (aG7 hz rfl (x:= .ref TO) rfl ?_);refine aFm (aG0 hz (by simp) λJ u j=>?_)
  replace u:J.get? z=some (zO .ellipsis f1 TI TO):=u
  refine aFm ?_;simp only[List.zipIdx_cons,List.zipIdx_nil,List.forIn_cons,List.forIn_nil];refine aFm (aFm (aIz ?_));show wpAny _ _ (Builtin.SmallTypes.nextOf (.ref q.it) >>=_) _ _ _;refine aFm (Src.item (s:={s with heap:=J}) (h1.to λo e=>j.extBut _ _ D.q1 e) (hs1.to λo e=>j.extBut _ _ D.l1.1 e) hx λf B a=>aFo ?_)
  replace a:Heap.SameBut q.it J f:=a
  have l:=a.extBut _ _ (aGd D.q3) (j.extBut _ _ D.n2 hTO);refine aFm (aGq l rfl ?_);refine aFm (aHx l rfl ?_);have h:=aGv (Obj.mapSeq λz=>z.setIfInBounds 0 x) l (by rfl);have k:Heap.SameBut TO f (f.update TO (Obj.mapSeq λz=>z.setIfInBounds 0 x)):=aGg ..;generalize f.update TO (Obj.mapSeq λz=>z.setIfInBounds 0 x)=h₃ at h k⊢
  replace h:h₃.get? TO=some {cls:= .type "tuple",data:= .seq #[x,y0] n0}:=h
  refine aFm (aJ2 (aFo ?_));refine aFm (aFm (aIz ?_));show wpAny _ _ (Builtin.SmallTypes.nextOf (.ref r.it) >>=_) _ _ _;have k3:∀c o,c≠z->c≠TO->c≠q.it->s.heap.get? c=some o->h₃.get? c=some o:=λc o C R N e=>k.extBut _ _ R (a.extBut _ _ N (j.extBut _ _ C e));refine aFm (Src.item (s:={s with heap:=h₃}) (h2.to λo e=>k3 _ _ D.r1 D.r3 (aGd D.qr) e) (hs2.to λo e=>k3 _ _ D.l2.1 D.l2.2.1 D.l2.2.2.1 e) hy λd F b=>aFo ?_)
  replace b:Heap.SameBut r.it h₃ d:=b
  have n:=b.extBut _ _ (aGd D.r3) h;refine aFm (aGq n rfl ?_);refine aFm (aHx n rfl ?_);have g:=aGv (Obj.mapSeq λz=>z.setIfInBounds 1 y) n (by rfl);have t:Heap.SameBut TO d (d.update TO (Obj.mapSeq λz=>z.setIfInBounds 1 y)):=aGg ..;generalize d.update TO (Obj.mapSeq λz=>z.setIfInBounds 1 y)=h₅ at g t⊢
  replace g:h₅.get? TO=some {cls:= .type "tuple",data:= .seq #[x,y] n0}:=g
  refine aFm (aJ2 (aFo (aFo ?_)));refine aFm (aGq g rfl ?_);refine aFm (aHa ?_);have hsz:h₅.objs.size=s.heap.objs.size:=by rw[t.1,b.1,k.1,a.1,j.1]
  have k5:∀c o,c≠TO->c≠r.it->h₃.get? c=some o->h₅.get? c=some o:=λc o R S e=>t.extBut _ _ R (b.extBut _ _ S e);have K:h₅.get? z=some (zO .ellipsis f1 TI TO):=k5 _ _ (aGd D.n2) (aGd D.r1) (k.extBut _ _ (aGd D.n2) (a.extBut _ _ (aGd D.q1) u));have T:q.At h₅ (i+1):=B.to λo e=>k5 _ _ D.q3 D.qr (k.extBut _ _ D.q3 e);have U:r.At h₅ (i+1):=F.to λo e=>t.extBut _ _ D.r3 e;refine aFm (m:=Builtin.SmallTypes.ownedTupleHandOut (.ref z) (.ref h₅.objs.size)) ?_;unfold Builtin.SmallTypes.ownedTupleHandOut;have V:(h₅.push {cls:= .type "tuple",data:= .seq #[x,y]}).get? z=some (zO .ellipsis f1 TI TO):=aFn _ K;refine aFm (aG0 V (by simp) λh₇ G W=>?_)
  replace G:h₇.get? z=some (zO (rawInt h₅.objs.size) f1 TI TO):=G
  refine aG0 G (by simp) λI H X=>?_
  replace H:I.get? z=some (zO (rawInt h₅.objs.size) false TI TO):=H
  have O:∀c o,c≠z->(h₅.push {cls:= .type "tuple",data:= .seq #[x,y]}).get? c=some o->I.get? c=some o:=λc o C e=>X.extBut _ _ C (W.extBut _ _ C e);have L:∀c o,c≠z->h₅.get? c=some o->I.get? c=some o:=λc o C e=>O c o C (aFn _ e);refine aFo ⟨_,rfl,hQ I h₅.objs.size (aJl hsz.symm) ⟨⟨_,false,.inr ⟨_,rfl⟩,H⟩,⟨nI,?_⟩,⟨x,y,n0,L _ _ D.n2 g⟩,T.to λo e=>L _ _ D.q1 e,U.to λo e=>L _ _ D.r1 e⟩ ?_ λc o C R N S e=>L _ _ C (k5 _ _ R S (k3 _ _ C R N e))⟩
  ·exact L _ _ D.n1 (k5 _ _ D.n3 (aGd D.r2) (k3 _ _ D.n1 D.n3 (aGd D.q2) P))
  ·exact O _ _ (aGp (aFu K)) (aFs _ rfl)
 ·simp only[Bool.false_eq_true,if_false];refine aFm ?_;simp only[List.forIn_toArray,List.forIn_cons,List.forIn_nil];refine aFm (aFm (aGf ?_));show wpAny _ _ (Builtin.SmallTypes.nextOf (.ref q.it) >>=_) _ _ _;refine aFm (Src.item (s:={s with heap:=h0}) (h1.to λo e=>M.extBut _ _ D.q1 e) (hs1.to λo e=>M.extBut _ _ D.l1.1 e) hx λf B a=>aFo ?_)
  replace a:Heap.SameBut q.it h0 f:=a
  have k2:∀c o,c≠z->c≠q.it->s.heap.get? c=some o->f.get? c=some o:=λc o C N e=>a.extBut _ _ N (M.extBut _ _ C e);refine aFo ?_;refine aFm (aFm (aGf ?_));show wpAny _ _ (Builtin.SmallTypes.nextOf (.ref r.it) >>=_) _ _ _;refine aFm (Src.item (s:={s with heap:=f}) (h2.to λo e=>k2 _ _ D.r1 (aGd D.qr) e) (hs2.to λo e=>k2 _ _ D.l2.1 D.l2.2.2.1 e) hy λd F b=>aFo ?_)
  replace b:Heap.SameBut r.it f d:=b
  have k4:∀c o,c≠z->c≠q.it->c≠r.it->s.heap.get? c=some o->d.get? c=some o:=λc o C N S e=>b.extBut _ _ S (k2 _ _ C N e);have hsz:d.objs.size=s.heap.objs.size:=by rw[b.1,a.1,M.1]
  refine aFo (aFo ?_);show wpAny _ _ (newTuple [x,y] >>=_) _ _ _;refine aFm (aHa ?_);have O:∀c o,d.get? c=some o->(d.push {cls:= .type "tuple",data:= .seq #[x,y]}).get? c=some o:=λc o e=>aFn _ e;have Y:d.get? z=some (zO f0 true TI TO):=b.extBut _ _ (aGd D.r1) (a.extBut _ _ (aGd D.q1) hz0);refine aFo ⟨_,rfl,hQ _ d.objs.size (aJl hsz.symm) ⟨⟨f0,true,hf,O _ _ Y⟩,⟨nI,O _ _ (k4 _ _ D.n1 (aGd D.q2) (aGd D.r2) P)⟩,⟨x0,y0,n0,O _ _ (k4 _ _ D.n2 (aGd D.q3) (aGd D.r3) hTO)⟩,B.to λo e=>O _ _ (b.extBut _ _ D.qr e),F.to λo e=>O _ _ e⟩ (aFs _ rfl) λc o C R N S e=>O _ _ (k4 _ _ C N S e)⟩
theorem YF{z TI TO:Addr}{Q:PySem.Fin->Shared->Prop}(C:A.handled=none)(D:CL z TI TO q r)(Z:qY s.heap z TI TO q r i)
  (n:q.Sq s.heap xs) (F:xs[i]? =none)
  (G:∀h' e,(∀c o,c≠z->c≠q.it->s.heap.get? c=some o->h'.get? c=some o)->(∃o,h'.get? e=some o/\o.cls= .type "StopIteration")->E (.ref e) {s with heap:=h'}):
  wpAny (model prog w) A (Builtin.«zip.__next__» ⟨[.ref z],[]⟩) Q E s:=by
 obtain⟨⟨f0,f1,I,hz⟩,⟨M,v⟩,⟨N,y0,O,J⟩,H,P⟩:=Z;refine aFm (m:=field (.ref z) 2) (aG7 hz rfl (x:= .bool false) rfl ?_);refine aFm (m:=field (.ref z) 3) (aG7 hz rfl (x:= .ref TI) rfl ?_);refine aFm (m:=seqItems? (.ref TI)) (aGq v rfl ?_);refine aFm (m:=Builtin.SmallTypes.ownedTupleIsFree (.ref z)) (GH I hz ?_ λh0 K k=>?_)
 ·simp only[if_true];refine aFm (aGt ?_);refine aFm (aG7 hz rfl (x:= .ref TO) rfl ?_);refine aFm (aG0 hz (by simp) λj b d=>?_)
  replace b:j.get? z=some (zO .ellipsis f1 TI TO):=b
  refine aFm ?_;simp only[List.zipIdx_cons,List.zipIdx_nil,List.forIn_cons,List.forIn_nil];refine aFm (aFm (aIz ?_));show wpAny _ _ (Builtin.SmallTypes.nextOf (.ref q.it) >>=_) _ _ _;refine aFm (Src.done (s:={s with heap:=j}) C (H.to λo e=>d.extBut _ _ D.q1 e) (n.to λo e=>d.extBut _ _ D.l1.1 e) F λf e a he=>?_);obtain⟨L,l,p⟩:=he;have g:f.get? z=some (zO .ellipsis f1 TI TO):=a _ _ (aGd D.q1) b;have y:e≠z:=λx=>by subst x;rw[g]at l;cases l;simp[zO]at p
  refine aG0 g (by simp) λt _ h=>G t e (λc o u B x=>h.extBut _ _ u (a _ _ B (d.extBut _ _ u x))) ⟨L,h.extBut _ _ y l,p⟩
 ·simp only[Bool.false_eq_true,if_false];refine aFm ?_;simp only[List.forIn_toArray,List.forIn_cons,List.forIn_nil];refine aFm (aFm (aGf ?_));show wpAny _ _ (Builtin.SmallTypes.nextOf (.ref q.it) >>=_) _ _ _;refine aFm (Src.done (s:={s with heap:=h0}) C (H.to λo e=>k.extBut _ _ D.q1 e) (n.to λo e=>k.extBut _ _ D.l1.1 e) F λf e a he=>?_);exact G f e (λc o u B x=>a _ _ B (k.extBut _ _ u x)) he
theorem SH{z TI TO:Addr}{x y:Value}{Q:aJo}(D:CL z TI TO q r)(Z:qY s.heap z TI TO q r i)
  (d:q.Sq s.heap xs) (f:r.Sq s.heap ys) (h:xs[i]? =some x) (j:ys[i]? =some y)
  (l:∀h' p,s.heap.objs.size<=p->qY h' z TI TO q r (i+1)->h'.get? p=some {cls:= .type "tuple",data:= .seq #[x,y]}->
   (∀c o,c≠z->c≠TO->c≠q.it->c≠r.it->s.heap.get? c=some o->h'.get? c=some o)->Q (.ref p) {s with heap:=h'}):
  wpAny (model prog w) A (Builtin.SmallTypes.nextOf (.ref z)) Q E s:=by
 have g:s.TypeIs (.ref z) "zip":=by obtain⟨f0,f1,_,e⟩:=Z.obj;exact⟨_,e,rfl⟩
 unfold Builtin.SmallTypes.nextOf
 refine aFm (aG3 (name:=Str.ofString "__next__") g aH2 (aG1 aH2 g aIx
  (SI D Z d f h j λh' p a b c k=>aFo (l h' p a b c k)) (aIp _)))
theorem D2{z TI TO:Addr}{Q:aJo}(d:A.handled=none)(D:CL z TI TO q r)(Z:qY s.heap z TI TO q r i)
  (a:q.Sq s.heap xs) (f:xs[i]? =none)
  (g:∀h' e,(∀c o,c≠z->c≠q.it->s.heap.get? c=some o->h'.get? c=some o)->(∃o,h'.get? e=some o/\o.cls= .type "StopIteration")->E (.ref e) {s with heap:=h'}):
  wpAny (model prog w) A (Builtin.SmallTypes.nextOf (.ref z)) Q E s:=by
 have b:s.TypeIs (.ref z) "zip":=by obtain⟨f0,f1,_,e⟩:=Z.obj;exact⟨_,e,rfl⟩
 unfold Builtin.SmallTypes.nextOf;exact aFm (aG3 (name:=Str.ofString "__next__") b aH2 (aG1 aH2 b aIx (YF d D Z a f g) (aIp _)))
end
open AutoSeq1 (wpAny_loadPart')
structure OB(h:Heap)(e z TI TO:Addr)(q r:Src)(f0:Value)(i:Nat):Prop where
 obj:∃old,h.get? e=some (enO f0 z i old)
 at_:qY h z TI TO q r i
structure EnD(e z TI TO:Addr)(q r:Src):Prop where
 D:CL z TI TO q r
 n:e≠z/\e≠TI/\e≠TO/\e≠q.it/\e≠r.it
section
variable {prog:Program}{w:World}{A:Around}{E:aJo}{s:Shared}
variable{xs ys:Array Value}
theorem NI{e z TI TO:Addr}{x y:Value}{Q:aJo}(D:EnD e z TI TO q r)(Z:OB s.heap e z TI TO q r .none i)
  (B:q.Sq s.heap xs) (C:r.Sq s.heap ys) (R:xs[i]? =some x) (S:ys[i]? =some y)
  (T:∀(a:Heap) (p:Addr) (h' :Heap),s.heap.objs.size<=p->a.get? p=some {cls:= .type "tuple",data:= .seq #[x,y]}->(∀(c:Addr) (o:Obj),c≠z->c≠TO->c≠q.it->c≠r.it->s.heap.get? c=some o->a.get? c=some o)->
   OB h' e z TI TO q r (rawInt a.objs.size) (i+1)->h'.get? a.objs.size=some {cls:= .type "tuple",data:= .seq #[.int i s.toks,.ref p]}->
   (∀(b:Addr) (o:Obj),b≠e->a.get? b=some o->h'.get? b=some o)->Q (.ref a.objs.size) {s with heap:=h',toks:=s.toks+1}):
  wpAny (model prog w) A (Builtin.«enumerate.__next__» ⟨[.ref e],[]⟩) (λF U =>∃v,F= .done (.ret v)/\Q v U) E s:=by
 obtain⟨⟨old,he⟩,hz⟩:=Z;obtain⟨V,g,d,tk,os⟩:=s;have W:e<V.objs.size:=aFu he;show wpAny _ _ (field (.ref e) 2 >>=_) _ _ _;refine aFm (aG7 he rfl (x:= .ref z) rfl (aFm (SH D.D hz B C R S λa p G NY X M=>?_)));have t:a.get? e=some (enO .none z i old):=M _ _ D.n.1 D.n.2.2.1 D.n.2.2.2.1 D.n.2.2.2.2 he;show wpAny _ _ (field (.ref e) 3 >>=_) _ _ ⟨a,g,d,tk,os⟩;refine aFm (aG7 t rfl (x:=rawInt (i:Int)) rfl ?_);show wpAny _ _ (field (.ref e) 4 >>=_) _ _ ⟨a,g,d,tk,os⟩;refine aFm (aG7 t rfl (x:= .none) rfl ?_);show wpAny _ _ (mkInt (i:Int) >>=_) _ _ ⟨a,g,d,tk,os⟩;refine aFm (wpAny_mkInt ?_);show wpAny _ _ (setField (.ref e) 3 (rawInt ((i:Int)+1)) >>=_) _ _ ⟨a,g,d,tk+1,os⟩;refine aFm (aG0 t (by simp) λY e2 h=>?_);show wpAny _ _ (setField (.ref e) 4 .none >>=_) _ _ ⟨Y,g,d,tk+1,os⟩;refine aFm (aG0 e2 (by simp) λj e3 k=>?_);show wpAny _ _ (newTuple [.int i tk,.ref p] >>=_) _ _ ⟨j,g,d,tk+1,os⟩;refine aFm (aHa ?_);have hsz:j.objs.size=a.objs.size:=by rw[k.1,h.1]
 have l:e<a.objs.size:=aFu t;have u:=aFn {cls:= .type "tuple",data:= .seq #[.int i tk,.ref p]} e3;have N:(j.push {cls:= .type "tuple",data:= .seq #[.int i tk,.ref p]}).get? a.objs.size=some {cls:= .type "tuple",data:= .seq #[.int i tk,.ref p]}:=by rw[<-hsz];exact aFs _ rfl
 have H:∀b o,b≠e->a.get? b=some o->(j.push {cls:= .type "tuple",data:= .seq #[.int i tk,.ref p]}).get? b=some o:=λb o f m=>aFn _ (k.extBut b o f (h.extBut b o f m));show wpAny _ _ (Builtin.SmallTypes.ownedTupleIsFree (.ref e) >>=_) _ _ _;rw[hsz];generalize j.push {cls:= .type "tuple",data:= .seq #[.int i tk,.ref p]}=h4 at u N H⊢;refine aFm ?_;unfold Builtin.SmallTypes.ownedTupleIsFree;refine aFm (aG7 u rfl (x:= .none) rfl (aFo ?_));simp only[if_true];refine aFm (aGt (aFm (aG7 u rfl (x:=old) rfl (aFm (aG0 u (by simp) λh5 e5 I=>?_)))));refine aFm ?_;unfold Builtin.SmallTypes.ownedTupleHandOut;refine aFm (aG0 e5 (by simp) λh6 e6 J=>aG0 e6 (by simp) λO e7 K=>aFm (aJ2 (aFo ⟨_,rfl,?_⟩)));have L:∀b o,b≠e->h4.get? b=some o->O.get? b=some o:=λb o f m=>K.extBut _ _ f (J.extBut _ _ f (I.extBut _ _ f m));refine T a p O G X M ⟨⟨.ref p,e7⟩,NY.to λb o f eb=>?_⟩ (L _ _ (aGp l) N) λb o f m=>L b o f (H b o f m)
 have P:b≠e:=by
  rcases f with rfl | rfl | rfl | rfl | rfl
  ·exact aGd D.n.1
  ·exact aGd D.n.2.1
  ·exact aGd D.n.2.2.1
  ·exact aGd D.n.2.2.2.1
  ·exact aGd D.n.2.2.2.2
 exact L _ _ P (H _ _ P eb)
variable{Q:Option Value->Shared->Prop}
theorem vQ{e z TI TO:Addr}{x y:Value}(D:EnD e z TI TO q r)(Z:OB s.heap e z TI TO q r .none i)
  (h:q.Sq s.heap xs) (j:r.Sq s.heap ys) (l:xs[i]? =some x) (m:ys[i]? =some y)
  (n:∀(g:Heap) (p:Addr) (h' :Heap),s.heap.objs.size<=p->g.get? p=some {cls:= .type "tuple",data:= .seq #[x,y]}->(∀(c:Addr) (o:Obj),c≠z->c≠TO->c≠q.it->c≠r.it->s.heap.get? c=some o->g.get? c=some o)->
   OB h' e z TI TO q r (rawInt g.objs.size) (i+1)->h'.get? g.objs.size=some {cls:= .type "tuple",data:= .seq #[.int i s.toks,.ref p]}->
   (∀(b:Addr) (o:Obj),b≠e->g.get? b=some o->h'.get? b=some o)->Q (some (.ref g.objs.size)) {s with heap:=h',toks:=s.toks+1}):wpAny (model prog w) A (pyNext (.ref e)) Q E s:=by
 have k:s.TypeIs (.ref e) "enumerate":=by obtain⟨old,he⟩:=Z.obj;exact⟨_,he,rfl⟩
 unfold pyNext
 exact aFm (aH0 (aG3 (name:=Str.ofString "__next__") k aGl (aG1 aGl k aHv
  (NI D Z h j l m λg p h' a b c d e f=>aFo (n g p h' a b c d e f)) (aHr _))))
theorem yP{e z TI TO:Addr}(h:A.handled=none)(D:EnD e z TI TO q r)(Z:OB s.heap e z TI TO q r .none i)
  (a:q.Sq s.heap xs) (j:xs[i]? =none)
  (k:∀h',(∀c o,c≠z->c≠q.it->s.heap.get? c=some o->h'.get? c=some o)->Q none {s with heap:=h'}):wpAny (model prog w) A (pyNext (.ref e)) Q E s:=by
 obtain⟨old,he⟩:=Z.obj
 have g:s.TypeIs (.ref e) "enumerate":=⟨_,he,rfl⟩
 unfold pyNext;refine aFm (aH0 (aG3 (name:=Str.ofString "__next__") g aGl (aG1 aGl g aHv ?_ (aHr _))));show wpAny _ _ (field (.ref e) 2 >>=_) _ _ _;refine aFm (aG7 he rfl (x:= .ref z) rfl (aFm (D2 h D.D Z.at_ a j λh' x d f =>?_)));obtain⟨o,ho,l⟩:=f;exact aFm (aHp (T:= "StopIteration") (b:=true) ⟨o,ho,l⟩ aJe (aFo (k _ d)))
theorem YA{elts:List Expr}{x1}{pos:Pos}{e z TI TO T:Addr}{Q:Unit->Shared->Prop}(D:EnD e z TI TO q r)(Z:OB s.heap e z TI TO q r (rawInt T) i)
  (d:∀h',OB h' e z TI TO q r .none i->Heap.SameBut e s.heap h' ->Q () {s with heap:=h'}):wpAny (model prog w) A (letOwnedTupleGo (.Tuple elts x1 pos) (.ref e) (.ref T)) Q E s:=by
 obtain⟨⟨old,he⟩,hz⟩:=Z;refine wpAny_letOwnedTupleGo_enum he λh' a c=>d h' ⟨⟨old,a⟩,hz.to λb o f g=>c.extBut _ _ ?_ g⟩ c;rcases f with rfl | rfl | rfl | rfl | rfl
 ·exact aGd D.n.1
 ·exact aGd D.n.2.1
 ·exact aGd D.n.2.2.1
 ·exact aGd D.n.2.2.2.1
 ·exact aGd D.n.2.2.2.2
theorem BN{e z TI TO:Addr}{f0:Value}{Q:aJo}(Z:OB s.heap e z TI TO q r f0 i)(h:Q (.ref e) s):wpAny (model prog w) A (pyIter (.ref e)) Q E s:=by
 have a:s.TypeIs (.ref e) "enumerate":=by obtain⟨old,he⟩:=Z.obj;exact⟨_,he,rfl⟩
 refine aHc a aHz (aG1 aHz a F.entry_enumerate_iter ?_ (F.args_enumerate_iter_1 _));exact aFo ⟨_,rfl,"enumerate",_,a,aGl.lookup,h⟩
end
theorem HJ(z TI TO:Addr)(q r:Src):Meets (Builtin.«enumerate.__new__» ⟨[.type "enumerate",.ref z],[]⟩) (λ_ R s=>qY s.heap z TI TO q r 0/\
   ∀h' e,s.heap.objs.size<=e->OB h' e z TI TO q r .none 0->(∀b o,s.heap.get? b=some o->h'.get? b=some o)->R (.ok (.ret (.ref e))) {s with heap:=h'}):=
 .of_wp λprog w A R s h=>by
  obtain⟨hz,l⟩:=h;obtain⟨i,g,d,tk,os⟩:=s;have k:=sub_enumerate;have j:Shared.TypeIs ⟨i,g,d,tk,os⟩ (.ref z) "zip":=by obtain⟨f0,f1,_,e⟩:=hz.obj;exact⟨_,e,rfl⟩
  have a:∀(A:Around) (E:aJo) (Q:aJo),Q (.ref z) ⟨i,g,d,tk,os⟩->wpAny (model prog w) A (pyIter (.ref z)) Q E ⟨i,g,d,tk,os⟩:=λA E Q h=>
   aHc j aJ6 (aG1 aJ6 j F.entry_zip_iter (aFo ⟨_,rfl,"zip",_,j,aH2.lookup,h⟩) (F.args_zip_iter_1 _))
  have f:R (.ok (.ret (.ref i.objs.size))) ⟨i.push {cls:= .type "enumerate",data:= .fields #[.none,.bool false,.ref z,rawInt 0,.none,.none]},g,d,tk,os⟩:=
   l _ _ (aFq _) ⟨⟨.none,aFs _ rfl⟩,hz.to λb o _ e=>aFn _ e⟩ λb o e=>aFn _ e
  unfold Builtin.«enumerate.__new__»
  wp_walk
  refine wpAny_stack_any λst=>aFo ?_;split
  ·rename_i c _ _ _ _ _;cases (c==Value.type "enumerate")
   ·wp_walk using a
    exact⟨_,rfl,f⟩
   ·wp_walk using a
    exact⟨_,rfl,f⟩
  ·wp_walk using a
   exact⟨_,rfl,f⟩
theorem NT{prog:Program}{w:World}{A:Around}{E:aJo}{s:Shared}{z TI TO:Addr}{Q:aJo}(hz:qY s.heap z TI TO q r 0)
  (h:∀h' e,s.heap.objs.size<=e->OB h' e z TI TO q r .none 0->(∀b o,s.heap.get? b=some o->h'.get? b=some o)->Q (.ref e) {s with heap:=h'}):
  wpAny (model prog w) A (call (.type "enumerate") [Value.ref z]) Q E s:=
 callType_new F.called_enumerate (by decide) (F.typeCall_enumerate_1 _) (F.newCall_enumerate_1 _) (λobj=>F.args_object_init_2 obj _) F.entry_enumerate_new (HJ z TI TO q r)
  ⟨hz,λh' e t Z k=>⟨by obtain⟨old,he⟩:=Z.obj;exact⟨_,he,rfl⟩,h h' e t Z k⟩⟩
def Y8(K:aJn)(a b:Addr)(f tb:Bool):It where
 go:=λi H=>∃xs c d e,rQ K H f a xs/\rQ K H tb b c/\xs[i]? =some d/\c[i]? =some e
 OL:=λi H x H' =>∃p t d e,H p=none/\upd H p (.tup [d,e]) t=none/\x= .ref t/\H' =upd (upd H p (.tup [d,e])) t (.tup [.int i,.ref p])/\
  (∀xs,rQ K H f a xs->xs[i]? =some d)/\∀c,rQ K H tb b c->c[i]? =some e
 stop:=λi H=>∃xs c,rQ K H f a xs/\rQ K H tb b c/\xs.length<=i/\c.length=xs.length
theorem JM{P:Program}{w:World}{K:aJn}{elts:List Expr}{x1}{pos:Pos}{e z TI TO:Addr}(D:EnD e z TI TO q r):
  Turn P w K (.Tuple elts x1 pos) (Y8 K q.l r.l q.tup r.tup) [e,z,TI,TO,q.it,r.it] e (λi h=>OB h e z TI TO q r .none i) where
 mem:=aFr
 self:=λA i s Q E Z h=>BN Z h
 obj:=λi h Z b a=>by
  simp only[List.mem_cons,List.not_mem_nil,or_false]at a;rcases a with rfl | rfl | rfl | rfl | rfl | rfl
  ·obtain⟨old,he⟩:=Z.obj;exact⟨_,he,λv z=>by cases z⟩
  ·obtain⟨f0,f1,_,e⟩:=Z.at_.obj;exact⟨_,e,λv z=>by cases z⟩
  ·obtain⟨n,e⟩:=Z.at_.aN;exact⟨_,e,λv z=>by cases z⟩
  ·obtain⟨x,y,n,e⟩:=Z.at_.own;exact⟨_,e,λv z=>by cases z⟩
  ·obtain⟨o,ho,hd⟩:=Z.at_.NY.obj;exact⟨o,ho,λv z=>by rw[hd]at z;cases z⟩
  ·obtain⟨o,ho,hd⟩:=Z.at_.at2.obj;exact⟨o,ho,λv z=>by rw[hd]at z;cases z⟩
 keep:=λi h h' Z k=>by
  obtain⟨⟨old,he⟩,NY⟩:=Z;refine⟨⟨old,k e (by simp) _ he⟩,NY.to λb o a eb=>k b ?_ o eb⟩;rcases a with rfl | rfl | rfl | rfl | rfl <;> simp
 item:=by
  intro X F G J hc i pins s σ H E I g Z hg;subst F G J;obtain⟨xs,ys,j,m,C,L,hi,hj⟩:=hg;obtain⟨aN,rv,M⟩:=I.JB C;obtain⟨u,hu,ru⟩:=rv.get hi;obtain⟨jts,N,O⟩:=I.JB L;obtain⟨u',R,S⟩:=N.get hj;refine vQ D Z (M q.it) (O r.it) (by simpa using hu) (by simpa using R) λc p h' T U k1 Z1 t2 k2=>?_;refine⟨_,rfl,YA (s:={s with heap:=h',toks:=s.toks+1}) D Z1 λV Z2 d=>?_⟩
  replace d:Heap.SameBut e h' V:=d
  have t:∀b∈[e,z,TI,TO,q.it,r.it],∃o,s.heap.get? b=some o:=λb a=>by
   simp only[List.mem_cons,List.not_mem_nil,or_false]at a;rcases a with rfl | rfl | rfl | rfl | rfl | rfl
   ·obtain⟨old,he⟩:=Z.obj;exact⟨_,he⟩
   ·obtain⟨f0,f1,_,e⟩:=Z.at_.obj;exact⟨_,e⟩
   ·obtain⟨n,e⟩:=Z.at_.aN;exact⟨_,e⟩
   ·obtain⟨x,y,n,e⟩:=Z.at_.own;exact⟨_,e⟩
   ·obtain⟨o,ho,hd⟩:=Z.at_.NY.obj;exact⟨o,ho⟩
   ·obtain⟨o,ho,hd⟩:=Z.at_.at2.obj;exact⟨o,ho⟩
  have f:∀b∈[e,z,TI,TO,q.it,r.it],b<p:=λb a=>by obtain⟨o,ho⟩:=t b a;exact aG4 (aFu ho) T
  have B:p<c.objs.size:=aFu U
  have I1:Inv X pins σ (upd H p (.tup [j,m])) {s with heap:=c}:=I.GD (t' :=s.toks) g (λb o a ho=>by
   simp only[List.mem_cons,List.not_mem_nil,or_false,not_or]at a
   exact k1 b o a.2.1 a.2.2.2.1 a.2.2.2.2.1 a.2.2.2.2.2 ho) T ⟨by have:=aGb;simp;lia,[u,u'],.cons ru (.cons S .nil),⟨_,U,rfl,0,rfl⟩,λo ho=>by rw[U]at ho;cases ho;rfl⟩
  have W:∀b∈[e,z,TI,TO,q.it,r.it],qA X pins (upd H p (.tup [j,m])) b:=λb a=>by
   obtain⟨c1,c2⟩:=g b a;exact⟨by rw[aK (Nat.ne_of_lt (f b a))];exact c1,c2⟩
  have kk:∀b o,b∉[e,z,TI,TO,q.it,r.it]->c.get? b=some o->V.get? b=some o:=λb o a ho=>by
   simp only[List.mem_cons,List.not_mem_nil,or_false,not_or]at a;exact d.extBut _ _ a.1 (k2 b o a.1 ho)
  have Y:e<c.objs.size:=aIn (f e (by simp)) B;have t3:V.get? c.objs.size=some {cls:= .type "tuple",data:= .seq #[.int i s.toks,.ref p]}:=d.extBut _ _ (aGp Y) t2;have hn2:upd H p (.tup [j,m]) c.objs.size=none:=I1.bG.fresh (aFq _);refine⟨.ref c.objs.size,upd (upd H p (.tup [j,m])) c.objs.size (.tup [.int i,.ref p]),I1.GD (t' :=s.toks+1) W kk (aFq _) ⟨by have:=aGb;simp;lia,[.int i s.toks,.ref p],.cons ⟨_,rfl⟩ (.cons rfl .nil),⟨_,t3,rfl,0,rfl⟩,λo ho=>by rw[t3]at ho;cases ho;rfl⟩,rfl,?_,Z2,λb a=>?_⟩
  ·refine⟨p,c.objs.size,j,m,I.bG.fresh T,hn2,rfl,rfl,λzs hz=>?_,λzs hz=>?_⟩
   ·rw[I.sJ hz C];exact hi
   ·rw[I.sJ hz L];exact hj
  ·rw[aK (Nat.ne_of_lt (Nat.lt_trans (f b a) B)),aK (Nat.ne_of_lt (f b a))];exact(g b a).1
 done:=by
  intro X F G J hc i pins s σ H E I g Z hg;subst F G J;obtain⟨xs,ys,C,L,hle,_⟩:=hg;obtain⟨aN,r,M⟩:=I.JB C
  refine yP (I.ok.hd hc) D Z (M q.it) ?_ λh' kp=>⟨rfl,I.DZ (t' :=s.toks) g λb o a ho=>kp b o (λz=>a (by simp[z])) (λz=>a (by simp[z])) ho⟩
  have:=r.length;rw[List.getElem?_toArray];exact aI5.mpr (by lia)
def aF7(K:aJn)(d:TA):TI:=λσ H R=>d σ H λvs c=>∃a b t u,vs=[.ref a,.ref b]/\(∃xs,rQ K c t a xs)/\(∃e,rQ K c u b e)/\R (Y8 K a b t u) c
theorem VM{X:Cx}{j g:Expr}{S:TA}{p C pos d :Pos}{elts:List Expr}{x1}{U:Pos}(hg:Gl X "enumerate")(hm:X.mg "enumerate"=none)(E :Gl X "zip")(F :X.mg "zip"=none)(ha:PA X [j,g] S)
  (V:starEach [.Call (.Name "zip" C) [j,g] [] d] X.env=(false,eval (.Call (.Name "zip" C) [j,g] [] d) X.env)::starEach [] X.env:=by rfl)
  (he:starEach [j,g] X.env=(false,eval j X.env)::starEach [g] X.env:=by rfl) (G:(backTo d (starEach [g] X.env)).any (·.1)=false:=by rfl):
  PI X (.Tuple elts x1 U) (.Call (.Name "enumerate" p) [.Call (.Name "zip" C) [j,g] [] d] [] pos) (aF7 X.K S):=by
 intro pins s σ H R I h;have hv:bootBuiltins "enumerate"=some (.type "enumerate"):=by decide+kernel
 have J :bootBuiltins "zip"=some (.type "zip"):=by decide+kernel
 refine aH9 (jE I hg hm hv (aGj ?_ V rfl));rw[V];refine aHg (aH9 (jE I E F J (aGj (bV (ha d pins s σ H _ I h) λus s1 ⟨vs,v,k,r1,q1⟩=>?_) he G)));obtain⟨a,b,t,u,rfl,⟨xs,hx⟩,⟨ys,hy⟩,hR⟩:=q1;have hu:us=[Value.ref a,.ref b]:=gZ (src:=[(a,t),(b,u)]) r1;subst hu;obtain⟨aN,_,L⟩:=k.JB hx;obtain⟨M,_,N⟩:=k.JB hy;refine xR (qs:=[⟨0,a,t⟩,⟨0,b,u⟩]) (aGs (wR (show 2<=1000 by decide))) (EV.t _ rfl) (EV.n _ rfl) (λobj=>EV.i _ obj rfl) (λq W=>?_) λh' z TI TO t1 t2 Y D Z kp=>?_
 ·simp only[List.mem_cons,List.not_mem_nil,or_false]at W;rcases W with rfl | rfl
  ·exact⟨aN.toArray,L 0⟩
  ·exact⟨M.toArray,N 0⟩
 ·have I2:Inv X pins σ v {s1 with heap:=h'}:=k.kept (t' :=s1.toks) kp;refine aIj ?_
  have l:qY h' z TI TO ⟨s1.heap.objs.size,a,t⟩ ⟨s1.heap.objs.size+1,b,u⟩ 0:=by
   refine⟨⟨.none,false,.inl rfl,Z.obj⟩,Z.aN,?_,Z.at_ _ (by simp[bH]),Z.at_ _ (by simp[bH])⟩;obtain⟨xs,n,hl,e⟩:=Z.own
   match xs,hl with
   | [x,y],_=>exact⟨x,y,n,e⟩
  refine NT (s:={s1 with heap:=h'}) l λh2 e te Z2 k2=>?_;have I3:Inv X pins σ v {s1 with heap:=h2}:=I2.kept (t' :=s1.toks) k2
  have O:∀b∈[z,TI,TO,s1.heap.objs.size,s1.heap.objs.size+1],b<e/\s1.heap.objs.size<=b:=λb A=>by
   have lt:∀c o,h'.get? c=some o->c<e:=λc o ho=>aG4 (aFu ho) te;simp only[List.mem_cons,List.not_mem_nil,or_false]at A;rcases A with rfl | rfl | rfl | rfl | rfl
   ·exact⟨lt _ _ Z.obj,Y⟩
   ·obtain⟨n,e⟩:=l.aN;exact⟨lt _ _ e,t1⟩
   ·obtain⟨x,y,n,e⟩:=l.own;exact⟨lt _ _ e,t2⟩
   ·obtain⟨o,ho,_⟩:=l.NY.obj;exact⟨lt _ _ ho,aFq _⟩
   ·obtain⟨o,ho,_⟩:=l.at2.obj;exact⟨lt _ _ ho,aJh _⟩
  have ne:∀b∈[z,TI,TO,s1.heap.objs.size,s1.heap.objs.size+1],e≠b:=λb A=>aGp (O b A).1;have m0:(⟨s1.heap.objs.size,a,t⟩:Src)∈bH s1.heap.objs.size [⟨0,a,t⟩,⟨0,b,u⟩]:=by simp[bH]
  have m1:(⟨s1.heap.objs.size+1,b,u⟩:Src)∈bH s1.heap.objs.size [⟨0,a,t⟩,⟨0,b,u⟩]:=by simp[bH]
  have Q:=D.HX _ m0;have i1:=D.HX _ m1;have B:=D.src _ m0;have f :=D.src _ m1
  have T:=JM (P:=X.prog) (w:=X.w) (K:=X.K) (elts:=elts) (x1:=x1) (pos:=U) (e:=e) (z:=z) (TI:=TI) (TO:=TO) (q:=⟨s1.heap.objs.size,a,t⟩) (r:=⟨s1.heap.objs.size+1,b,u⟩)
   ⟨⟨D.ne1,D.ne2,D.ne3,Q.1,Q.2.1,Q.2.2,i1.1,i1.2.1,i1.2.2,aFz (aGu _),⟨B.1,B.2.1,B.2.2 _ m0,B.2.2 _ m1⟩,⟨f.1,f.2.1,f.2.2 _ m0,f.2.2 _ m1⟩⟩,
    ⟨ne _ (by simp),ne _ (by simp),ne _ (by simp),ne _ (by simp),ne _ (by simp)⟩⟩
  refine BN Z2 ⟨e,_,_,Y8 X.K a b t u,v,rfl,I3,T,Z2,λc hc=>?_,hR⟩
  have m:s1.heap.objs.size<=c:=by
   rcases aFy.mp hc with rfl | hc
   ·exact aG2 Y (aGs (O z (by simp)).1)
   ·exact(O c hc).2
  exact(k.D0 m (k.bG.fresh m):qA X pins v c)
end L2
namespace D3
open PySem PySem.Spec PyProof.Rows L2
def OR(b:WA):WI:=λc mh Q=>b c mh λxs a=>∃x y ds es,xs=[x,y]/\aX a x=some ds/\aX a y=some es/\ds.length<=sizeLine/\es.length=ds.length/\Q (i4 0 (lN ds es)) (λmh' =>aX mh' x=some ds/\aX mh' y=some es) a
@[simp] theorem s_enZ (a:WA)(c:c9)(mh:MH)(P:List D->(MH->Prop)->MH->Prop):OR a c mh P=(a c mh λxs b=>∃x y ds es,xs=[x,y]/\aX b x=some ds/\aX b y=some es/\ds.length<=sizeLine/\es.length=ds.length/\P (i4 0 (lN ds es)) (λmh' =>aX mh' x=some ds/\aX mh' y=some es) b):=rfl
section
variable {X:Cx}{e1 e2:Expr}{elts:List Expr}{wa:WA}{p p' pos pos' jX:Pos}
theorem W5{x1}(hg:Gl X "enumerate")(Q:X.mg "enumerate"=none)(r :Gl X "zip")(s :X.mg "zip"=none)(S:LA X [e1,e2] wa)
  (T:starEach [.Call (.Name "zip" p') [e1,e2] [] pos'] X.env=(false,eval (.Call (.Name "zip" p') [e1,e2] [] pos') X.env)::starEach [] X.env:=by rfl)
  (he:starEach [e1,e2] X.env=(false,eval e1 X.env)::starEach [e2] X.env:=by rfl) (w:(backTo pos' (starEach [e2] X.env)).any (·.1)=false:=by rfl):
  LI X (.Tuple elts x1 jX) (.Call (.Name "enumerate" p) [.Call (.Name "zip" p') [e1,e2] [] pos'] [] pos) (OR wa):=
 PI.imp (VM hg Q r s S T he w) λσ H R h=>by
  obtain⟨μ,U,mh,f,V,En,h,F⟩:=h;refine⟨μ,U,mh,_,V,En,h,λxs A q n vs I W B Y=>?_⟩;obtain⟨x,y,ds,es,rfl,Z,h2,hz,hl,q⟩:=q;obtain⟨v,u,rfl,J,L⟩:=BR Y;obtain⟨a,xs,rfl,sa,la⟩:=jB B J Z;obtain⟨b,o,rfl,sb,lb⟩:=jB B L h2;refine⟨a,b,DU x,DU y,rfl,⟨xs,sa⟩,⟨o,sb⟩,F _ _ A q n _ I W B ?_⟩
  have g:∀μ' mh' H',dX n I μ' H' ->Rep X.K μ' mh' H' ->(aX mh' x=some ds/\aX mh' y=some es)->∃xs o,rQ X.K H' (DU x) a xs/\IsL X.K μ' H' ds xs/\rQ X.K H' (DU y) b o/\IsL X.K μ' H' es o:=λμ' mh' H' m f st=>by
   obtain⟨a',c,e1,s1,l1⟩:=jB f (Is.iA m _ _ J) st.1;obtain⟨b',e,e2,s2,l2⟩:=jB f (Is.iA m _ _ L) st.2;cases e1;cases e2;exact⟨c,e,s1,l1,s2,l2⟩
  refine⟨by rw[fE,dQ];lia,λμ' mh' H' m f st i d ed=>?_,λμ' mh' H' m f st=>?_⟩
  ·obtain⟨c,e,s1,l1,s2,l2⟩:=g μ' mh' H' m f st;obtain⟨d',g1,rfl⟩:=j3 ed;obtain⟨dx,dy,g3,g4,rfl⟩:=g5 g1;obtain⟨k,M,ix⟩:=eQ l1 g3;obtain⟨l,N,iy⟩:=eQ l2 g4;refine⟨⟨c,e,k,l,s1,s2,M,N⟩,λz H'' yl=>?_⟩;obtain⟨j,t,v1,v2,O,ht,rfl,rfl,C,D⟩:=yl;have e1:=C c s1;have e2:=D e s2;rw[M]at e1;rw[N]at e2;cases e1;cases e2;have E:aI μ' H' μ' (upd H' j (.tup [k,l])):=aI.new f O;have G:Rep X.K μ' mh' (upd H' j (.tup [k,l])):=f.new O;have P:aI μ' (upd H' j (.tup [k,l])) μ' (upd (upd H' j (.tup [k,l])) t (.tup [.int i,.ref j])):=aI.new G ht
   have ip:Is X.K μ' (upd H' j (.tup [k,l])) (.tup [dx,dy]) (.ref j):=by
    unfold Is;refine⟨j,[k,l],rfl,.of aP,?_⟩;unfold IsL;exact⟨k,[l],rfl,Is.mono f E _ _ ix,fI (Is.mono f E _ _ iy)⟩
   refine⟨E.trans P,G.new ht,?_⟩;unfold Is;refine⟨t,[.int i,.ref j],rfl,.of aP,?_⟩;unfold IsL;exact⟨.int i,[.ref j],rfl,by rw[Nat.zero_add];unfold Is;rfl,fI (Is.mono G P _ _ ip)⟩
  ·obtain⟨c,e,s1,l1,s2,l2⟩:=g μ' mh' H' m f st;rw[fE,dQ];have e1:=aW l1;have e2:=aW l2;exact⟨c,e,s1,s2,by lia,by lia⟩
end
end D3
namespace L2
open PySem PySem.Spec PyProof.Rows
end L2
namespace D3
open PySem PySem.Spec PyProof.Rows L2
end D3
namespace L2
open PySem PySem.Spec PyProof.Rows
end L2
namespace D3
open PySem PySem.Spec PyProof.Rows L2
end D3
namespace K65
open PySem PyProof.Rows L2 D3
set_option hygiene false
local macro_rules | `(tactic| specialize $t)=>`(tactic| with_reducible show $t)
local macro_rules | `(tactic| walk_at "t")=>`(tactic| repeat' first | ((specialize gA _ _ (gN _));exact sV _) | ((specialize gA _ _ _);refine' X8 ?_) | ((specialize xZ _ _ (bS _ _));refine' MX ?_ ?_) | ((specialize xZ _ _ _);exact SD) | exact IA (by decide) | exact DW | refine' MY ?_ | refine' IB ?_ ?_ ?_ ?_ | exact MZ | refine' gmono_tup ?_ | refine' DX ?_ ?_ | exact IC | exact NA (by decide) (by decide) | refine' gin_tup ?_ | refine' gin_cons ?_ ?_ ?_ ?_ | exact gin_nil)
local macro_rules | `(tactic| walk_at "g")=>`(tactic| first | ((specialize List.Nodup _);assumption) | ((with_reducible show LE _ _ _);first | ((specialize LE (aG _ _ _ _ _ _ _ _ _) _ (sH _ _ _ _ _ _));refine' XE _ _ ?a ?b ?r ?s ?_ ?_ ?_ ?_;(case a | b=>decide+kernel);(case r | s=>walk_at "t")) | ((specialize LE _ _ (sH _ _ _ _ _ _));refine' XD _ _ ?a ?b ?r ?s ?_ ?_ ?_ ?_;(case a | b=>decide+kernel);(case r | s=>walk_at "t")) | ((specialize LE _ _ (OE _ _ _ _ _ _ _));refine' XG _ _ ?a ?b ?r ?s ?_ ?_ ?_ ?_ ?_;(case a | b=>decide+kernel);(case r | s=>walk_at "t")) | ((specialize LE _ _ (JF _ _ _ _ _ _ _ _ _));refine' RO (o1:=2) _ _ ?a ?b ?r ?s (by decide) ?t ?e ?_ ?_ ?_ ?_ ?_ ?_ ?_;(case a | b=>decide+kernel);(case r | s | t | e=>walk_at "t")) | ((specialize LE _ (.Name _ _) (aA _));exact W7 _) | ((specialize LE _ (.Constant (.int _) _ _) _);exact le_int) | ((specialize LE _ (.BinOp _ _ _ _) _);refine' aBd ?_ ?_ ?_) | ((specialize LE _ _ (bD iL _ _));refine' FY ixl ?_ ?_ (λ_ _=>rfl)) | ((specialize LE _ (.Call (.Name "len" _) _ _ _) (aH fG _));refine' yY YN B.len NV ?_) | ((specialize LE _ (.Tuple _ _ _) _);refine' W8 ?_) | ((specialize LE _ (.List _ _) _);refine' XC ?_) | ((specialize LE _ _ (bD oK _ _));refine' FY (ixF hr.units) ?_ ?_ (λ_ _=>rfl)) | ((specialize LE _ (.Constant (.bool _) _ _) _);exact aBj) | ((specialize LE _ (.Constant .none _ _) _);exact XB) | ((specialize LE _ _ (OD _ dG _ _));refine' aBi PySem.F.plainAttrs_list PySem.F.slot_list_append PySem.F.type_list_append HI ?_ ?_) | ((specialize LE _ _ (bD yK _ _));refine' FY (ixD hr.units) ?_ ?_ (λ_ _=>rfl)) | ((specialize LE _ (.Compare _ [_] [_] _) _);refine' LZ ?_ ?_ ?_ (aB4 _)) | ((specialize LE _ (.Call (.Name "isinstance" _) _ _ _) (aH vB _));refine' yY YO B.isinstance vZ ?_) | ((specialize LE _ (.Call (.Name "tuple" _) _ _ _) (aH m6 _));refine' RN NO B.tuple u6 ?_) | ((specialize LE _ (.UnaryOp .USub _ _) _);refine' aBc ?_ ?_) | ((specialize LE _ (.Compare _ [_] [_] _) _);refine' LZ ?_ ?_ ?_ (by rfl)) | ((specialize LE _ (.Call (.Name "any" _) _ _ _) (aH EJ _));refine' yY (YQ rfl) B.any YX ?_) | ((specialize LE _ (.BoolOp _ [_] _) _);refine' W9 ?_) | ((specialize LE _ (.BoolOp .And (_::_::_) _) _);refine' XH ?_ ?_) | ((specialize LE _ (.Call (.Name "all" _) _ _ _) (aH EK _));refine' yY (YR rfl) B.all YY ?_) | ((specialize LE _ (.Constant (.str _) _ _) _);exact le_str) | ((specialize LE _ (.Name "tuple" _) (wC _));exact LV B.tuple u6) | ((specialize LE _ _ (vI false));exact RS) | ((specialize LE _ _ (ZP ZF _ _ _));refine' LX sll ?_ ?_ ?_) | ((specialize LE _ _ (bD Q0 _ _));refine' FY (ixU hr.units) ?_ ?_ (λ_ _=>rfl)) | ((specialize LE _ (.Call (.Name "min" _) _ _ _) (aH xY _));refine' yY (SU rfl) B.min YV ?_) | ((specialize LE _ _ (AQ _ _ _));refine' RP ?_ ?_ ?_) | ((specialize LE _ (.Call (.Name "sorted" _) _ _ _) (aH vA _));refine' yY (EA hr.units rfl) B.sorted nL ?_) | ((specialize LE _ _ (sG _));refine' HQ rfl B.set B.len ?_) | ((specialize LE _ (.Call (.Name "dict" _) _ _ _) (aH EI _));refine' RN NQ B.dict SY ?_) | ((specialize LE _ (.Call (.Name "list" _) _ _ _) (aH EH _));refine' RN (NP rfl) B.list GP ?_) | ((specialize LE _ _ (E7 _));refine' RT hr.units ?_) | ((specialize LE _ (.Call (.Name "tuple" _) _ _ _) (aH AA _));refine' RN (IS rfl) B.tuple u6 ?_) | ((specialize LE _ _ (vI true));exact RQ) | ((specialize LE _ (.Call (.Name "sorted" _) _ _ _) (aH u9 _));refine' yY (D9 hr.units) B.sorted nL ?_) | ((specialize LE _ _ (x5 _ _ _));refine' LY nu hr.units ?_ ?_ ?_) | ((specialize LE _ (.Call (.Name "sorted" _) _ _ _) (aH AB _));refine' yY (IT hr.units) B.sorted nL ?_) | ((specialize LE _ (.Call (.Name "abs" _) _ _ _) (aH N6 _));refine' yY YS B.abs YZ ?_) | ((specialize LE _ (.Name "int" _) (wC _));exact LV B.int YW) | ((specialize LE _ (.Name "bool" _) (wC _));exact LV B.bool S0) | ((specialize LE _ (.UnaryOp .Not _ _) _);refine' XA ?_) | ((specialize LE _ _ (kL _));refine' yX hr.units rfl B.set B.sorted ?_) | ((specialize LE _ _ (pB _));refine' DM rfl B.list B.range ?_) | ((specialize LE _ (.Call (.Name _ _) _ _ _) (aH _ _));refine' aBg (by assumption) hr ?_)) | ((with_reducible show LS _ _ _);first | ((specialize LS _ _ (oG));exact LP) | ((specialize LS _ _ (OQ _));refine' WV ?_) | ((specialize LS _ (.Assign [.Name _ _] (.ListComp _ _ _ _) _) _);refine' HL _ _ ?a ?b ?r ?s (by assumption) ?_ ?_ ?_ ?_;(case a | b=>decide+kernel);(case r | s=>walk_at "t")) | ((specialize LS _ (.Assign [.Name _ _] (.DictComp _ _ _ _ _) _) _);refine' HM _ _ ?a ?b ?r ?s (by assumption) ?_ ?_ ?_ ?_ ?_;(case a | b=>decide+kernel);(case r | s=>walk_at "t")) | ((specialize LS _ (.Assign [.Name _ _] (.ListComp _ _ _ _) _) _);refine' RE _ ?_ ?_) | ((specialize LS _ (.Return (some _) _) _);refine' WW ?_) | ((specialize LS _ (.If _ _ _ _) _);refine' aB7 ?_ ?_ ?_) | ((specialize LS _ (.For _ _ _ _ _) _);refine' W0 PassesOwn.never rfl ?_ ?_ ?r ?_;(case r=>walk_at "t")) | ((specialize LS _ (.Expr _ _) _);refine' aEz ?_) | ((specialize LS _ (.While _ _ _ _) _);refine' LM PassesOwn.never ?_ ?_) | ((specialize LS _ (.Delete _ _) _);refine' RH ?_ ?_) | ((specialize LS _ (.Assign [.Tuple _ _ _] (.Tuple _ _ _) _) _);refine' WX _ _ rfl (by assumption) ?_) | ((specialize LS _ (.Assign [.Name _ _] _ _) _);refine' aEy _ ?_ ?_) | ((specialize LS _ (.Assign [.Subscript _ _ _] _ _) _);refine' RD ?_ ?_ ?_) | ((specialize LS _ (.Assign [.Subscript _ _ _] _ _) _);refine' RF hr.units ?_ ?_ ?_) | ((specialize LS _ (.Assign [.Tuple _ _ _] _ _) _);refine' W3 ?_ ?_ ?r;(case r=>walk_at "t"))) | ((with_reducible show LA _ _ _);first | ((specialize LA _ (_::_) _);refine' aF3 ?_ ?_) | ((specialize LA _ [] _);exact XN)) | ((with_reducible show LI _ _ _ _);first | ((specialize LI _ _ _ (mD _));refine' W6 ?_) | ((specialize LI _ _ _ (pA _));refine' HP rfl B.range ?_) | ((specialize LI _ _ _ (tD _));refine' RL rfl B.zip ?_) | ((specialize LI _ _ _ (ZC _));refine' aBb rfl B.enumerate ?_) | ((specialize LI _ _ _ (OR _));refine' W5 rfl B.enumerate rfl B.zip ?_) | ((specialize LI _ _ _ (E4 _));refine' HN rfl B.range ?_) | ((specialize LI _ _ _ (dH _));refine' W4 ?_)) | ((with_reducible show PG _ _ _);first | ((specialize PG _ (.Name _ _) _);exact OZ _ (by assumption)) | ((specialize PG _ (.Tuple _ _ _) _);refine' VN rfl ?_)) | ((with_reducible show Y7 _ _ _);first | ((specialize Y7 _ (_::_) _);refine' KU ?_ ?_) | ((specialize Y7 _ [] _);exact QH)) | ((with_reducible show dP _ _ _);first | ((specialize dP _ _ (bE _ iN));exact WC) | ((specialize dP _ _ (bE _ CS));exact aAu hr.units) | ((specialize dP _ _ (bE _ tZ));exact V8) | ((specialize dP _ _ (bE _ Q1));exact aAy hr.units) | ((specialize dP _ _ (bE _ oMod));exact V9) | ((specialize dP _ _ (bE _ T9));exact aAx hr.units) | ((specialize dP _ _ (bE _ oEq));exact aAz hr.units) | ((specialize dP _ _ (bE _ oLt));exact aAv hr.units) | ((specialize dP _ _ (bE _ oLe));exact aAw hr.units) | ((specialize dP _ _ (bE _ rG));exact QX) | ((specialize dP _ _ (bE _ HF));exact WB hr.units) | ((specialize dP _ _ (bE _ K3));exact V7) | ((specialize dP _ _ (bE _ tY));exact K2 hr.units) | ((specialize dP _ _ (bE _ FT));exact QY) | ((specialize dP _ _ (bE _ sP));exact HC hr.units) | ((specialize dP _ _ (bE _ WD));exact V6)) | ((with_reducible show LT _ _ _);first | ((specialize LT _ (.Compare _ [_] [_] _) _);refine' LH ?_ ?_ ?_ (aB4 _)) | ((specialize LT _ (.UnaryOp .Not _ _) _);refine' WR ?_) | ((specialize LT _ (.Compare _ [_] [_] _) _);refine' LH ?_ ?_ ?_ (by rfl)) | ((specialize LT _ (.BoolOp .And _ _) _);refine' LW.lt (LF ?_ ?_)) | ((specialize LT _ (.BoolOp .Or _ _) _);refine' LW.lt (UB ?_ ?_)) | ((specialize LT _ _ (EY _));refine' RC ?_) | ((specialize LT _ (.Compare _ [_,_] _ _) _);refine' LJ ?_ ?_ ?_ ?_ ?_) | ((specialize LT _ _ _);refine' LG ?_)) | ((with_reducible show lR _ _ _);first | ((specialize lR _ [_] _);refine' WY ?_) | ((specialize lR _ [] _);exact WZ) | ((specialize lR _ (_::_) _);refine' RI ?_ ?_)) | ((with_reducible show AG _ _ _);first | ((specialize AG _ [] _);exact RB) | ((specialize AG _ [_] _);refine' RA ?_)) | ((specialize ZK _ _ _);exact UO) | ((with_reducible show LW _ _ _);first | ((specialize LW _ (.BoolOp .And [_] _) _);refine' Q9 ?_) | ((specialize LW _ (.BoolOp .Or [_] _) _);refine' WQ ?_) | ((specialize LW _ (.BoolOp .And _ _) _);refine' LF ?_ ?_) | ((specialize LW _ (.BoolOp .Or _ _) _);refine' UB ?_ ?_)) | ((with_reducible show LO _ _ _);first | ((specialize LO _ (some _) _);refine' RJ ?_) | ((specialize LO _ none _);exact RK)) | (with_reducible intro _))
set_option hygiene true
section
variable {P:Program}{w:World}{K:aJn}{mg:aJq}{base:Heap}{k:Nat}
theorem rC:bC ["above","below","columns","column","wires","wire"] ["above","below"] (aE fO):=⟨rfl,rfl,rfl,by decide+kernel,rfl,by decide+kernel,by decide+kernel⟩
def i7:WS:=(fY (cL (bD CS (aA 5) (wC (.int 0)))) (mC (OD "list" dG (AQ (aA 2) (aA 5) (nM aJ)) (aB (aA 3) aJ))) cU)
def nO:WS:=(i9 (dH (aA 4)) (gN 5) (i7))
def oW:WS:=(dA (OE ["wire"] [2] (dH (aH vA (aB (aA 2) aJ))) (gN 0) (cL (bD Q1 (sG (bD yK (aA 1) (aA 0))) (wC (.int 1)))) (aA 0) (lO (aB (bD iL (bD yK (aA 1) (aA 0)) (wC (.int 0))) (aB (bD iL (bD yK (aA 1) (aA 0)) (ZA HE (wC (.int 1)))) aJ)))))
def oX:WS:=(aV (i9 (OR (aB (aA 0) (aB (aA 1) aJ))) (gT 2 (bS (gN 3) (bS (gN 4) iX))) (nO)) (oW))
def kA:WS:=(aV (bJ (vI false) (gN 2)) (oX))
theorem DO(B:Bl mg):vF P w K mg base k "spans_of" ["above","below","columns","column","wires","wire"] fO (kA):=by
 intro f cdv A outer s H E hr;have nd:=rC.nd;show lR _ (_::_) _
 repeat' walk_at "g"
theorem pI:bC ["above","below","spans","uppers","high","low"] ["above","below","spans"] (aE eM):=⟨rfl,rfl,rfl,by decide+kernel,rfl,by decide+kernel,by decide+kernel⟩
def lW:WS:=(fY (lD (cL (bD HF (aA 4) (aA 2))) (lD (cL (bD HF (aA 5) (aA 2))) (lD (cL (bD CS (aA 4) (aA 5))) (cL (bD tY (aA 4) (bD yK (aA 3) (aA 5))))))) (mC (OD "list" dG (bD yK (aA 3) (aA 5)) (aB (aA 4) aJ))) cU)
def nP:WS:=(dA (aA 3))
def nQ:WS:=(aV (i9 (tD (aB (aA 0) (aB (aA 1) aJ))) (gT 2 (bS (gN 4) (bS (gN 5) iX))) (lW)) (nP))
def iQ:WS:=(aV (bJ (OE ["wire"] [] (mD (aA 2)) (gN 0) iM (aA 0) (nM aJ)) (gN 3)) (nQ))
theorem BI(B:Bl mg):vF P w K mg base k "orders_of" ["above","below","spans","uppers","high","low"] eM (iQ):=by
 intro f cdv A outer s H E hr;have nd:=pI.nd;show lR _ (_::_) _
 repeat' walk_at "g"
theorem tR:bC ["uppers","left","free","wire","walk","ring"] ["uppers"] (aE hV):=⟨rfl,rfl,rfl,by decide+kernel,rfl,by decide+kernel,by decide+kernel⟩
def oY:WS:=(E8 (aA 1) (aA 3))
def lS:WS:=(i9 (dH (aA 2)) (gN 3) (oY))
def kB:WS:=(aV (OQ (bJ (sH ["wire"] [1] (mD (aA 1)) (gN 0) (lC (mB (aH EJ (aB (sH ["upper"] [1] (dH (bD oK (aA 1) (aA 0))) (gN 0) iM (bD HF (aA 0) (aA 1))) aJ)))) (aA 0)) (gN 2))) (lS))
def AJ:WS:=(aV oG oG)
def AK:WS:=(aV oG (AJ))
def AL:WS:=(aV oG (AK))
def lT:WS:=(aV (fY (lC (EY (aA 1))) (dA (wC .bU)) cU) (AL))
def AM:WS:=(aV (oF (mB (aA 2)) (kB)) (lT))
def qZ:WS:=(aV (bJ (aH EH (aB (aA 1) aJ)) (gN 2)) (AM))
def m8:WS:=(aV (bJ (aH EI (aB (aA 0) aJ)) (gN 1)) (qZ))
theorem HS(B:Bl mg):vF P w K mg base k "ring_in" ["uppers","left","free","wire","walk","ring"] hV (m8):=by
 intro f cdv A outer s H E hr;have nd:=tR.nd;show lR _ (_::_) _
 repeat' walk_at "g"
theorem FI:bC ["one","other"] ["one","other"] (aE pG):=⟨rfl,rfl,rfl,by decide+kernel,rfl,by decide+kernel,by decide+kernel⟩
def x3:WS:=(dA (wJ (bD oLe (bD iL (aA 0) (wC (.int 0))) (bD iL (aA 1) (wC (.int 1)))) (bD oLe (bD iL (aA 1) (wC (.int 0))) (bD iL (aA 0) (wC (.int 1))))))
theorem XO(B:Bl mg):vF P w K mg base k "meet" ["one","other"] pG (x3):=by
 intro f cdv A outer s H E hr;have nd:=FI.nd;show lR _ (_::_) _
 repeat' walk_at "g"
theorem rD:bC ["spans","wires","told","wire","more"] ["spans","wires"] (aE fP):=⟨rfl,rfl,rfl,by decide+kernel,rfl,by decide+kernel,by decide+kernel⟩
def kZ(a:OA):WS:=(bJ (bD iN (aA 2) (aA 4)) (gN 2))
def nR(a:OA):WS:=(aV (bJ (sH ["own"] [3,0] (dH (aA 2)) (gN 0) (lC (mB (aH EJ (aB (sH ["other"] [2,1] (dH (aA 0)) (gN 0) iM (aH a (aB (bD oK (aA 1) (aA 2)) (aB (bD oK (aA 1) (aA 0)) aJ)))) aJ)))) (bD iN (aA 0) (lO (aB (aA 1) aJ)))) (gN 4)) (kZ a))
def oZ(a:OA):WS:=(dA (ZP ZF (aA 2) (AO (wC (.int 1))) wNo))
def o3(a:OA):WS:=(aV (i9 (dH (aA 1)) (gN 3) (nR a)) (oZ a))
def kG(a:OA):WS:=(aV (bJ (nM (aB (lO aJ) aJ)) (gN 2)) (o3 a))
variable{s0:OA}
theorem DP(B:Bl mg)(zH:Fn P w K mg base k "meet" ["one","other"] s0):vF P w K mg base k "fillings" ["spans","wires","told","wire","more"] fP (kG s0):=by
 intro f cdv A outer s H E hr;have nd:=rD.nd;show lR _ (_::_) _
 repeat' walk_at "g"
theorem nZ:bC ["uppers","laid"] ["uppers","laid"] (aE dU):=⟨rfl,rfl,rfl,by decide+kernel,rfl,by decide+kernel,by decide+kernel⟩
def gR:WS:=(dA (sH ["wire"] [1,0] (mD (aA 0)) (gN 0) (lD (cL (bD tY (aA 0) (aA 1))) (mB (aH EK (aB (sH ["upper"] [1] (dH (bD oK (aA 2) (aA 0))) (gN 0) iM (bD T9 (aA 0) (aA 1))) aJ)))) (aA 0)))
theorem y3(B:Bl mg):vF P w K mg base k "free_wires" ["uppers","laid"] dU (gR):=by
 intro f cdv A outer s H E hr;have nd:=nZ.nd;show lR _ (_::_) _
 repeat' walk_at "g"
theorem jZ:bC ["spans","uppers","rows","every","longer","laid","filling"] ["spans","uppers"] (aE cO):=⟨rfl,rfl,rfl,by decide+kernel,rfl,by decide+kernel,by decide+kernel⟩
def g7(s0 s1:OA):WS:=(mC (x5 (aA 4) (aH m6 (aB (aH u9 (aB (bD iN (aA 5) (aA 6)) aJ)) aJ)) (bD iN (bD Q0 (aA 2) (aA 5)) (nM (aB (aA 6) aJ)))))
def hC(s0 s1:OA):WS:=(i9 (dH (aH s0 (aB (aA 0) (aB (aH s1 (aB (aA 1) (aB (aA 5) aJ))) aJ)))) (gN 6) (g7 s0 s1))
def fJ(s0 s1:OA):WS:=(bJ (aA 4) (gN 2))
def fK(s0 s1:OA):WS:=(aV (i9 (mD (aA 2)) (gN 5) (hC s0 s1)) (fJ s0 s1))
def d7(s0 s1:OA):WS:=(aV (bJ (vI true) (gN 4)) (fK s0 s1))
def eG(s0 s1:OA):WS:=(dA (bD Q0 (aA 2) (aA 3)))
def o4(s0 s1:OA):WS:=(aV (oF (cL (bD sP (aA 3) (aA 2))) (d7 s0 s1)) (eG s0 s1))
def iR(s0 s1:OA):WS:=(aV (bJ (aH AA (aB (aA 0) aJ)) (gN 3)) (o4 s0 s1))
def dY(s0 s1:OA):WS:=(aV (bJ (E7 (nM aJ)) (gN 2)) (iR s0 s1))
variable{s1:OA}
theorem rV(B:Bl mg)(uN:Fn P w K mg base k "fillings" ["spans","wires"] s0)(pU:Fn P w K mg base k "free_wires" ["uppers","laid"] s1)(nu:NoU K):vF P w K mg base k "fewest_tracks" ["spans","uppers","rows","every","longer","laid","filling"] cO (dY s0 s1):=by
 intro f cdv A outer s H E hr;have nd:=jZ.nd;show lR _ (_::_) _
 repeat' walk_at "g"
theorem lE:bC ["spans","many","wide","column"] ["spans","many","wide"] (aE cV):=⟨rfl,rfl,rfl,by decide+kernel,rfl,by decide+kernel,by decide+kernel⟩
def iP(s0:OA):WS:=(fY (cL (bD oEq (aH fG (aB (sH ["wire"] [0,3] (mD (aA 0)) (gN 0) (mB (aH s0 (aB (bD oK (aA 1) (aA 0)) (aB (lO (aB (aA 2) (aB (aA 2) aJ))) aJ)))) (aA 0)) aJ)) (aA 1))) (dA (aA 3)) cU)
def jJ(s0:OA):WS:=(dA (wC .bU))
def eE(s0:OA):WS:=(aV (i9 (pA (aB (aA 2) aJ)) (gN 3) (iP s0)) (jJ s0))
theorem uA(B:Bl mg)(zH:Fn P w K mg base k "meet" ["one","other"] s0):vF P w K mg base k "thick_column" ["spans","many","wide","column"] cV (eE s0):=by
 intro f cdv A outer s H E hr;have nd:=lE.nd;show lR _ (_::_) _
 repeat' walk_at "g"
theorem rE:bC ["uppers","wire","many","upper","ahead"] ["uppers","wire","many"] (aE fQ):=⟨rfl,rfl,rfl,by decide+kernel,rfl,by decide+kernel,by decide+kernel⟩
def fX(s0:OA):WS:=(fY (cL (bD rG (aA 4) (wC .bU))) (dA (bD iN (aA 4) (lO (aB (aA 1) aJ)))) cU)
def nS(s0:OA):WS:=(aV (bJ (aH s0 (aB (aA 0) (aB (aA 3) (aB (bD WD (aA 2) (wC (.int 1))) aJ)))) (gN 4)) (fX s0))
def o5(s0:OA):WS:=(dA (wC .bU))
def o6(s0:OA):WS:=(aV (i9 (dH (bD oK (aA 0) (aA 1))) (gN 3) (nS s0)) (o5 s0))
def kH(s0:OA):WS:=(aV (fY (cL (bD oEq (aA 2) (wC (.int 1)))) (dA (lO (aB (aA 1) aJ))) cU) (o6 s0))
theorem DQ(B:Bl mg)(kT:Fn P w K mg base k "chain_to" ["uppers","wire","many"] s0):vF P w K mg base k "chain_to" ["uppers","wire","many","upper","ahead"] fQ (kH s0):=by
 intro f cdv A outer s H E hr;have nd:=rE.nd;show lR _ (_::_) _
 repeat' walk_at "g"
theorem nY:bC ["spans","uppers","many","wide","column","wire","chain"] ["spans","uppers","many","wide"] (aE dS):=⟨rfl,rfl,rfl,by decide+kernel,rfl,by decide+kernel,by decide+kernel⟩
def eF(s0 s1:OA):WS:=(fY (cL (bD rG (aA 6) (wC .bU))) (dA (lO (aB (wC (.str "chain")) (aB (aA 6) aJ)))) cU)
def kY(s0 s1:OA):WS:=(aV (bJ (aH s1 (aB (aA 1) (aB (aA 5) (aB (aA 2) aJ)))) (gN 6)) (eF s0 s1))
def lU(s0 s1:OA):WS:=(dA (lO (aB (wC (.str "all")) aJ)))
def lV(s0 s1:OA):WS:=(aV (i9 (mD (aA 1)) (gN 5) (kY s0 s1)) (lU s0 s1))
def g6(s0 s1:OA):WS:=(aV (fY (cL (bD rG (aA 4) (wC .bU))) (dA (lO (aB (wC (.str "thick")) (aB (aA 4) aJ)))) cU) (lV s0 s1))
def gQ(s0 s1:OA):WS:=(aV (bJ (aH s0 (aB (aA 0) (aB (aA 2) (aB (aA 3) aJ)))) (gN 4)) (g6 s0 s1))
theorem yZ(B:Bl mg)(mW:Fn P w K mg base k "thick_column" ["spans","many","wide"] s0)(kT:Fn P w K mg base k "chain_to" ["uppers","wire","many"] s1):vF P w K mg base k "reason_for" ["spans","uppers","many","wide","column","wire","chain"] dS (gQ s0 s1):=by
 intro f cdv A outer s H E hr;have nd:=nY.nd;show lR _ (_::_) _
 repeat' walk_at "g"
theorem A0:bC ["above","below","spans","uppers","ring","rows","tracks"] ["above","below"] (aE mJ):=⟨rfl,rfl,rfl,by decide+kernel,rfl,by decide+kernel,by decide+kernel⟩
def wA(s0 s1 s2 b a:OA):WS:=(dA (lO (aB (aH fG (aB (aA 5) aJ)) (aB (aH m6 (aB (aA 6) aJ)) (aB (aH a (aB (aA 2) (aB (aA 3) (aB (aH fG (aB (aA 5) aJ)) (aB (aH fG (aB (aA 0) aJ)) aJ))))) aJ)))))
def wD(s0 s1 s2 a b:OA):WS:=(aV (bJ (aH AB (aB (JF ["track","row","wire"] [] (ZC (aB (aA 5) aJ)) (gT 2 (bS (gN 0) (bS (gN 1) iX))) iM (dH (aA 1)) (gN 2) iM (lO (aB (aA 2) (aB (aA 0) aJ)))) aJ)) (gN 6)) (wA s0 s1 s2 a b))
def wF(s0 s1 s2 a b:OA):WS:=(aV (bJ (aH a (aB (aA 2) (aB (aA 3) aJ))) (gN 5)) (wD s0 s1 s2 a b))
def wG(s0 s1 s2 a b:OA):WS:=(aV (fY (cL (bD rG (aA 4) (wC .bU))) oG cU) (wF s0 s1 s2 a b))
def wH(s0 s1 s2 a b:OA):WS:=(aV (bJ (aH s2 (aB (aA 3) aJ)) (gN 4)) (wG s0 s1 s2 a b))
def wI(s0 s1 s2 a b:OA):WS:=(aV (bJ (aH s1 (aB (aA 0) (aB (aA 1) (aB (aA 2) aJ)))) (gN 3)) (wH s0 s1 s2 a b))
def sF(s0 s1 s2 a b:OA):WS:=(aV (bJ (aH s0 (aB (aA 0) (aB (aA 1) aJ))) (gN 2)) (wI s0 s1 s2 a b))
theorem RY(B:Bl mg)(uM:Fn P w K mg base k "spans_of" ["above","below"] s0)(rL:Fn P w K mg base k "orders_of" ["above","below","spans"] s1){s2:OA}(xH:Fn P w K mg base k "ring_in" ["uppers"] s2){s3:OA}(lK:Fn P w K mg base k "fewest_tracks" ["spans","uppers"] s3){s4:OA}(pT:Fn P w K mg base k "reason_for" ["spans","uppers","many","wide"] s4):vF P w K mg base k "wired" ["above","below","spans","uppers","ring","rows","tracks"] mJ (sF s0 s1 s2 s3 s4):=by
 intro f cdv A outer s H E hr;have nd:=A0.nd;show lR _ (_::_) _
 repeat' walk_at "g"
theorem rF:bC ["_law_script","_law_at","_law_cell","_law_mix","_law_k"] ["_law_script","_law_at"] (aE fR):=⟨rfl,rfl,rfl,by decide+kernel,rfl,by decide+kernel,by decide+kernel⟩
def nX:WS:=(bJ (bD oMod (bD K3 (bD iN (bD iN (bD tZ (aA 3) (wC (.int 48271))) (bD oMod (bD iL (aA 0) (aA 4)) (wC (.int 2147483647)))) (bD tZ (aA 4) (aA 4))) (wC (.int 5))) (wC (.int 2147483629))) (gN 3))
def o7:WS:=(dA (nM (aB (aA 2) (aB (aA 3) aJ))))
def kI:WS:=(aV (fY (cL (bD oLt (aA 2) (bD K3 (wC (.int 10)) (wC (.int 18))))) (bJ (wC (.int 0)) (gN 2)) cU) (o7))
def o8:WS:=(aV (i9 (pA (aB (aH xY (aB (aH fG (aB (aA 0) aJ)) (aB (wC (.int 60)) aJ))) aJ)) (gN 4) (nX)) (kI))
def kJ:WS:=(aV (bJ (bD iN (bD iN (bD tZ (bD tZ (wC (.int 7919)) (aA 1)) (aA 1)) (bD tZ (wC (.int 104729)) (aA 1))) (wC (.int 17))) (gN 3)) (o8))
def o9:WS:=(aV (fY (cL (bD oLt (aA 1) (aH fG (aB (aA 0) aJ)))) (bJ (aH N6 (aB (bD iL (aA 0) (aA 1)) aJ)) (gN 2)) cU) (kJ))
def kK:WS:=(aV (bJ (wC (.int 0)) (gN 2)) (o9))
theorem DS(B:Bl mg):vF P w K mg base k "_law_bag" ["_law_script","_law_at","_law_cell","_law_mix","_law_k"] fR (kK):=by
 intro f cdv A outer s H E hr;have nd:=rF.nd;show lR _ (_::_) _
 repeat' walk_at "g"
theorem pJ:bC ["_law_bag_here","_law_many","_law_digit","_law_number","_law_room"] ["_law_bag_here","_law_many"] (aE eN):=⟨rfl,rfl,rfl,by decide+kernel,rfl,by decide+kernel,by decide+kernel⟩
def jK:WS:=(bJ (bD tZ (aA 4) (wC (.int 1073741789))) (gN 4))
def jL:WS:=(aV (bJ (bD iN (bD tZ (aA 3) (wC (.int 1073741789))) (bD oMod (bD tZ (bD FT (bD iL (aA 0) (wC (.int 1))) (wC (.int 8))) (wC (.int 69621))) (wC (.int 1073741789)))) (gN 3)) (jK))
def lX:WS:=(aV (EZ (bD oMod (bD K3 (bD iN (bD tZ (bD iL (aA 0) (wC (.int 1))) (wC (.int 48271))) (wC (.int 7919))) (wC (.int 5))) (wC (.int 2147483629))) (aA 0) (wC (.int 1))) (jL))
def i8:WS:=(dA (bD oMod (aA 3) (aA 1)))
def nT:WS:=(aV (oF (cL (bD oLt (aA 4) (aA 1))) (lX)) (i8))
def nV:WS:=(aV (bJ (wC (.int 1)) (gN 4)) (nT))
def nW:WS:=(aV (bJ (wC (.int 0)) (gN 3)) (nV))
def iS:WS:=(aV (fY (cL (bD Q1 (bD iL (aA 0) (wC (.int 0))) (wC (.int 0)))) (aV (bJ (bD oMod (bD iL (aA 0) (wC (.int 0))) (aA 1)) (gN 2)) (aV (EZ (bD FT (bD iL (aA 0) (wC (.int 0))) (aA 1)) (aA 0) (wC (.int 0))) (dA (aA 2)))) cU) (nW))
theorem BJ(B:Bl mg):vF P w K mg base k "_law_take" ["_law_bag_here","_law_many","_law_digit","_law_number","_law_room"] eN (iS):=by
 intro f cdv A outer s H E hr;have nd:=pJ.nd;show lR _ (_::_) _
 repeat' walk_at "g"
theorem j0:bC ["_law_thing"] ["_law_thing"] (aE cP):=⟨rfl,rfl,rfl,by decide+kernel,rfl,by decide+kernel,by decide+kernel⟩
def dZ:WS:=(dA (wJ (aH vB (aB (aA 0) (aB (wC (.ty "int")) aJ))) (E6 (aH vB (aB (aA 0) (aB (wC (.ty "bool")) aJ))))))
theorem rW(B:Bl mg):vF P w K mg base k "_law_is_whole" ["_law_thing"] cP (dZ):=by
 intro f cdv A outer s H E hr;have nd:=j0.nd;show lR _ (_::_) _
 repeat' walk_at "g"
theorem lH:bC ["_law_bag_here","_law_many","_law_kinds","_law_apart_sides","_law_above","_law_below","_law_column","_law_up","_law_down"] ["_law_bag_here"] (aE cY):=⟨rfl,rfl,rfl,by decide+kernel,rfl,by decide+kernel,by decide+kernel⟩
def gB(s0:OA):WS:=(mC (OD "list" dG (aA 5) (aB (aA 8) aJ)))
def dN(s0:OA):WS:=(aV (mC (OD "list" dG (aA 4) (aB (aA 7) aJ))) (gB s0))
def gC(s0:OA):WS:=(aV (fY (lD (cL (bD oEq (aA 3) (wC (.int 1)))) (cL (tE Q1 Q1 (aA 7) (aA 8) (wC (.int 0))))) (bJ (lO (aB (aA 8) (aB (aA 7) aJ))) (gT 2 (bS (gN 7) (bS (gN 8) iX)))) cU) (dN s0))
def gD(s0:OA):WS:=(aV (bJ (aH s0 (aB (aA 0) (aB (bD iN (aA 2) (wC (.int 1))) aJ))) (gN 8)) (gC s0))
def iV(s0:OA):WS:=(aV (bJ (aH s0 (aB (aA 0) (aB (bD iN (aA 2) (wC (.int 1))) aJ))) (gN 7)) (gD s0))
def jQ(s0:OA):WS:=(dA (lO (aB (aH m6 (aB (aA 4) aJ)) (aB (aH m6 (aB (aA 5) aJ)) aJ))))
def jR(s0:OA):WS:=(aV (i9 (pA (aB (aA 1) aJ)) (gN 6) (iV s0)) (jQ s0))
def jS(s0:OA):WS:=(aV (bJ (nM aJ) (gN 5)) (jR s0))
def jT(s0:OA):WS:=(aV (bJ (nM aJ) (gN 4)) (jS s0))
def jU(s0:OA):WS:=(aV (bJ (aH s0 (aB (aA 0) (aB (wC (.int 2)) aJ))) (gN 3)) (jT s0))
def jV(s0:OA):WS:=(aV (bJ (bD iN (wC (.int 1)) (aH s0 (aB (aA 0) (aB (bD iL (nM (aB (wC (.int 8)) (aB (wC (.int 4)) aJ))) (aH s0 (aB (aA 0) (aB (wC (.int 2)) aJ)))) aJ)))) (gN 2)) (jU s0))
def eK(s0:OA):WS:=(aV (bJ (bD iN (wC (.int 1)) (aH s0 (aB (aA 0) (aB (bD iL (nM (aB (wC (.int 5)) (aB (wC (.int 12)) aJ))) (aH s0 (aB (aA 0) (aB (wC (.int 2)) aJ)))) aJ)))) (gN 1)) (jV s0))
theorem uD(B:Bl mg)(rM:Fn P w K mg base k "_law_take" ["_law_bag_here","_law_many"] s0):vF P w K mg base k "_law_columns" ["_law_bag_here","_law_many","_law_kinds","_law_apart_sides","_law_above","_law_below","_law_column","_law_up","_law_down"] cY (eK s0):=by
 intro f cdv A outer s H E hr;have nd:=lH.nd;show lR _ (_::_) _
 repeat' walk_at "g"
theorem lF:bC ["_law_above","_law_below","_law_found","_law_wire","_law_at"] ["_law_above","_law_below"] (aE cW):=⟨rfl,rfl,rfl,by decide+kernel,rfl,by decide+kernel,by decide+kernel⟩
def dM:WS:=(fY (lD (cL (bD Q1 (aH fG (aB (aA 4) aJ)) (wC (.int 0)))) (cL (bD oLt (bD iL (aA 4) (wC (.int 0))) (bD iL (aA 4) (ZA HE (wC (.int 1))))))) (mC (OD "list" dG (aA 2) (aB (lO (aB (aA 3) (aB (bD iL (aA 4) (wC (.int 0))) (aB (bD iL (aA 4) (ZA HE (wC (.int 1)))) aJ)))) aJ))) cU)
def iT:WS:=(aV (bJ (sH ["_law_k"] [3,0,1] (pA (aB (aH fG (aB (aA 0) aJ)) aJ)) (gN 0) (cL (bD T9 (aA 1) (nM (aB (bD iL (aA 2) (aA 0)) (aB (bD iL (aA 3) (aA 0)) aJ))))) (aA 0)) (gN 4)) (dM))
def jM:WS:=(dA (aA 2))
def jN:WS:=(aV (i9 (E4 (aB (wC (.int 1)) (aB (wC (.int 9)) aJ))) (gN 3) (iT)) (jM))
def eI:WS:=(aV (bJ (nM aJ) (gN 2)) (jN))
theorem uB(B:Bl mg):vF P w K mg base k "_law_spanned" ["_law_above","_law_below","_law_found","_law_wire","_law_at"] cW (eI):=by
 intro f cdv A outer s H E hr;have nd:=lF.nd;show lR _ (_::_) _
 repeat' walk_at "g"
theorem lG:bC ["_law_above","_law_below","_law_needing","_law_pairs","_law_up","_law_down"] ["_law_above","_law_below"] (aE cX):=⟨rfl,rfl,rfl,by decide+kernel,rfl,by decide+kernel,by decide+kernel⟩
def iU(s0:OA):WS:=(fY (lD (cL (bD CS (aA 4) (aA 5))) (lD (cL (bD T9 (aA 4) (aA 2))) (cL (bD T9 (aA 5) (aA 2))))) (mC (OD "list" dG (aA 3) (aB (lO (aB (aA 4) (aB (aA 5) aJ))) aJ))) cU)
def jO(s0:OA):WS:=(dA (aA 3))
def jP(s0:OA):WS:=(aV (i9 (tD (aB (aA 0) (aB (aA 1) aJ))) (gT 2 (bS (gN 4) (bS (gN 5) iX))) (iU s0)) (jO s0))
def eZ(s0:OA):WS:=(aV (bJ (nM aJ) (gN 3)) (jP s0))
def eJ(s0:OA):WS:=(aV (bJ (sH ["_law_one"] [] (dH (aH s0 (aB (aA 0) (aB (aA 1) aJ)))) (gN 0) iM (bD iL (aA 0) (wC (.int 0)))) (gN 2)) (eZ s0))
theorem uC(B:Bl mg)(cT:Fn P w K mg base k "_law_spanned" ["_law_above","_law_below"] s0):vF P w K mg base k "_law_ordered" ["_law_above","_law_below","_law_needing","_law_pairs","_law_up","_law_down"] cX (eJ s0):=by
 intro f cdv A outer s H E hr;have nd:=lG.nd;show lR _ (_::_) _
 repeat' walk_at "g"
theorem n6:bC ["_law_above","_law_below","_law_left","_law_pairs","_law_turn"] ["_law_above","_law_below"] (aE dW):=⟨rfl,rfl,rfl,by decide+kernel,rfl,by decide+kernel,by decide+kernel⟩
def k9(s0 s1:OA):WS:=(bJ (sH ["_law_wire"] [3,2] (dH (aA 2)) (gN 0) (mB (aH EJ (aB (sH ["_law_up","_law_down"] [0,2] (dH (aA 1)) (gT 2 (bS (gN 0) (bS (gN 1) iX))) iM (wJ (bD oEq (aA 1) (aA 2)) (bD T9 (aA 0) (aA 3)))) aJ))) (aA 0)) (gN 2))
def lY(s0 s1:OA):WS:=(dA (bD Q1 (aH fG (aB (aA 2) aJ)) (wC (.int 0))))
def lZ(s0 s1:OA):WS:=(aV (i9 (pA (aB (wC (.int 8)) aJ)) (gN 4) (k9 s0 s1)) (lY s0 s1))
def hJ(s0 s1:OA):WS:=(aV (bJ (aH s1 (aB (aA 0) (aB (aA 1) aJ))) (gN 3)) (lZ s0 s1))
def gS(s0 s1:OA):WS:=(aV (bJ (sH ["_law_one"] [] (dH (aH s0 (aB (aA 0) (aB (aA 1) aJ)))) (gN 0) iM (bD iL (aA 0) (wC (.int 0)))) (gN 2)) (hJ s0 s1))
theorem y4(B:Bl mg)(cT:Fn P w K mg base k "_law_spanned" ["_law_above","_law_below"] s0)(eU:Fn P w K mg base k "_law_ordered" ["_law_above","_law_below"] s1):vF P w K mg base k "_law_rings" ["_law_above","_law_below","_law_left","_law_pairs","_law_turn"] dW (gS s0 s1):=by
 intro f cdv A outer s H E hr;have nd:=n6.nd;show lR _ (_::_) _
 repeat' walk_at "g"
theorem hX:bC ["_law_above","_law_below","_law_many","_law_thing","_law_spanned_here","_law_track","_law_one","_law_due","_law_used","_law_k","_law_other"] ["_law_above","_law_below","_law_many","_law_thing"] (aE b6):=⟨rfl,rfl,rfl,by decide+kernel,rfl,by decide+kernel,by decide+kernel⟩
def eL(s0 s1 s2:OA):WS:=(aV (fY (cL (bD CS (bD iL (aA 6) (wC (.int 0))) (bD iL (aA 7) (wC (.int 0))))) (dA (wC (.bl false))) cU) (E5 (bD iL (aA 6) (wC (.int 1))) (aA 5) (bD iL (aA 6) (wC (.int 0)))))
def fN(s0 s1 s2:OA):WS:=(aV (fY (x4 (lC (mB (aH vB (aB (aA 6) (aB (wC (.ty "tuple")) aJ))))) (x4 (cL (bD CS (aH fG (aB (aA 6) aJ)) (wC (.int 2)))) (lC (mB (aH EK (aB (sH ["_law_x"] [] (dH (aA 6)) (gN 0) iM (aH s1 (aB (aA 0) aJ))) aJ)))))) (dA (wC (.bl false))) cU) (eL s0 s1 s2))
def fL(s0 s1 s2:OA):WS:=(fY (lD (cL (bD oEq (bD oK (aA 5) (bD iL (aA 6) (wC (.int 0)))) (bD oK (aA 5) (bD iL (aA 10) (wC (.int 0)))))) (lD (cL (bD oLe (bD iL (aA 6) (wC (.int 1))) (bD iL (aA 10) (wC (.int 2))))) (cL (bD oLe (bD iL (aA 10) (wC (.int 1))) (bD iL (aA 6) (wC (.int 2))))))) (dA (wC (.bl false))) cU)
def fM(s0 s1 s2:OA):WS:=(i9 (dH (ZP ZF (aA 4) wNo (AO (aA 9)))) (gN 10) (fL s0 s1 s2))
def gE(s0 s1 s2:OA):WS:=(dA (aH EK (aB (sH ["_law_up","_law_down"] [5] (dH (aH s2 (aB (aA 0) (aB (aA 1) aJ)))) (gT 2 (bS (gN 0) (bS (gN 1) iX))) iM (bD oLt (bD oK (aA 2) (aA 0)) (bD oK (aA 2) (aA 1)))) aJ)))
def gF(s0 s1 s2:OA):WS:=(aV (i9 (ZC (aB (aA 4) aJ)) (gT 2 (bS (gN 9) (bS (gN 6) iX))) (fM s0 s1 s2)) (gE s0 s1 s2))
def gG(s0 s1 s2:OA):WS:=(aV (fY (x4 (cL (bD CS (aH fG (aB (aA 8) aJ)) (aA 2))) (cL (bD CS (aA 8) (pB (aB (aH fG (aB (aA 8) aJ)) aJ))))) (dA (wC (.bl false))) cU) (gF s0 s1 s2))
def gH(s0 s1 s2:OA):WS:=(aV (bJ (kL (sH ["_law_wire"] [5] (mD (aA 5)) (gN 0) iM (bD oK (aA 1) (aA 0)))) (gN 8)) (gG s0 s1 s2))
def gI(s0 s1 s2:OA):WS:=(aV (i9 (tD (aB (aA 3) (aB (aA 4) aJ))) (gT 2 (bS (gN 6) (bS (gN 7) iX))) (fN s0 s1 s2)) (gH s0 s1 s2))
def gJ(s0 s1 s2:OA):WS:=(aV (bJ (vI false) (gN 5)) (gI s0 s1 s2))
def gK(s0 s1 s2:OA):WS:=(aV (fY (x4 (lC (mB (aH vB (aB (aA 3) (aB (wC (.ty "tuple")) aJ))))) (cL (bD CS (aH fG (aB (aA 3) aJ)) (aH fG (aB (aA 4) aJ))))) (dA (wC (.bl false))) cU) (gJ s0 s1 s2))
def c8(s0 s1 s2:OA):WS:=(aV (bJ (aH s0 (aB (aA 0) (aB (aA 1) aJ))) (gN 4)) (gK s0 s1 s2))
theorem pR(B:Bl mg)(cT:Fn P w K mg base k "_law_spanned" ["_law_above","_law_below"] s0)(d5:Fn P w K mg base k "_law_is_whole" ["_law_thing"] s1){s2:OA}(eU:Fn P w K mg base k "_law_ordered" ["_law_above","_law_below"] s2):vF P w K mg base k "_law_are_tracks" ["_law_above","_law_below","_law_many","_law_thing","_law_spanned_here","_law_track","_law_one","_law_due","_law_used","_law_k","_law_other"] b6 (c8 s0 s1 s2):=by
 intro f cdv A outer s H E hr;have nd:=hX.nd;show lR _ (_::_) _
 repeat' walk_at "g"
theorem J3:bC ["_law_script","_law_k","_law_bag_here","_law_above","_law_below","_law_found"] ["_law_script"] (aE tN):=⟨rfl,rfl,rfl,by decide+kernel,rfl,by decide+kernel,by decide+kernel⟩
def sZ(s0 s1 s2 a b c:OA):WS:=(fY (lC (mB (aH s2 (aB (aA 3) (aB (aA 4) aJ))))) (aV (bJ (aH a (aB (aA 3) (aB (aA 4) aJ))) (gN 5)) (aV (fY (x4 (lC (mB (aH vB (aB (aA 5) (aB (wC (.ty "tuple")) aJ))))) (x4 (cL (bD CS (aH fG (aB (aA 5) aJ)) (wC (.int 3)))) (lC (mB (aH b (aB (bD iL (aA 5) (wC (.int 0))) aJ)))))) (dA (wC (.bl false))) cU) (fY (x4 (lC (mB (aH c (aB (aA 3) (aB (aA 4) (aB (bD iL (aA 5) (wC (.int 0))) (aB (bD iL (aA 5) (wC (.int 1))) aJ))))))) (cL (bD CS (aH a (aB (aA 3) (aB (aA 4) aJ))) (aA 5)))) (dA (wC (.bl false))) cU))) cU)
def tB(s0 s1 s2 a b c:OA):WS:=(aV (bJ (aH s1 (aB (aA 2) aJ)) (gT 2 (bS (gN 3) (bS (gN 4) iX)))) (sZ s0 s1 s2 a b c))
def AN(s0 s1 s2 a b c:OA):WS:=(aV (bJ (aH s0 (aB (aA 0) (aB (aA 1) aJ))) (gN 2)) (tB s0 s1 s2 a b c))
def EW(s0 s1 s2 a b c:OA):WS:=(dA (wC (.bl true)))
def EX(s0 s1 s2 a b c:OA):WS:=(aV (i9 (pA (aB (bD iN (aH xY (aB (aH fG (aB (aA 0) aJ)) (aB (wC (.int 6)) aJ))) (wC (.int 2))) aJ)) (gN 1) (AN s0 s1 s2 a b c)) (EW s0 s1 s2 a b c))
theorem aBk(B:Bl mg)(uO:Fn P w K mg base k "_law_bag" ["_law_script","_law_at"] s0)(mX:Fn P w K mg base k "_law_columns" ["_law_bag_here"] s1){s2:OA}(pV:Fn P w K mg base k "_law_rings" ["_law_above","_law_below"] s2){s3:OA}(GG:Fn P w K mg base k "wired" ["above","below"] s3){s4:OA}(d5:Fn P w K mg base k "_law_is_whole" ["_law_thing"] s4){s5:OA}(iY:Fn P w K mg base k "_law_are_tracks" ["_law_above","_law_below","_law_many","_law_thing"] s5):vF P w K mg base k "law" ["_law_script","_law_k","_law_bag_here","_law_above","_law_below","_law_found"] tN (EX s0 s1 s2 s3 s4 s5):=by
 intro f cdv A outer s H E hr;have nd:=J3.nd;show lR _ (_::_) _
 repeat' walk_at "g"
end
theorem aBm:HW 2 0=some 0:=by decide
theorem aBl:HW 2 1=some 1:=by decide
theorem CI(d e:D)(ds:List D):oS (d::e::ds) 1=some e:=by
 have:=sW (xs:=d::e::ds) (j:=1) (v:=e) rfl;simpa using this
theorem uZ{i j:Int}(a: -18446744073709551616<j)(b:j<18446744073709551616):JA i j:= .inr ⟨a,b⟩
theorem UI{i j:Int}(a: -18446744073709551616<i)(b:i<18446744073709551616):JA i j:= .inl ⟨a,b⟩
theorem YI{i:Int}{j:Int}(h0:0<=j)(a:j<=1000000)(b: -18446744073709551616<i)(c:i<18446744073709551616):Y9 i j:=⟨h0,a,by omega⟩
abbrev En(mh:MH)(R:DK):iK:={nx:=λ_ a=>Out mh.length .bU a R,rt:=λd a=>Out mh.length d a R}
theorem X5(ds:List D)(mh:MH)(R:DK)(ok:oV mh)(p:wV ds mh R):iS (En mh R) (aQ ["_law_bag_here","_law_many","_law_digit","_law_number","_law_room"] ds) mh:=by
 obtain⟨b,a,rfl,A,B,⟨c,m,h,o,j,k⟩,q⟩:=p;have f:b<mh.length:=(aFp.mp h).1
 have g:∀(r c' l :Int),0<=r->r<a->0<=c' ->0<=l ->l<2147483629->Out mh.length (.int r) (mh.set b (.lst [.int c',.int l])) R:=λr c' l s t u v w=>
  aY (q r _ s t ⟨⟨c',l,by simp[f],u,v,w⟩,_,rfl⟩)
 simp[iS,nW,nV,nT,aQ,mL h,J5 h,aBm];by_cases h0:0<c
 ·rw[if_pos h0];exact⟨by omega,⟨by omega,by omega⟩,g _ _ _ (aIf _ (by omega)) (aHw _ (by omega)) (Int.ediv_nonneg (by omega) (by omega)) j k⟩
 ·rw[if_neg h0];refine CU 2 ?_;by_cases d:1<a
  ·have x:0<=(m*48271+7919)^5 % 2147483629:=aIf _ (by omega);have y:(m*48271+7919)^5 % 2147483629<2147483629:=aHw _ (by omega);simp[oE,lX,jL,jK,i8,d,mL h,J5 h,aBl,CI];refine⟨uZ (by omega) (by omega),YI (by omega) (by omega) (by omega) (by omega),?_⟩;have n:(mh.set b (.lst [.int c,.int ((m*48271+7919)^5 % 2147483629)]))[b]? =some (.lst [.int c,.int ((m*48271+7919)^5 % 2147483629)]):=by simp[f]
   simp only[mL n,CI,aF,J6,J9];refine⟨uZ (by omega) (by omega),⟨by omega,by omega⟩,uZ (by omega) (by omega),by omega,uZ (by omega) (by omega),?_⟩;simp;rw[if_neg (by omega)];exact⟨by omega,g _ _ _ (aIf _ (by omega)) (aHw _ (by omega)) o x y⟩
  ·simp[oE,d,i8];have e:a=1:=by omega
   subst e;refine⟨by omega,?_⟩
   have z:mh.set b (.lst [.int c,.int m])=mh:=by
    apply List.ext_getElem?;intro i;by_cases hi:i=b
    ·subst hi;rw[List.getElem?_set_self f,h]
    ·rw[List.getElem?_set_ne (Ne.symm hi)]
   have:=g 0 c m (by omega) (by omega) o j k;rw[z]at this;exact this
variable{ns:List Int}
theorem CH{i:Int}(h0:0<=i)(a:i<ns.length):∃v,oS (ns.map D.int) i=some (.int v):=by
 refine⟨ns[i.toNat]'(by omega),?_⟩;have e:i=((i.toNat:Nat):Int):=by omega
 have:=sW (xs:=ns.map D.int) (j:=i.toNat) (v:= .int (ns[i.toNat]'(by omega))) (by rw[List.getElem?_map,List.getElem?_eq_getElem (by omega)];rfl);rw[<-e]at this;exact this
theorem X7{mh:MH}{R:DK}{a c m:Int}{k:Option D}(q:∀mh',(∃o,mh' =mh++[o])->OC mh' mh.length->R (.ref mh.length) mh')(d:0<=c)(e:0<=m)(f:m<2147483629):
  kI (En mh R) [some (.fl (ns.map .int)),some (.int a),some (.int c),some (.int m),k] mh:=by
 have b:∀c,0<=c->Out mh.length (.ref mh.length) (mh++[.lst [.int c,.int m]]) R:=λc g=>aY (q _ ⟨_,rfl⟩ ⟨c,m,by simp,g,e,f⟩);simp[kI,o7];refine⟨YI (by omega) (by omega) (by omega) (by omega),?_⟩;split
 ·exact⟨by rw[sizeLine_eq];omega,b 0 (by omega)⟩
 ·exact⟨by rw[sizeLine_eq];omega,b c d⟩
theorem MW{mh:MH}{R:DK}{a c:Int}(r:ns.length<=63)(b:0<=a)(f:a<=100)(q:∀mh',(∃o,mh' =mh++[o])->OC mh' mh.length->R (.ref mh.length) mh')(j:0<=c):
  kJ (En mh R) [some (.fl (ns.map .int)),some (.int a),some (.int c),none,none] mh:=by
 have l:7919*a*a<=79190000:=by
  have:a*a<=100*100:=Int.mul_le_mul f f b (by omega);have e:7919*a*a=7919*(a*a):=Int.mul_assoc _ _ _;omega
 have n:0<=7919*a*a:=Int.mul_nonneg (by omega) b;simp[kJ,o8];refine⟨UI (by omega) (by omega),uZ (by omega) (by omega),UI (by omega) (by omega),?_,?_,?_⟩
 ·split <;> omega
 ·split <;> (rw[sizeLine_eq];omega)
 ·refine bM (λi g mh' =>mh' =mh/\∃m k,g=[some (.fl (ns.map .int)),some (.int a),some (.int c),some (.int m),k]/\0<=m/\m<2147483629) _ (λ_ _ _ _=>trivial) ?_ ?_ ⟨rfl,_,_,rfl,by omega,by omega⟩
  ·rintro i d g mh' N hi ⟨rfl,m,k,rfl,m0,m1⟩ nx;obtain⟨hi,rfl⟩:=nC hi
   have p:i<ns.length:=by
    revert hi;split <;> intro hi <;> omega
   have h:i<60:=by
    revert hi;split <;> intro hi <;> omega
   obtain⟨v,hv⟩:=CH (ns:=ns) (i:=0+(i:Int)) (by omega) (by omega);have s:0<=v % 2147483647:=aIf _ (by omega);have t:v % 2147483647<2147483647:=aHw _ (by omega);have u:0<=(0+(i:Int))*(0+(i:Int)):=Int.mul_nonneg (by omega) (by omega);have w:(0+(i:Int))*(0+(i:Int))<=60*60:=Int.mul_le_mul (by omega) (by omega) (by omega) (by omega);simp only[aEe,nX,aA7,aA1,s_c,J4,List.set_cons_succ,List.set_cons_zero,List.getElem?_cons_succ,List.getElem?_cons_zero,Option.join_some,aF,J6,J9,aA4,hv];refine⟨uZ (by omega) (by omega),by omega,uZ (by omega) (by omega),YI (by omega) (by omega) (by omega) (by omega),by omega,nx _ _ ⟨rfl,_,_,rfl,aIf _ (by omega),aHw _ (by omega)⟩⟩
  ·rintro g mh' ⟨rfl,m,k,rfl,m0,m1⟩;exact X7 q j m0 m1
theorem aC5(ds:List D)(mh:MH)(R:DK)(ok:oV mh)(e:PM ds mh R):kK (En mh R) (aQ ["_law_script","_law_at","_law_cell","_law_mix","_law_k"] ds) mh:=by
 obtain⟨ns,a,rfl,d,b,c,q⟩:=e;simp[kK,o9,aQ];split
 ·rename_i hlt;obtain⟨v,hv⟩:=CH (ns:=ns) (i:=a) b hlt;simp[hv];exact MW d b c q (by split <;> omega)
 ·exact MW d b c q (by omega)
structure aO where
 A:List Nat
 B:List Nat
structure Wc(c:aO):Prop where
 l:c.A.length=c.B.length
 l1:1<=c.A.length
 l2:c.A.length<=12
 a:∀x∈c.A,x<=8
 b:∀x∈c.B,x<=8
structure Sp where
 w:Nat
 a:Nat
 b:Nat
def vT(c:aO)(w k:Nat):Bool:=c.A[k]? ==some w || c.B[k]? ==some w
def rS(c:aO)(w:Nat):List Nat:=(List.range c.A.length).filter (vT c w)
def fS(w:Nat)(l:List Nat):Option Sp:=if l.headD 0<l.getLastD 0 then some ⟨w,l.headD 0,l.getLastD 0⟩ else none
def spans(c:aO):List Sp:=(List.range' 1 8).filterMap λw=>fS w (rS c w)
def aC(c:aO):List Nat:=(spans c).map (·.w)
def pN(c:aO):List (Nat×Nat):=(c.A.zip c.B).filter λp=>p.1 !=p.2 && (aC c).contains p.1 && (aC c).contains p.2
def D5(l:List Nat):List Nat:=l.foldl (λa x=>if x∈a then a else a++[x]) []
def ups(c:aO)(w:Nat):List Nat:=D5 (((pN c).filter λp=>p.2==w).map (·.1))
theorem zJ(l:List Nat)(x:Nat):D5 (l++[x])=if x∈D5 l then D5 l else D5 l++[x]:=by unfold D5;rw[List.foldl_append];rfl
theorem Q7{x:Nat}(l:List Nat):x∈D5 l↔x∈l:=by
 suffices h:∀n,∀l:List Nat,l.length=n->(x∈D5 l↔x∈l) from h _ l rfl
 intro n
 induction n with
 | zero=>
  intro l a;have:l=[]:=aIi.mp a;subst this;simp[D5]
 | succ n ih=>
  intro l a;have e:=aHf (l:=l) (by intro z;rw[z]at a;cases a);rw[<-e,zJ];have:=ih l.dropLast (by simp;lia);split <;> simp[this] <;> grind
theorem SN(l:List Nat):(D5 l).length<=l.length:=by
 suffices h:∀n,∀l:List Nat,l.length=n->(D5 l).length<=l.length from h _ l rfl
 intro n
 induction n with
 | zero=>
  intro l b;have:l=[]:=aIi.mp b;subst this;simp[D5]
 | succ n ih=>
  intro l b;have e:=aHf (l:=l) (by intro z;rw[z]at b;cases b);have a:l.dropLast.length=n:=by simp;lia
  have:=ih l.dropLast a;rw[<-e,zJ,List.length_append,a];split
  ·lia
  ·rw[List.length_append];simp;lia
variable{w:Nat}{l:List Nat}
theorem kO{s:Sp}(h:fS w l=some s):s.w=w/\s.a<s.b/\s.a=l.headD 0/\s.b=l.getLastD 0:=by
 unfold fS at h;split at h
 ·cases h;exact⟨rfl,by assumption,rfl,rfl⟩
 ·cases h
variable{c:aO}
theorem wO{s:Sp}:s∈spans c↔1<=s.w/\s.w<=8/\fS s.w (rS c s.w)=some s:=by
 unfold spans;rw[List.mem_filterMap];constructor
 ·rintro⟨w,a,h⟩;have e:=(kO h).1;subst e;simp[List.mem_range']at a;obtain⟨i,b,d⟩:=a;exact⟨by lia,by lia,h⟩
 ·rintro⟨b,d,h⟩;exact⟨s.w,by simp[List.mem_range'_1];lia,h⟩
theorem sY(c:aO):(aC c).Pairwise (· < ·):=by
 unfold aC spans;rw[List.pairwise_map,List.pairwise_filterMap];refine List.Pairwise.imp (R:=(· < ·)) ?_ List.pairwise_lt_range';intro a b d x e y f;rw[(kO e).1,(kO f).1];exact d
theorem cM(c:aO):(aC c).Nodup:=(sY c).imp aFz
theorem cE(c:aO):(aC c).length<=8:=by
 unfold aC spans;rw[List.length_map];have:=aIc (λw=>fS w (rS c w)) (List.range' 1 8);simpa using this
theorem Q6{h w:Nat}:(h,w)∈pN c↔(h,w)∈c.A.zip c.B/\h≠w/\h∈aC c/\w∈aC c:=by
 unfold pN;simp[List.mem_filter,and_assoc]
theorem sR{h w:Nat}:h∈ups c w↔(h,w)∈pN c:=by
 unfold ups;rw[Q7];simp
theorem AU{h w:Nat}(a:h∈ups c w):h∈aC c/\w∈aC c/\h≠w:=by
 have:=Q6.mp (sR.mp a);exact⟨this.2.2.1,this.2.2.2,this.2.1⟩
def CV(c:aO)(l:List Nat)(w:Nat):Bool:=(ups c w).any λu=>l.contains u
def vS(c:aO):Nat->List Nat
 | 0=>aC c
 | t+1=>(vS c t).filter (CV c (vS c t))
def iI(c:aO):Prop:=vS c 8=[]
variable{S:Nat->Prop}
theorem u3(a:iI c)(b:∀w,S w->w∈aC c)(d:∀w,S w->∃u∈ups c w,S u):∀w,¬S w:=by
 have key:∀t w,S w->w∈vS c t:=by
  intro t
  induction t with
  | zero=>intro w h;exact b w h
  | succ t ih=>
   intro w h;obtain⟨u,e,f⟩:=d w h;refine aGz.mpr ⟨ih w h,?_⟩;unfold CV;rw[List.any_eq_true];exact⟨u,e,by simpa using ih u f⟩
 intro w h;have:=key 8 w h;rw[a]at this;cases this
theorem SE(d:iI c)(e:w∈aC c)(f:w∉l):∃v∈aC c,v∉l/\∀u∈ups c v,u∈l:=by
 refine aGc λa=>?_;refine u3 d (S:=λw=>w∈aC c/\w∉l) (λ_ h=>h.1) (λv h=>?_) w ⟨e,f⟩;refine aGc λg=>a ⟨v,h.1,h.2,λu b=>?_⟩;refine aGc λi=>g ⟨u,b,(AU b).1,i⟩
def FH(c:aO)(w:Nat):Sp:=((spans c).find? λs=>s.w==w).getD ⟨0,0,0⟩
theorem sM{s:Sp}(h:s∈spans c):FH c s.w=s:=by
 unfold FH
 cases e:(spans c).find? λt=>t.w==s.w with
 | none=>have:=List.find?_eq_none.mp e s h;simp at this
 | some t=>
  have d:=List.mem_of_find?_eq_some e;have f:t.w=s.w:=by have:=List.find?_some e;simpa using this
  have a:=(wO.mp d).2.2;have b:=(wO.mp h).2.2;rw[f,b]at a;cases a;rfl
def meets(s t:Sp):Bool:=decide (s.a<=t.b) && decide (t.a<=s.b)
def gL(c:aO)(u w:Nat):Bool:=meets (FH c u) (FH c w)
theorem t8(c:aO)(u w:Nat):gL c u w=gL c w u:=by unfold gL meets;exact Bool.and_comm ..
def uL(c:aO)(a:List (List Nat))(w:Nat):List (List Nat):=a++(a.filter λown=>!(own.any λo=>gL c w o)).map (· ++[w])
def eT(c:aO)(a:List Nat):List (List Nat):=a.foldl (uL c) [[]]
def fills(c:aO)(a:List Nat):List (List Nat):=(eT c a).tail
theorem xG(c:aO)(a:List Nat)(w:Nat):eT c (a++[w])=uL c (eT c a) w:=by simp[eT,List.foldl_append]
def N9(c:aO)(a f:List Nat):Prop:=f.Sublist a/\f.Pairwise λu w=>gL c u w=false
theorem nJ(c:aO):∀(n:Nat) (d:List Nat),d.length=n->(eT c d).length<=2^n/\(∃r,eT c d=[]::r/\∀f∈r,f≠[])/\(∀f∈eT c d,N9 c d f)/\∀w∈d,[w]∈eT c d:=by
 intro n
 induction n with
 | zero=>
  intro d h;have:d=[]:=by simpa using h
  subst this;simp[eT,N9]
 | succ n ih=>
  intro d h;have e:=aHf (l:=d) (by intro z;rw[z]at h;cases h);generalize u:d.getLast _=x at e;generalize hi:d.dropLast=us at e;have q:us.length=n:=by rw[<-hi];simp;lia
  obtain⟨v,⟨r,k,j⟩,i,s⟩:=ih us q;rw[<-e,xG];refine⟨?_,?_,λf hf=>?_,λw hw=>?_⟩
  ·unfold uL;have:=aGo (λown=>!(own.any λo=>gL c x o)) (eT c us);simp only[List.length_append,List.length_map];rw[Nat.pow_succ];lia
  ·refine⟨_,by unfold uL;rw[k,List.cons_append],λf hf=>?_⟩;rcases aG5.mp hf with hf | hf
   ·exact j f hf
   ·obtain⟨g,_,rfl⟩:=aFv.mp hf;simp
  ·unfold uL at hf;rcases aG5.mp hf with hf | hf
   ·exact⟨(i f hf).1.trans (List.sublist_append_left ..),(i f hf).2⟩
   ·obtain⟨g,hg,rfl⟩:=aFv.mp hf;obtain⟨hg,m⟩:=aGz.mp hg;refine⟨(i g hg).1.append (List.Sublist.refl _),?_⟩;rw[List.pairwise_append];refine⟨(i g hg).2,by simp,λa t b p=>?_⟩;simp at p;subst p;rw[t8];simp at m;exact m a t
  ·unfold uL;rcases aG5.mp hw with hw | hw
   ·exact aI0 _ (s w hw)
   ·simp at hw;subst hw;refine aG8 _ (aFv.mpr ⟨[],aGz.mpr ⟨by rw[k];simp,by simp⟩,by simp⟩)
variable{ws f:List Nat}
theorem xF:f∈fills c ws->f≠[]/\N9 c ws f:=λh=>by
 obtain⟨_,⟨r,b,a⟩,d,_⟩:=nJ c _ ws rfl;unfold fills at h;rw[b]at h;exact⟨a f h,d f (by rw[b];exact aFt _ h)⟩
theorem II(a:w∈ws):[w]∈fills c ws:=by
 obtain⟨_,⟨r,b,d⟩,f,e⟩:=nJ c _ ws rfl;have:=e w a;unfold fills;rw[b]at this⊢;rcases aFy.mp this with h | h
 ·cases h
 ·exact h
def frees(c:aO)(l:List Nat):List Nat:=(aC c).filter λw=>!(l.contains w) && (ups c w).all λu=>l.contains u
theorem qI:w∈frees c l↔w∈aC c/\w∉l/\∀u∈ups c w,u∈l:=by
 unfold frees;simp[List.mem_filter,and_assoc]
abbrev Ent:=List Nat×List (List Nat)
def fV(c:aO)(l f:List Nat):List Nat:=(aC c).filter λw=>l.contains w || f.contains w
def dI(c:aO)(e:Ent):List Ent:=(fills c (frees c e.1)).map λf=>(fV c e.1 f,e.2++[f])
def bT(acc:List Ent)(e:Ent):List Ent:=if acc.any (λx=>x.1==e.1) then acc else acc++[e]
def level(c:aO)(L:List Ent):List Ent:=(L.flatMap (dI c)).foldl bT []
def BX(c:aO):Nat->List Ent->List (List Nat)
 | 0,_=>[]
 | n+1,L=>match L.find? λx=>x.1==aC c with
  | some e=>e.2
  | none=>BX c n (level c L)
def rowsOf(c:aO):List (List Nat):=BX c 9 [([],[])]
structure eX(c:aO)(e:Ent):Prop where
 key:∃p:Nat->Bool,e.1=(aC c).filter p
 mem:∀w,w∈e.1↔w∈e.2.flatten
 nd:e.2.flatten.Nodup
 ne:∀f∈e.2,f≠[]
 apart:∀f∈e.2,f.Pairwise λu w=>gL c u w=false
 ord:∀(i:Nat) f,e.2[i]? =some f->∀w∈f,∀u∈ups c w,∃j g,j<i/\e.2[j]? =some g/\u∈g
theorem aFb(c:aO):eX c ([],[]):=⟨⟨λ_=>false,by simp⟩,by simp,by simp,by simp,by simp,by simp⟩
theorem mP:w∈fV c l f↔w∈aC c/\(w∈l\/w∈f):=by
 unfold fV;simp[List.mem_filter]
variable{e:Ent}
theorem eX.next(E:eX c e)(s:f∈fills c (frees c e.1)):eX c (fV c e.1 f,e.2++[f]):=by
 obtain⟨f0,fs,fp⟩:=xF s;have fr:∀w∈f,w∈aC c/\w∉e.1/\∀u∈ups c w,u∈e.1:=λw d=>qI.mp (fs.subset d);have t:∀w∈e.1,w∈aC c:=λw d=>by obtain⟨p,v⟩:=E.key;rw[v]at d;exact(aGz.mp d).1
 have l:f.Nodup:=fs.nodup ((cM c).filter _);refine⟨⟨_,rfl⟩,λw=>?_,?_,λg hg=>?_,λg hg=>?_,λi g hg w d u q=>?_⟩
 ·rw[mP];simp only[List.flatten_append,List.mem_append,List.flatten_cons,List.flatten_nil,List.append_nil,<-E.mem w];constructor
  ·rintro⟨_,h⟩;exact h
  ·rintro(h | h)
   ·exact⟨t w h,.inl h⟩
   ·exact⟨(fr w h).1,.inr h⟩
 ·simp only[List.flatten_append,List.flatten_cons,List.flatten_nil,List.append_nil];rw[List.nodup_append];exact⟨E.nd,l,λa x b y z=>(fr b y).2.1 ((E.mem b).mpr (by rw[<-z];exact x))⟩
 ·rcases aG5.mp hg with h | h
  ·exact E.ne g h
  ·simp at h;subst h;exact f0
 ·rcases aG5.mp hg with h | h
  ·exact E.apart g h
  ·simp at h;subst h;exact fp
 ·by_cases hi:i<e.2.length
  ·rw[List.getElem?_append_left hi]at hg;obtain⟨j,g',A,B,C⟩:=E.ord i g hg w d u q;exact⟨j,g',A,by rw[List.getElem?_append_left (by lia)];exact B,C⟩
  ·have m:i=e.2.length:=by
    have:=(aFp.mp hg).1;simp at this;lia
   subst m;simp at hg;subst hg;have:=(E.mem u).mp ((fr w d).2.2 u q);obtain⟨g',n,o⟩:=aHs.mp this;obtain⟨j,r⟩:=aGw.mp n;have k:=(aFp.mp r).1;exact⟨j,g',k,by rw[List.getElem?_append_left k];exact r,o⟩
theorem hZ{α:Type}[DecidableEq α]:∀{l m:List α},l.Nodup->(∀a∈l,a∈m)->l.length<=m.length
 | [],m,_,_=>aGm _
 | a::l,m,nd,h=>by
  obtain⟨n1,n2⟩:=aIe.mp nd;have c:=h a aFr;have:=hZ (l:=l) (m:=m.erase a) n2 λb d=>(List.mem_erase_of_ne λz=>n1 (by rw[<-z];exact d)).mpr (h b (aFt _ d));rw[List.length_erase_of_mem c]at this;have:=List.length_pos_of_mem c;simp;lia
def subs:List Nat->List (List Nat)
 | []=>[[]]
 | a::r=>subs r++(subs r).map (a:: ·)
theorem AW:∀l,(subs l).length=2^l.length
 | []=>rfl
 | a::r=>by simp[subs,AW r,Nat.pow_succ];lia
theorem rB(p:Nat->Bool):∀l,l.filter p∈subs l
 | []=>by simp[subs]
 | a::r=>by
  have:=rB p r;simp only[subs,List.filter_cons,List.mem_append];split
  ·exact .inr (aFv.mpr ⟨_,this,rfl⟩)
  ·exact .inl this
structure vE(c:aO)(L:List Ent):Prop where
 ok:∀e∈L,eX c e
 nd:(L.map (·.1)).Nodup
variable{L:List Ent}
theorem vE.len(h:vE c L):L.length<=256:=by
 have:=hZ (l:=L.map (·.1)) (m:=subs (aC c)) h.nd λk hk=>by
  obtain⟨e,he,rfl⟩:=aFv.mp hk;obtain⟨p,a⟩:=(h.ok e he).key;rw[a];exact rB p _
 rw[List.length_map,AW]at this;exact aG2 this (aJ4 (by decide) (cE c))
variable{acc:List Ent}
theorem S5{e x:Ent}(h:x∈bT acc e):x∈acc\/x=e:=by
 unfold bT at h;split at h
 ·exact .inl h
 ·simpa using h
theorem Y3(h:(acc.map (·.1)).Nodup):((bT acc e).map (·.1)).Nodup:=by
 unfold bT;split
 ·exact h
 ·rename_i n;rw[List.map_append,List.nodup_append];refine⟨h,by simp,λa d b c z=>n ?_⟩;simp at c;subst c;obtain⟨x,f,g⟩:=aFv.mp d;rw[List.any_eq_true];exact⟨x,f,by rw[g,z];simp⟩
theorem S6{k:List Nat}:(∃x∈bT acc e,x.1=k)↔(∃x∈acc,x.1=k)\/e.1=k:=by
 unfold bT;split
 ·rename_i h;rw[List.any_eq_true]at h;obtain⟨x,a,b⟩:=h;have b:x.1=e.1:=by simpa using b
  constructor
  ·exact .inl
  ·rintro(h | rfl)
   ·exact h
   ·exact⟨x,a,b⟩
 ·constructor
  ·rintro⟨x,a,rfl⟩;rcases aG5.mp a with h | h
   ·exact .inl ⟨x,h,rfl⟩
   ·simp at h;subst h;exact .inr rfl
  ·rintro(⟨x,a,rfl⟩ | rfl)
   ·exact⟨x,by simp[a],rfl⟩
   ·exact⟨e,by simp,rfl⟩
theorem fold_add:∀(l acc:List Ent),(acc.map (·.1)).Nodup->((l.foldl bT acc).map (·.1)).Nodup/\(∀x∈l.foldl bT acc,x∈acc\/x∈l)/\∀k,((∃x∈l.foldl bT acc,x.1=k)↔(∃x∈acc,x.1=k)\/∃x∈l,x.1=k)
 | [],acc,h=>⟨h,λx a=>.inl a,λk=>by simp⟩
 | e::l,acc,h=>by
  obtain⟨b,c,d⟩:=fold_add l (bT acc e) (Y3 h);refine⟨b,λx a=>?_,λk=>?_⟩
  ·rcases c x a with h | h
   ·rcases S5 h with h | rfl
    ·exact .inl h
    ·exact .inr aFr
   ·exact .inr (aFt _ h)
  ·rw[List.foldl_cons,d k,S6];simp[or_assoc]
theorem vE.level(h:vE c L):vE c (level c L):=by
 obtain⟨a,b,_⟩:=fold_add (L.flatMap (dI c)) [] (by simp);refine⟨λe he=>?_,a⟩;rcases b e he with z | z
 ·cases z
 ·obtain⟨x,d,hz⟩:=aJk.mp z;obtain⟨f,g,rfl⟩:=aFv.mp hz;exact(h.ok x d).next g
theorem rK{p:Nat->Bool}:∀{l:List Nat},(l.filter p).length=l.length->l.filter p=l
 | [],_=>rfl
 | a::r,h=>by
  rw[List.filter_cons]at h⊢;split at h
  ·rename_i hp;rw[if_pos hp,rK (by simpa using h)]
  ·have:=aGo p r;simp at h;lia
theorem len_sub(E:eX c e):e.1.length<=(aC c).length:=by
 obtain⟨p,a⟩:=E.key;rw[a];exact aGo ..
theorem BG(j:iI c)(h:vE c L){t:Nat}(ht:t<(aC c).length)(he:∃e∈L,e.1.length=t):∃e∈level c L,e.1.length=t+1:=by
 obtain⟨e,he,u⟩:=he;have E:=h.ok e he;obtain⟨p,f⟩:=E.key
 have b:∃w∈aC c,w∉e.1:=by
  refine aGc λd=>?_;have:(aC c).length<=e.1.length:=hZ (cM c) λw b=>aGc λz=>d ⟨w,b,z⟩
  lia
 obtain⟨w,b,d⟩:=b;obtain⟨v,g,i,k⟩:=SE j b d;have l:=II (c:=c) (qI.mpr ⟨g,i,k⟩);obtain⟨_,_,n⟩:=fold_add (L.flatMap (dI c)) [] (by simp);obtain⟨x,o,hk⟩:=(n (fV c e.1 [v])).mpr (.inr ⟨(fV c e.1 [v],e.2++[[v]]),aJk.mpr ⟨e,he,aFv.mpr ⟨[v],l,rfl⟩⟩,rfl⟩);refine⟨x,o,?_⟩;rw[hk];have q:∀w∈e.1,w∈aC c:=λw b=>by rw[f]at b;exact(aGz.mp b).1
 have knd:e.1.Nodup:=by rw[f];exact(cM c).filter _
 have n1:(v::e.1).Nodup:=aIe.mpr ⟨i,knd⟩;have n2:(fV c e.1 [v]).Nodup:=(cM c).filter _
 have r:=hZ n1 (m:=fV c e.1 [v]) λa ha=>by
  rw[mP];rcases aFy.mp ha with rfl | ha
  ·exact⟨g,by simp⟩
  ·exact⟨q a ha,.inl ha⟩
 have s:=hZ n2 (m:=v::e.1) λa ha=>by
  rw[mP]at ha;rcases ha.2 with h | h
  ·exact aFt _ h
  ·simp at h;subst h;exact aFr
 simp at r s;lia
theorem find_none(h:vE c L){t:Nat}(he:∃e∈L,e.1.length=t)(b:L.find? (λx=>x.1==aC c)=none):t<(aC c).length:=by
 obtain⟨e,he,d⟩:=he;have E:=h.ok e he;have:=len_sub E;rcases Nat.lt_or_ge t (aC c).length with z | z
 ·exact z
 ·have:=List.find?_eq_none.mp b e he;obtain⟨p,a⟩:=E.key;rw[a,rK (by rw[<-a];lia)]at this;simp at this
theorem GF{c:aO}(d:iI c):∀(n t:Nat) (L:List Ent),vE c L->(∃e∈L,e.1.length=t)->t<=(aC c).length->(aC c).length<t+n->eX c (aC c,BX c n L)
 | 0,t,L,_,_,a,b=>by lia
 | n+1,t,L,h,he,a,b=>by
  unfold BX
  cases hf:L.find? (λx=>x.1==aC c) with
  | some e=>
   have a:=List.mem_of_find?_eq_some hf;have b:e.1=aC c:=by have:=List.find?_some hf;simpa using this
   have:=h.ok e a;rw[<-b];exact this
  | none=>
   have lt:=find_none h he hf;exact GF d n (t+1) _ h.level (BG d h lt he) (by lia) (by lia)
theorem lv0(c:aO):vE c [([],[])]:=⟨λe he=>by simp at he;subst he;exact aFb c,by simp⟩
theorem FN(a:iI c):eX c (aC c,rowsOf c):=GF a 9 0 _ (lv0 c) ⟨_,aFr,rfl⟩ (aGm _) (by have:=cE c;lia)
theorem BW:∀{R:List (List Nat)},(∀f∈R,f≠[])->R.length<=R.flatten.length
 | [],_=>aFq _
 | f::R,h=>by
  have:=BW (R:=R) λg hg=>h g (aFt _ hg);have b:=h f aFr
  cases f with
  | nil=>exact absurd rfl b
  | cons a f=>simp at this⊢;lia
theorem eX.U8(E:eX c e):e.2.flatten.length<=8/\e.2.length<=8:=by
 have f:∀w∈e.1,w∈aC c:=λw d=>by obtain⟨p,g⟩:=E.key;rw[g]at d;exact(aGz.mp d).1
 have a:=hZ E.nd (m:=aC c) λw d=>f w ((E.mem w).mpr d);have b:=BW E.ne;have:=cE c;exact⟨by lia,by lia⟩
def CP(R:List (List Nat))(w:Nat):Nat:=R.findIdx λf=>f.contains w
variable{R:List (List Nat)}{i:Nat}
theorem yB(nd:R.flatten.Nodup)(b:R[i]? =some f)(d:w∈f):CP R w=i:=by
 have hi:=(aFp.mp b).1;unfold CP
 have h0:∀j g,R[j]? =some g->w∈g->j=i:=by
  clear hi
  induction R generalizing i with
  | nil=>intro j g h;simp at h
  | cons a R ih=>
   simp only[List.flatten_cons,List.nodup_append]at nd;intro j g c hg
   cases i with
   | zero=>
    simp at b;subst b
    cases j with
    | zero=>rfl
    | succ j=>
     simp at c;exact absurd rfl (nd.2.2 w d w (aHs.mpr ⟨g,aFx c,hg⟩))
   | succ i=>
    simp at b
    cases j with
    | zero=>simp at c;subst c;exact absurd rfl (nd.2.2 w hg w (aHs.mpr ⟨f,aFx b,d⟩))
    | succ j=>simp at c;rw[ih nd.2.1 b j g c hg]
 have e:R.findIdx (λf=>f.contains w)<R.length:=List.findIdx_lt_length_of_exists ⟨f,aFx b,by simpa using d⟩;have:=List.findIdx_getElem (w:=e);exact h0 _ _ (aGi e) (by simpa using this)
theorem qC(E:eX c (aC c,R))(b:w∈aC c):∃f,R[CP R w]? =some f/\w∈f:=by
 obtain⟨f,d,a⟩:=aHs.mp ((E.mem w).mp b);obtain⟨i,hi⟩:=aGw.mp d;exact⟨f,by rw[yB E.nd hi a];exact hi,a⟩
theorem UU(E:eX c (aC c,R))(a:w∈aC c):CP R w<R.length:=by
 obtain⟨f,b,_⟩:=qC E a;exact(aFp.mp b).1
theorem OX(E:eX c (aC c,R))(hi:i<R.length):∃w∈aC c,CP R w=i:=by
 have a:R[i]? =some R[i]:=aGi hi;generalize R[i]=f at a;have d:=aFx a;have b:=E.ne f d;obtain⟨w,e⟩:=aHi f b;exact⟨w,(E.mem w).mpr (aHs.mpr ⟨f,d,e⟩),yB E.nd a e⟩
theorem UT(E:eX c (aC c,R)){u w:Nat}(h:u∈ups c w):CP R u<CP R w:=by
 obtain⟨f,b,a⟩:=qC E (AU h).2.1;obtain⟨j,g,d,e,i⟩:=E.ord _ f b w a u h;rw[yB E.nd e i];exact d
variable{α:Type}
theorem VC{P:α->α->Prop}{l:List α}(h:l.Pairwise P)(c:∀a b,P a b->P b a){a b:α}(e:a∈l)(f:b∈l)(ne:a≠b):P a b:=by
 induction l with
 | nil=>cases e
 | cons x l ih=>
  rw[List.pairwise_cons]at h;rcases aFy.mp e with g | ha0
  ·rcases aFy.mp f with d | hb0
   ·exact absurd (g.trans d.symm) ne
   ·rw[g];exact h.1 b hb0
  ·rcases aFy.mp f with d | hb0
   ·rw[d];exact c _ _ (h.1 a ha0)
   ·exact ih h.2 ha0 hb0
theorem GZ(E:eX c (aC c,R)){u w:Nat}(j:u∈aC c)(k:w∈aC c)(ne:u≠w)(h:CP R u=CP R w):gL c u w=false:=by
 obtain⟨f,i,d⟩:=qC E k;obtain⟨g,hg,e⟩:=qC E j;rw[h,i]at hg;cases hg;exact VC (E.apart f (aFx i)) (λa b h=>by rw[t8];exact h) e d ne
def tI(c:aO)(a:Nat):Nat:=((spans c).filter λs=>meets s ⟨0,a,a⟩).length
def kN(c:aO)(a b:Nat):Option Nat:=(List.range b).find? λk=>tI c k==a
def eW(c:aO):Nat->Nat->Option (List Nat)
 | 0,_=>none
 | 1,w=>some [w]
 | n+2,w=>(ups c w).findSome? λu=>(eW c (n+1) u).map (· ++[w])
theorem xQ{c:aO}:∀{n w:Nat} {l:List Nat},eW c n w=some l->l.length=n
 | 0,_,_,h=>by cases h
 | 1,_,_,h=>by cases h;rfl
 | n+2,w,l,h=>by
  unfold eW at h;obtain⟨u,b,h⟩:=List.exists_of_findSome?_eq_some h;obtain⟨d,a,rfl⟩:=aFw.mp h;simp[xQ a]
def FE(S:Nat->Prop)(M a :MH):Prop:=M.length<=a.length/\∀(m:Nat) o,M[m]? =some o->∃o',a[m]? =some o' /\(o' =o\/S m/\∃t kvs ob,o= .bI t kvs/\o' = .eY t kvs ob)
section
variable {S T:Nat->Prop}{M N P:MH}{n:Nat}
theorem FE.refl:FE S M M:=⟨aFq _,λ_ o h=>⟨o,h,.inl rfl⟩⟩
theorem FE.trans(a:FE S M N)(b:FE S N P):FE S M P:=⟨aG2 a.1 b.1,λm o h=>by
 obtain⟨o1,e,f⟩:=a.2 m o h;obtain⟨g,i,c⟩:=b.2 m o1 e;refine⟨g,i,?_⟩;rcases f with rfl | ⟨s,t,kvs,ob,rfl,rfl⟩
 ·exact c
 ·rcases c with rfl | ⟨_,t',d,j,z,_⟩
  ·exact .inr ⟨s,t,kvs,ob,rfl,rfl⟩
  ·cases z⟩
theorem FE.sub(a:FE S M N)(h:∀m,S m->T m):FE T M N:=⟨a.1,λm o e=>by
 obtain⟨o1,b,c⟩:=a.2 m o e
 exact⟨o1,b,c.imp id λz=>⟨h _ z.1,z.2⟩⟩⟩
theorem FE.push(a:FE S M N)(x:MO):FE S M (N++[x]):=⟨by have:=a.1;simp;lia,λm o e=>by
 obtain⟨o1,b,c⟩:=a.2 m o e
 exact⟨o1,aL b,c⟩⟩
theorem FE.set(a:FE S M N)(h:M.length<=n)(x:MO):FE S M (N.set n x):=⟨by have:=a.1;simpa using this,λm o e=>by
 obtain⟨o1,b,c⟩:=a.2 m o e
 exact⟨o1,get_set b (by have:=iD e;lia),c⟩⟩
theorem FE.lst{l:List D}(a:FE S M N)(h:M[n]? =some (.lst l)):N[n]? =some (.lst l):=by
 obtain⟨o1,b,c⟩:=a.2 n _ h;rcases c with rfl | ⟨_,t,kvs,ob,z,_⟩
 ·exact b
 ·cases z
variable{t:Bool}{kvs:List (D×D)}
theorem FE.eY{ob:Obj}(a:FE S M N)(h:M[n]? =some (.eY t kvs ob)):N[n]? =some (.eY t kvs ob):=by
 obtain⟨o1,b,c⟩:=a.2 n _ h;rcases c with rfl | ⟨_,t,kvs,ob,z,_⟩
 ·exact b
 ·cases z
theorem FE.bI(a:FE S M N)(h:M[n]? =some (.bI t kvs))(b:¬S n):N[n]? =some (.bI t kvs):=by
 obtain⟨o1,c,d⟩:=a.2 n _ h;rcases d with rfl | ⟨s,_⟩
 ·exact c
 ·exact absurd s b
theorem FE.dm(a:FE S M N)(h:gY M n t kvs):gY N n t kvs:=by
 rcases h with h | ⟨ob,h⟩
 ·obtain⟨o1,b,d⟩:=a.2 n _ h;rcases d with rfl | ⟨_,t',c,ob,z,rfl⟩
  ·exact .inl b
  ·cases z;exact .inr ⟨ob,b⟩
 ·exact .inr ⟨ob,a.eY h⟩
theorem FE.rY(h:M[n]? =some (.bI t kvs))(s:S n)(ob:Obj):FE S M (M.set n (.eY t kvs ob)):=⟨by simp,λm o e=>by
 by_cases z:m=n
 ·subst z;rw[h]at e;cases e;exact⟨_,cH _ h,.inr ⟨s,_,_,ob,rfl,rfl⟩⟩
 ·exact⟨o,get_set e (aGd z),.inl rfl⟩⟩
end
variable{n:Nat}{kvs:List (D×D)}{M:MH}
theorem kU{t:Bool}{b:c9}{P:List D->(MH->Prop)->MH->Prop}(r:b[i]? =some (some (.ref n)))(h:gY M n t kvs)(s:S n)
  (q:∀ob a,FE S M a ->a[n]? =some (.eY t kvs ob)->P (kvs.map (·.1)) (λmh' =>mh'[n]? =some (.eY t kvs ob)) a):mD (aA i) b M P:=by
 unfold mD;rw[J4,r];refine⟨n,t,kvs,rfl,?_⟩;rcases h with h | ⟨ob,h⟩
 ·exact .inl ⟨h,λob=>q ob _ (FE.rY h s ob) (cH _ h)⟩
 ·exact .inr ⟨ob,h,q ob M FE.refl h⟩
theorem NL{α m:Type}{g:WG}{t:WT}{w:WE}{ρe:c9}{St:MH->Prop}{Q:DK}(em:α->D)(p:α->Bool)(f:α->m)(j:m->D)(I:MH->Prop):∀(ds:List α) (c:List m) {M:MH},I M->(∀M,I M->St M)->
  (∀d∈ds,∀M,I M->∀(N:DK) (L:MH->Prop),(∀a,I a ->p d=true->N (j (f d)) a)->(∀a,I a ->p d=false->L a)->g (em d) ρe λk=>t k M λb l=>if b=true then w k l N else L l)->
  (∀M,I M->Q (.ref M.length) (M++[.lst ((c++(ds.filter p).map f).map j)]))->m4 g t w ρe St Q (ds.map em) (c.map j) M
 | [],c,M,i,hst,_,q=>⟨hst M i,by simpa using q M i⟩
 | d::ds,c,M,i,hst,h,q=>by
  refine⟨hst M i,h d aFr M i _ _ (λa n e=>?_) λa n e=>?_⟩
  ·have:=NL (g:=g) (t:=t) (w:=w) (ρe:=ρe) (St:=St) (Q:=Q) em p f j I ds (c++[f d]) n hst (λd hd=>h d (aFt _ hd)) λM i=>by
    have:=q M i;rw[List.filter_cons,if_pos e]at this;simpa using this
   rw[List.map_append]at this;exact this
  ·exact NL em p f j I ds c n hst (λd hd=>h d (aFt _ hd)) λM i=>by
    have:=q M i;rw[List.filter_cons,if_neg (by simp[e])]at this;exact this
variable{Q:DK}
theorem jH{α l:Type}{g:WG}{t:WT}{w:WE}{ρe:c9}{St:MH->Prop}(em:α->D)(p:α->Bool)(f:α->l)(j:l->D)(I:MH->Prop)(ds:List α)(i:I M)(k:∀M,I M->St M)
  (h:∀d∈ds,∀M,I M->∀(N:DK) (L:MH->Prop),(∀a,I a ->p d=true->N (j (f d)) a)->(∀a,I a ->p d=false->L a)->g (em d) ρe λc=>t c M λb e=>if b=true then w c e N else L e)
  (q:∀M,I M->Q (.ref M.length) (M++[.lst (((ds.filter p).map f).map j)])):m4 g t w ρe St Q (ds.map em) [] M:=NL em p f j I ds [] i k h q
def nD(k:Nat):D:= .int (k:Nat)
def aM(l:List Nat):D:= .tup (l.map nD)
def spT(s:Sp):D:= .tup [nD s.a,nD s.b]
def C3(c:aO):List (D×D):=(spans c).map λs=>(nD s.w,spT s)
variable{a b:Nat}
theorem dO(h:nD a=nD b):a=b:=by unfold nD at h;have:=D.int.inj h;lia
def N7(c:aO)(M:MH)(n:Nat):Prop:=∃kvs,gY M n false kvs/\kvs.map (·.1)=(aC c).map nD/\∀w∈aC c,∃r,aT kvs (nD w)=some (.ref r)/\M[r]? =some (.lst ((ups c w).map nD))
theorem N7.fe{M N:MH}(u:N7 c M n)(a:FE S M N):N7 c N n:=by
 obtain⟨kvs,b,d,e⟩:=u;exact⟨kvs,a.dm b,d,λw f=>by obtain⟨r,g,h⟩:=e w f;exact⟨r,g,a.lst h⟩⟩
theorem UM{l:List Sp}{s:Sp}(nd:(l.map (·.w)).Nodup)(h:s∈l):aT (l.map λs=>(nD s.w,spT s)) (nD s.w)=some (spT s):=by
 induction l with
 | nil=>cases h
 | cons a l ih=>
  simp only[List.map_cons,List.nodup_cons]at nd;simp only[List.map_cons,aT];rcases aFy.mp h with rfl | h
  ·rw[if_pos rfl]
  ·rw[if_neg λz=>nd.1 (by rw[dO z];exact List.mem_map.mpr ⟨s,h,rfl⟩)];exact ih nd.2 h
theorem nA(h:w∈aC c):aT (C3 c) (nD w)=some (spT (FH c w)):=by
 obtain⟨s,a,rfl⟩:=aFv.mp h;rw[sM a];exact UM (cM c) a
theorem mS{d:D}(h:gY M n false kvs)(e:aT kvs (nD w)=some d)(q:Q d M):oK (.ref n) (nD w) M Q:=⟨n,kvs,.inl (w:Nat),d,rfl,h,rfl,e,q⟩
def wW:OA:=λds mh Q=>∃s t:Sp,ds=[spT s,spT t]/\Q (.bl (meets s t)) mh
theorem X6(ds:List D)(mh:MH)(R:DK)(ok:oV mh)(c:wW ds mh R):x3 (En mh R) (aQ ["one","other"] ds) mh:=by
 obtain⟨s,t,rfl,q⟩:=c;simp[x3,aQ,spT,nD,CI];by_cases h:s.a<=t.b
 ·rw[if_pos (by exact_mod_cast h)];refine aY ?_;simpa[meets,h] using q
 ·rw[if_neg (by exact_mod_cast h)];refine aY ?_;simpa[meets,h] using q
def qX:Nat->Prop:=λ_=>False
def G5:OA:=λds mh Q=>∃(c:aO) (s:Nat) (x:D) (ws:List Nat),ds=[.ref s,x]/\aX mh x=some (ws.map nD)/\gY mh s false (C3 c)/\ws.Sublist (aC c)/\
 ∀M l,FE qX mh M->M[l]? =some (.lst ((fills c ws).map aM))->Q (.ref l) M
theorem Q5(a:ws.Sublist (aC c))(i:Nat)(h:f∈eT c (ws.take i)):∀w∈f,w∈aC c:=λw b=>by
 have:=((nJ c _ _ rfl).2.2.1 f h).1;exact a.subset (aGy (this.subset b))
theorem aC2(ds:List D)(mh:MH)(R:DK)(ok:oV mh)(J:G5 ds mh R):kG wW (En mh R) (aQ ["spans","wires","told","wire","more"] ds) mh:=by
 obtain⟨c,s,x,ws,rfl,b,hd,v,q⟩:=J;have sz:=aGb;have V:ws.length<=8:=aG2 v.length_le (cE c);simp[kG,aQ,o3];have k:FE qX mh (mh++[MO.lst [D.tup []]]):=FE.refl.push _;have G:(mh++[MO.lst [D.tup []]])[mh.length]? =some (.lst ((eT c (ws.take 0)).map aM)):=by simp[eT,aM]
 have f:aX (mh++[MO.lst [D.tup []]]) x=some (ws.map nD):=by
  cases x with
  | tup _=>exact b
  | fl _=>exact b
  | ref n=>
   simp only[aX]at b⊢
   cases e:mh[n]? with
   | none=>rw[e]at b;cases b
   | some o=>rw[aL e];rw[e]at b;exact b
  | _=>simp[aX]at b
 have keep:∀{M:MH},FE qX (mh++[MO.lst [D.tup []]]) M->aX M x=some (ws.map nD):=λ{M} a=>by
  cases x with
  | tup _=>exact b
  | fl _=>exact b
  | ref n=>
   simp only[aX]at f⊢;split at f
   ·rename_i e;rw[a.lst e];exact f
   ·cases f
  | _=>simp[aX]at b
 generalize mh++[MO.lst [D.tup []]]=K at k G f keep⊢;rw[f];simp only[aF];refine⟨by lia,?_⟩;refine bM (λi y M=>FE qX K M/\∃r A B,y=[some (.ref s),some x,some (.ref r),A,B]/\M[r]? =some (.lst ((eT c (ws.take i)).map aM))) _ (λ_ _ _ h=>keep h.1) ?_ ?_ ⟨FE.refl,_,_,_,rfl,G⟩
 ·rintro i d y M N hi ⟨fe,r,A,B,rfl,l⟩ nx;rw[List.getElem?_map]at hi;obtain⟨w,C,rfl⟩:=aFw.mp hi;have L:=(aFp.mp C).1;have E:w∈aC c:=v.subset (aFx C);have tk:ws.take (i+1)=ws.take i++[w]:=by rw[List.take_add_one,C];rfl
  have fl:=(nJ c _ (ws.take i) rfl).1;have O:(eT c (ws.take i)).length<=256:=aG2 fl (aJ4 (i:=(ws.take i).length) (j:=8) (by decide) (by rw[List.length_take];lia));simp[nR,kZ,aU l];refine jH aM (λown=>!(own.any λo=>gL c w o)) (· ++[w]) aM (λm =>FE qX M m) _ FE.refl (λm a=>aU (a.lst l)) ?_ ?_
  ·intro own g P t W X n1 l1;have F:=Q5 v i g
   have Y:own.length<=8:=by
    have:=((nJ c _ _ rfl).2.2.1 own g).1.length_le;simp at this;lia
   simp[dD,aM];refine jH nD (λ_=>true) (λo=>gL c w o) D.bl (λm =>FE qX M m) own t (λm _=>rfl) ?_ ?_
   ·intro o ho M2 p Z L2 n2 l2;simp[dD];have H:gY M2 s false (C3 c):=p.dm (fe.dm (k.dm hd));refine mS H (nA E) (mS H (nA (F o ho)) ⟨_,_,rfl,n2 _ p rfl⟩)
   ·intro M2 p;rw[List.filter_eq_self.mpr (λ_ _=>rfl)];rw[C6 (bs:=own.map λo=>gL c w o) (bF _ _)];simp[jA];by_cases u:∃x,x∈own/\gL c w x=true
    ·rw[if_pos u];refine l1 _ (p.push _) ?_;obtain⟨x,Q,S⟩:=u;rw[Bool.not_eq_false',List.any_eq_true];exact⟨x,Q,S⟩
    ·rw[if_neg u];refine⟨by lia,by lia,?_⟩
     have:=n1 _ (p.push (MO.lst (List.map (D.bl ∘ λo=>gL c w o) own))) (by
      rw[Bool.not_eq_true',List.any_eq_false]
      exact λx b h=>u ⟨x,b,h⟩)
     simpa[aM] using this
  ·intro P t;have T:(eT c (ws.take (i+1))).length<=256:=aG2 (nJ c _ (ws.take (i+1)) rfl).1 (aJ4 (i:=(ws.take (i+1)).length) (j:=8) (by decide) (by rw[List.length_take];lia))
   have I:(eT c (ws.take i)).map aM++((eT c (ws.take i)).filter (λown=>!own.any λo=>gL c w o)).map (λown=>aM (own++[w]))=(eT c (ws.take (i+1))).map aM:=by
    rw[tk,xG];unfold uL;rw[List.map_append,List.map_map];rfl
   have U:=aGx List.length I;simp only[List.length_append,List.length_map]at U;rw[List.map_map];refine(J8 (aL (t.lst l)) (bF _ _)).mpr ⟨by simp only[List.length_append,List.length_map];lia,nx _ _ ⟨(fe.trans (t.push _)).push _,_,_,_,rfl,?_⟩⟩;rw[bF];exact aGx (λz=>some (MO.lst z)) I
 ·rintro y M ⟨fe,r,A,B,rfl,l⟩;have e:ws.take (ws.map nD).length=ws:=by rw[List.length_map,List.take_length]
  rw[e]at l;simp[oZ];rw[TX l];refine aY (q _ _ ((k.trans fe).push _) ?_);rw[bF,IP];unfold fills;rw[List.map_tail]
def G4:OA:=λds mh Q=>∃(c:aO) (u:Nat) (l:List Nat),ds=[.ref u,aM l]/\N7 c mh u/\Wc c/\l.length<=8/\∀M r,FE (· =u) mh M->M[r]? =some (.lst ((frees c l).map nD))->Q (.ref r) M
theorem eqN(a b:Nat):iZ (nD a) (nD b)=decide (a=b):=by
 unfold nD;by_cases h:a=b <;> simp[iZ,h] <;> lia
theorem in_nums{w:Nat}:∀(l:List Nat),inD (nD w) (l.map nD)=l.contains w
 | []=>by simp[inD]
 | a::l=>by
  have b:=in_nums (w:=w) l;simp only[List.map_cons,List.contains_cons];unfold inD at b⊢;rw[List.any_cons,b,eqN];congr 1;by_cases h:a=w
  ·subst h;simp
  ·have:¬w=a:=λz=>h z.symm;simp[h,this]
theorem xE(l:List Nat):(l.map nD).all lJ=true:=by
 rw[List.all_eq_true];intro d hd;obtain⟨k,_,rfl⟩:=aFv.mp hd;rfl
theorem BU{x:D}(h:aX M x=some (l.map nD))(q:Q (.bl (l.contains w)) M):T9 (nD w) x M Q:=by
 cases x with
 | str _=>cases h
 | _=>exact⟨_,h,rfl,xE l,by show Q (.bl (inD (nD w) _)) M;rw[in_nums];exact q⟩
theorem A9{x:D}(h:aX M x=some (l.map nD))(q:Q (.bl !(l.contains w)) M):tY (nD w) x M Q:=by
 cases x with
 | str _=>cases h
 | _=>exact⟨_,h,rfl,xE l,by show Q (.bl !(inD (nD w) _)) M;rw[in_nums];exact q⟩
theorem aC1(ds:List D)(mh:MH)(R:DK)(ok:oV mh)(k:G4 ds mh R):gR (En mh R) (aQ ["uppers","laid"] ds) mh:=by
 obtain⟨c,u,l,rfl,m,x,y,q⟩:=k;have sz:=aGb;simp[gR,aQ];obtain⟨kvs,hd,hk,hv⟩:=m;refine kU (S:=(· =u)) rfl hd rfl λob j b n=>?_;rw[hk];refine jH nD (λw=>!(l.contains w) && (ups c w).all λv=>l.contains v) id nD (λf =>FE (· =u) j f) _ FE.refl (λf a=>a.eY n) ?_ ?_
 ·intro w o p e z A n1 l1;obtain⟨r,s,d⟩:=hv w o;have h:=(b.trans e).lst d;have i:=(b.trans e).dm hd;simp[dD,aM];refine A9 (l:=l) rfl ?_;simp only[c7,aF]
  cases hc:l.contains w with
  | true=>exact l1 _ e (by rw[hc];rfl)
  | false=>
   rw[if_pos (show (!false)=true from rfl)];refine mS i s ?_;rw[aU h];simp only[aF];refine jH nD (λ_=>true) (λv=>l.contains v) D.bl (λf =>FE (· =u) j f) (ups c w) e (λf a=>aU (a.lst (b.lst d))) ?_ ?_
   ·intro v t M2 g B C n2 l2;simp;exact BU (l:=l) rfl (n2 _ g rfl)
   ·intro M2 g;rw[List.filter_eq_self.mpr (λ_ _=>rfl)];rw[C7 (bs:=(ups c w).map λv=>l.contains v) (bF _ _)];rw[show ((ups c w).map λv=>l.contains v).all id=(ups c w).all λv=>l.contains v by rw[List.all_map];rfl];simp only[jA,aF]
    cases ha:(ups c w).all λv=>l.contains v with
    | true=>exact n1 _ (g.push _) (by rw[hc,ha];rfl)
    | false=>exact l1 _ (g.push _) (by rw[hc,ha];rfl)
 ·intro p e;refine aY (q _ _ ((b.trans e).push _) ?_);rw[bF,List.map_id];rfl
def QT:Option Nat->D
 | none=>.bU
 | some k=>nD k
def YT:Option (List Nat)->D
 | none=>.bU
 | some l=>aM l
def PB:OA:=λds mh Q=>∃(c:aO) (s m k:Nat),ds=[.ref s,nD m,nD k]/\gY mh s false (C3 c)/\k<=12/\∀M,FE (· =s) mh M->Q (QT (kN c m k)) M
theorem sL(c:aO):(C3 c).map (·.1)=(aC c).map nD:=by simp[C3,aC]
theorem JP(c:aO)(k:Nat):((aC c).filter λw=>meets (FH c w) ⟨0,k,k⟩).length=tI c k:=by
 unfold tI aC;rw[List.filter_map,List.length_map];congr 1;apply List.filter_congr;intro s a;simp[sM a]
theorem aBr(ds:List D)(mh:MH)(R:DK)(ok:oV mh)(r:PB ds mh R):eE wW (En mh R) (aQ ["spans","many","wide","column"] ds) mh:=by
 obtain⟨c,s,m,k,rfl,hd,hk,q⟩:=r;have sz:=aGb;have y:=cE c;simp[eE,aQ,nD];refine⟨by lia,?_⟩;refine bM (λi o M=>FE (· =s) mh M/\(∃a,o=[some (.ref s),some (nD m),some (nD k),a])/\∀j,j<i->tI c j≠m) _ (λ_ _ _ _=>trivial) ?_ ?_ ⟨FE.refl,⟨_,rfl⟩,λj h=>by lia⟩
 ·rintro i d o M N hi ⟨fe,⟨a,rfl⟩,l⟩ nx;obtain⟨hi,rfl⟩:=nC hi;simp[iP];refine kU (S:=(· =s)) rfl (fe.dm hd) rfl λob t b u=>?_;rw[sL];refine jH nD (λw=>meets (FH c w) ⟨0,i,i⟩) id nD (λp =>FE (· =s) t p) _ FE.refl (λp a=>a.eY u) ?_ ?_
  ·intro w v x f z A n1 l1;simp[dD];refine mS ((fe.trans (b.trans f)).dm hd) (nA v) ⟨by lia,FH c w,⟨0,i,i⟩,by simp[spT,nD],?_⟩;simp only[jA,aF]
   cases hm:meets (FH c w) ⟨0,i,i⟩ with
   | true=>exact n1 _ f hm
   | false=>exact l1 _ f hm
  ·intro x f;rw[mK (bF _ _)];rw[List.map_id,List.length_map,JP];simp[nD];have g:=(fe.trans (b.trans f)).push (MO.lst (List.map nD (List.filter (λw=>meets (FH c w) ⟨0,i,i⟩) (aC c))));by_cases e:tI c i=m
   ·rw[if_pos (by exact_mod_cast e)];refine aY ?_
    have:kN c m k=some i:=by
     unfold kN;rw[List.find?_range_eq_some];exact⟨by simpa using e,by simp;lia,λj n=>by simpa using l j n⟩
    have:=this▸q _ g;simpa[QT,nD] using this
   ·rw[if_neg (by exact_mod_cast e)];refine nx _ _ ⟨g,⟨_,rfl⟩,λj n=>?_⟩;by_cases h:j=i
    ·rw[h];exact e
    ·exact l j (by lia)
 ·rintro o M ⟨fe,⟨a,rfl⟩,l⟩;simp[jJ];refine aY ?_
  have:kN c m k=none:=by
   unfold kN;rw[List.find?_range_eq_none];intro j n;simpa using l j (by simpa[jC] using n)
  have:=this▸q _ fe;exact this
theorem UH{α c:Type}{f:α->Option c}{l:List α}{x:α}{y:c}(d:∀j,j<i->∀u,l[j]? =some u->f u=none)(b:l[i]? =some x)(e:f x=some y):l.findSome? f=some y:=by
 induction l generalizing i with
 | nil=>simp at b
 | cons a l ih=>
  cases i with
  | zero=>simp at b;subst b;simp[List.findSome?_cons,e]
  | succ i=>
   have:=d 0 (by lia) a rfl;rw[List.findSome?_cons,this];exact ih (i:=i) (λj h u g=>d (j+1) (by lia) u (by simpa using g)) (by simpa using b)
theorem UG{α b:Type}{f:α->Option b}{l:List α}(c:∀j,j<l.length->∀u,l[j]? =some u->f u=none):l.findSome? f=none:=by
 rw[List.findSome?_eq_none_iff];intro x d;obtain⟨j,a⟩:=aGw.mp d;exact c j (aFp.mp a).1 x a
def ZE(n:Nat):OA:=λds mh Q=>∃(c:aO) (u w k:Nat),ds=[.ref u,nD w,nD k]/\(1<=k/\k<=n/\k<=8)/\N7 c mh u/\Wc c/\w∈aC c/\∀M,FE qX mh M->Q (YT (eW c k w)) M
theorem aF8(n:Nat)(ds:List D)(mh:MH)(R:DK)(ok:oV mh)(C:ZE (n+1) ds mh R):kH (ZE n) (En mh R) (aQ ["uppers","wire","many","upper","ahead"] ds) mh:=by
 obtain⟨c,u,w,k,rfl,⟨I,J,K⟩,B,E,F,q⟩:=C;have sz:=aGb;simp[kH,aQ,nD];by_cases e:k=1
 ·subst e;simp;refine⟨by lia,aY ?_⟩;have:=q _ FE.refl;simpa[eW,YT,aM,nD] using this
 ·rw[if_neg (by lia)]
  obtain⟨f,rfl⟩:∃f,k=f +2:=⟨k-2,by lia⟩
  obtain⟨kvs,hd,hk,hv⟩:=id B;obtain⟨r,G,o⟩:=hv w F;simp[o6];refine mS (w:=w) hd G ?_;rw[aU o];simp only[aF];refine bM (λi z M=>FE qX mh M/\(∃a b,z=[some (.ref u),some (nD w),some (nD (f +2)),a,b])/\∀j,j<i->∀v,(ups c w)[j]? =some v->eW c (f +1) v=none) _ (λ_ _ _ h=>aU (h.1.lst o)) ?_ ?_ ⟨FE.refl,⟨_,_,rfl⟩,λj h=>by lia⟩
  ·rintro i d z M N hi ⟨fe,⟨a,b,rfl⟩,t⟩ nx;rw[List.getElem?_map]at hi;obtain⟨v,g,rfl⟩:=aFw.mp hi;have H:=aFx g;simp[nS,nD];refine⟨c,u,v,f +1,by simp[nD];lia,⟨by lia,by lia,by lia⟩,B.fe fe,E,(AU H).1,λM2 p=>?_⟩
   cases ec:eW c (f +1) v with
   | none=>
    simp[fX,YT,mU];refine nx _ _ ⟨fe.trans p,⟨_,_,rfl⟩,λj y s m=>?_⟩;by_cases h:j=i
    ·subst h;rw[g]at m;cases m;exact ec
    ·exact t j (by lia) s m
   | some l=>
    have L:=xQ ec;simp[fX,YT,aM,mU];refine⟨by lia,by lia,aY ?_⟩
    have A:eW c (f +2) w=some (l++[w]):=by
     unfold eW;exact UH (i:=i) (x:=v) (λj y s m=>by rw[t j y s m];rfl) g (by rw[ec];rfl)
    have:=A▸q _ (fe.trans p);simpa[YT,aM,nD] using this
  ·rintro z M ⟨fe,⟨a,b,rfl⟩,t⟩;simp[o5];refine aY ?_
   have A:eW c (f +2) w=none:=by
    unfold eW;exact UG λj y s m=>by rw[t j (by simpa using y) s m];rfl
   have:=A▸q _ fe;exact this
def gU(c:aO)(m k:Nat):D:=match kN c m k with
 | some j=>.tup [.str "thick",nD j]
 | none=>match (aC c).findSome? (eW c m) with
  | some l=>.tup [.str "chain",aM l]
  | none=>.tup [.str "all"]
def PH:OA:=λds mh Q=>∃(c:aO) (s u m k:Nat),ds=[.ref s,.ref u,nD m,nD k]/\gY mh s false (C3 c)/\N7 c mh u/\Wc c/\k<=12/\(aC c≠[]->1<=m/\m<=8)/\∀M,FE (λn=>n=s\/n=u) mh M->Q (gU c m k) M
theorem aBw(ds:List D)(mh:MH)(R:DK)(ok:oV mh)(E:PH ds mh R):gQ PB (ZE 8) (En mh R) (aQ ["spans","uppers","many","wide","column","wire","chain"] ds) mh:=by
 obtain⟨c,s,u,m,k,rfl,hd,B,F,hk,p,q⟩:=E;have sz:=aGb;simp[gQ,aQ];refine⟨c,s,m,k,by simp,hd,hk,λG e=>?_⟩;have e:FE (λn=>n=s\/n=u) mh G:=e.sub λ_ h=>.inl h
 cases et:kN c m k with
 | some j=>
  simp[g6,QT,mU,nD];refine⟨by lia,aY ?_⟩;have:=q _ e;unfold gU at this;rw[et]at this;exact this
 | none=>
  simp[g6,QT,mU,lV];obtain⟨kvs,t,w,hv⟩:=B.fe e;refine kU (S:=λn=>n=s\/n=u) rfl t (.inr rfl) λob M2 g H=>?_;rw[w];refine bM (λi x M=>FE (λn=>n=s\/n=u) M2 M/\(∃a b,x=[some (.ref s),some (.ref u),some (nD m),some (nD k),some .bU,a,b])/\∀j,j<i->∀v,(aC c)[j]? =some v->eW c m v=none) _ (λ_ _ _ h=>h.1.eY H) ?_ ?_ ⟨FE.refl,⟨_,_,rfl⟩,λj h=>by lia⟩
  ·rintro i d x M N hi ⟨fe,⟨a,b,rfl⟩,r⟩ nx;rw[List.getElem?_map]at hi;obtain⟨v,o,rfl⟩:=aFw.mp hi;have y:=aFx o;have p:=p λz=>by rw[z]at y;cases y
   simp[kY];refine⟨c,u,v,m,by simp,⟨p.1,p.2,p.2⟩,B.fe (e.trans (g.trans fe)),F,y,λI f=>?_⟩;have f:FE (λn=>n=s\/n=u) M I:=f.sub λ_ h=>h.elim
   cases ec:eW c m v with
   | none=>
    simp[eF,YT,mU];refine nx _ _ ⟨fe.trans f,⟨_,_,rfl⟩,λj C J A=>?_⟩;by_cases h:j=i
    ·subst h;rw[o]at A;cases A;exact ec
    ·exact r j (by lia) J A
   | some l=>
    simp[eF,YT,mU,aM];refine⟨by lia,aY ?_⟩;have:=q _ (e.trans (g.trans (fe.trans f)));unfold gU at this;rw[et,UH r o ec]at this;exact this
  ·rintro x M ⟨fe,⟨a,b,rfl⟩,r⟩;simp[lU];refine⟨by lia,aY ?_⟩;have:=q _ (e.trans (g.trans fe));unfold gU at this;rw[et,UG λj C v h=>r j (by simpa using C) v h]at this;exact this
theorem FE.over{S T:Nat->Prop}{M N P:MH}(a:FE S M N)(b:FE T N P)(h:∀m,m<M.length->T m->S m):FE S M P:=⟨aG2 a.1 b.1,λm o e=>by
 obtain⟨o1,f,c⟩:=a.2 m o e;obtain⟨g,i,j⟩:=b.2 m o1 f;refine⟨g,i,?_⟩;rcases j with rfl | ⟨t,tt,kvs,ob,rfl,rfl⟩
 ·exact c
 ·rcases c with rfl | ⟨_,t',d,k,_,z⟩
  ·exact .inr ⟨h m (iD e) t,tt,kvs,ob,rfl,rfl⟩
  ·cases z⟩
theorem mI(l:List Nat):EL (l.map nD):= .inl ⟨.i,λd hd=>by obtain⟨s,_,rfl⟩:=aFv.mp hd;rfl⟩
theorem FX(h:a<=b):lx (enc (nD b)) (enc (nD a))=false:=by
 simp only[nD,enc,eV,lx];have:¬((b:Int)<(a:Int)):=by lia
 simp[this]
theorem wQ{l m:List Nat}(a:∀w,w∈l↔w∈m)(nd:l.Nodup)(pm:m.Pairwise (· < ·)){fs:List D}(p:fs.Perm (l.map nD))(s:fs.Pairwise λd e=>lx (enc e) (enc d)=false):fs=m.map nD:=by
 have b:l.Perm m:=(List.perm_ext_iff_of_nodup nd (pm.imp aFz)).mpr a;refine nB (mI l) (λd hd=>p.mem_iff.mp hd) (p.trans (b.map nD)) s ?_;rw[List.pairwise_map];exact pm.imp λh=>FX (aGs h)
theorem d9(l:List Nat):l.map nD=(l.map λk=>(Sum.inl ((k:Nat):Int):Key)).map aS:=by rw[List.map_map];rfl
theorem KA{a b:List Nat}(h:aM a=aM b):a=b:=by
 unfold aM at h;have h:=D.tup.inj h
 induction a generalizing b with
 | nil=>cases b with
  | nil=>rfl
  | cons y b=>simp at h
 | cons x a ih=>cases b with
  | nil=>simp at h
  | cons y b=>
   simp only[List.map_cons,List.cons.injEq]at h;rw[dO h.1,ih (congrArg D.tup h.2) h.2]
def vD(M:MH):List (D×D)->List Ent->Prop
 | [],[]=>True
 | p::kvs,e::L=>p.1=aM e.1/\(∃r,p.2= .ref r/\M[r]? =some (.lst (e.2.map aM)))/\vD M kvs L
 | _,_=>False
theorem vD.fe{M N:MH}(a:FE S M N):∀{kvs:List (D×D)} {L:List Ent},vD M kvs L->vD N kvs L
 | [],[],_=>trivial
 | p::kvs,e::L,⟨h1,⟨r,h2,h3⟩,h4⟩=>⟨h1,⟨r,h2,a.lst h3⟩,h4.fe a⟩
 | [],_::_,h=>h
 | _::_,[],h=>h
theorem vD.keys:∀{kvs:List (D×D)} {L:List Ent},vD M kvs L->kvs.map (·.1)=L.map λe=>aM e.1
 | [],[],_=>rfl
 | p::kvs,e::L,⟨h1,_,h4⟩=>by simp[h1,h4.keys]
 | [],_::_,h=>h.elim
 | _::_,[],h=>h.elim
theorem vD.app{r:Nat}(a:M[r]? =some (.lst (e.2.map aM))):∀{kvs:List (D×D)} {L:List Ent},vD M kvs L->vD M (kvs++[(aM e.1,.ref r)]) (L++[e])
 | [],[],_=>⟨rfl,⟨r,rfl,a⟩,trivial⟩
 | p::kvs,x::L,⟨h1,h2,h4⟩=>⟨h1,h2,h4.app a⟩
 | [],_::_,h=>h.elim
 | _::_,[],h=>h.elim
theorem vD.val(k:List Nat):∀{kvs:List (D×D)} {L:List Ent},vD M kvs L->(L.find? (λx=>x.1==k)=none/\aT kvs (aM k)=none)\/∃e r,L.find? (λx=>x.1==k)=some e/\aT kvs (aM k)=some (.ref r)/\M[r]? =some (.lst (e.2.map aM))
 | [],[],_=>.inl ⟨rfl,rfl⟩
 | (a,b)::kvs,e::L,⟨h1,⟨r,h2,h3⟩,h4⟩=>by
  subst h1 h2;simp only[List.find?_cons,aT];by_cases hk:e.1=k
  ·right;refine⟨e,r,?_,?_,h3⟩
   ·simp[hk]
   ·rw[if_pos (by rw[hk])]
  ·rw[if_neg λz=>hk (KA z)];have:(e.1==k)=false:=by simpa using hk
   rw[this];exact h4.val k
 | [],_::_,h=>h.elim
 | _::_,[],h=>h.elim
theorem vD.set{q:Nat}{t:Bool}{a:List (D×D)}(x:MO)(h:M[q]? =some (.bI t a)):∀{kvs:List (D×D)} {L:List Ent},vD M kvs L->vD (M.set q x) kvs L
 | [],[],_=>trivial
 | p::kvs,e::L,⟨h1,⟨r,h2,h3⟩,h4⟩=>⟨h1,⟨r,h2,get_set h3 λz=>by rw[z,h3]at h;cases h⟩,h4.set x h⟩
 | [],_::_,h=>h
 | _::_,[],h=>h
theorem vD.len:∀{kvs:List (D×D)} {L:List Ent},vD M kvs L->kvs.length=L.length
 | [],[],_=>rfl
 | p::kvs,e::L,⟨h1,_,h4⟩=>by simp[h4.len]
 | [],_::_,h=>h.elim
 | _::_,[],h=>h.elim
theorem zG{e:Ent}:∀{L:List Ent},(L.map (·.1)).Nodup->e∈L->L.find? (λx=>x.1==e.1)=some e
 | [],_,h=>by cases h
 | x::L,nd,h=>by
  simp only[List.map_cons,List.nodup_cons]at nd;rw[List.find?_cons];rcases aFy.mp h with z | h
  ·rw[z];simp
  ·have:(x.1==e.1)=false:=by
    simp only[beq_eq_false_iff_ne];exact λz=>nd.1 (by rw[z];exact aFv.mpr ⟨e,h,rfl⟩)
   rw[this];exact zG nd.2 h
theorem valN{k:D}:∀{kvs:List (D×D)},aT kvs k=none->∀p∈kvs,p.1≠k
 | [],_,p,h=>by cases h
 | q::kvs,h,p,hp=>by
  simp only[aT]at h;split at h
  ·cases h
  ·rename_i n;rcases aFy.mp hp with z | hp
   ·rw[z];exact n
   ·exact valN h p hp
theorem CJ{k:List Nat}:(L.any λx=>x.1==k)=(L.find? λx=>x.1==k).isSome:=by
 rw[Bool.eq_iff_iff,List.any_eq_true,List.find?_isSome]
theorem S7{x y:Ent}(h:acc.find? (λz=>z.1==x.1)=some y):bT acc x=acc:=by
 unfold bT;rw[CJ,h];rfl
theorem S4{x:Ent}(h:acc.find? (λz=>z.1==x.1)=none):bT acc x=acc++[x]:=by
 unfold bT;rw[CJ,h];rfl
theorem HK{X:List Ent}(h:∀x∈X,eX c x):vE c (X.foldl bT []):=by
 obtain⟨a,b,_⟩:=fold_add X [] (by simp);exact⟨λe he=>by rcases b e he with z | z;cases z;exact h e z,a⟩
theorem IE(X:List Ent)(x:Ent):(X++[x]).foldl bT []=bT (X.foldl bT []) x:=by rw[List.foldl_append];rfl
def PK:OA:=λds mh Q=>∃(c:aO) (s u:Nat),ds=[.ref s,.ref u]/\gY mh s false (C3 c)/\N7 c mh u/\Wc c/\iI c/\∀M r,FE (λn=>n=s\/n=u) mh M->M[r]? =some (.lst ((rowsOf c).map aM))->Q (.ref r) M
theorem dF{l:List α}{x:α}(h:l[i]? =some x):l.take (i+1)=l.take i++[x]:=by rw[List.take_add_one,h];rfl
def aCo(c:aO)(s u:Nat)(mh:MH)(m:Nat)(a:c9)(M:MH):Prop:=∃t n L kvs k b d f,a=[some (.ref s),some (.ref u),some (.ref n),some (aM (aC c)),b,d,f]/\m=(aC c).length-t/\FE (λn=>n=s\/n=u) mh M/\mh.length<=n/\M[n]? =some (.bI true kvs)/\vD M kvs L/\vE c L/\(∃e∈L,e.1.length=t)/\BX c k L=rowsOf c/\(aC c).length<t+k
def aCn(c:aO)(s u:Nat)(mh:MH)(t:Nat)(b:c9)(M:MH):Prop:=∃a,a<(aC c).length-t/\aCo c s u mh a b M
theorem aC3(ds:List D)(mh:MH)(R:DK)(ok:oV mh)(hs:PK ds mh R):dY G5 G4 (En mh R) (aQ ["spans","uppers","rows","every","longer","laid","filling"] ds) mh:=by
 obtain⟨c,s,u,rfl,hd,hu,wc,nr,q⟩:=hs;have sz:=aGb;have wl:=cE c;have sl:s<mh.length:=by rcases hd with h | ⟨ob,h⟩ <;> exact iD h
 have ul:u<mh.length:=by obtain⟨kvs,h,_⟩:=hu;rcases h with h | ⟨ob,h⟩ <;> exact iD h
 simp[dY,aQ]
 have U:FE (λn=>n=s\/n=u) mh (mh++[MO.bI true [(D.tup [],D.ref (mh.length+1))],MO.lst []]):=by
  have:=((FE.refl (S:=λn=>n=s\/n=u) (M:=mh)).push (MO.bI true [(D.tup [],D.ref (mh.length+1))])).push (MO.lst []);rw[List.append_assoc]at this;exact this
 have e0:(mh++[MO.bI true [(D.tup [],D.ref (mh.length+1))],MO.lst []])[mh.length]? =some (MO.bI true [(D.tup [],D.ref (mh.length+1))]):=by simp
 have e1:(mh++[MO.bI true [(D.tup [],D.ref (mh.length+1))],MO.lst []])[mh.length+1]? =some (MO.lst []):=by simp
 generalize mh++[MO.bI true [(D.tup [],D.ref (mh.length+1))],MO.lst []]=M0 at U e0 e1⊢;simp[iR];refine⟨s,_,rfl,U.dm hd,?_⟩;rw[sL];show oF (cL (bD sP (aA 3) (aA 2))) (d7 G5 G4) {(En mh R) with nx:=eG G5 G4 (En mh R)} [some (.ref s),some (.ref u),some (.ref mh.length),some (aM (aC c)),none,none,none] M0
 refine⟨aCo c s u mh,
  ⟨_,0,mh.length,[([],[])],_,9,_,_,_,rfl,rfl,U,aFq _,e0,⟨rfl,⟨_,rfl,e1⟩,trivial⟩,lv0 c,⟨_,aFr,rfl⟩,rfl,by lia⟩,?_⟩
 rintro m K M ⟨t,n,L,kvs,k,a4,a5,O,rfl,rfl,fe,hn,hr,lr,lo,he,P,hk⟩;refine⟨aCn c s u mh t,λ_ _ h=>h,?_⟩;simp;refine⟨n,true,kvs,rfl,.inl hr,⟨(aC c).map λk=>(Sum.inl ((k:Nat):Int):Key),by rw[aM,d9]⟩,?_⟩
 have tle:t<=(aC c).length:=by
  obtain⟨e,he,hl⟩:=he;have:=len_sub (lo.ok e he);lia
 obtain⟨k',rfl⟩:∃k',k=k' +1:=⟨k-1,by lia⟩
 rcases lr.val (aC c) with ⟨A,Q⟩ | ⟨e,r,A,Q,h3⟩
 ·rw[Q];simp;have lt:=find_none lo he A
  have P:BX c k' (level c L)=rowsOf c:=by
   rw[<-P];conv=>rhs;unfold BX
   rw[A]
  have up:=BG nr lo lt he;simp[d7];have q0:(M++[MO.bI true []])[M.length]? =some (MO.bI true []):=by simp
  have feq:FE (λn=>n=s\/n=u) mh (M++[MO.bI true []]):=fe.push _;have hr1:=aL (x:=MO.bI true []) hr;have lr1:vD (M++[MO.bI true []]) kvs L:=lr.fe (FE.refl (S:=qX).push _);have nq:n<M.length:=iD hr;have ml:mh.length<=M.length:=fe.1;have mq:M.length<(M++[MO.bI true []]).length:=by simp
  have fem:FE (λm=>m=s\/m=u\/m=n) M (M++[MO.bI true []]):=FE.refl.push _;generalize hq:M.length=B at*;generalize M++[MO.bI true []]=M1 at*;simp[fK];refine kU (S:=(· =n)) rfl (.inl hr1) rfl λob M2 V hr2=>?_;rw[lr.keys]
  have okX:∀i,∀x∈(L.take i).flatMap (dI c),eX c x:=λi x Z=>by
   obtain⟨e,he,Z⟩:=aJk.mp Z;obtain⟨f,P,rfl⟩:=aFv.mp Z;exact(lo.ok e (aGy he)).next P
  refine bM (λi K G =>(∃a5 O,K=[some (.ref s),some (.ref u),some (.ref n),some (aM (aC c)),some (.ref B),a5,O])/\FE (λm=>m=s\/m=u\/m=n) M G /\G[n]? =some (.eY true kvs ob)/\B<G.length/\∃C,G[B]? =some (.bI true C)/\vD G C (((L.take i).flatMap (dI c)).foldl bT [])) _ (λ_ _ _ h=>h.2.2.1) ?_ ?_
   ⟨⟨_,_,rfl⟩,fem.trans (V.sub λm h=>.inr (.inr h)),hr2,aG4 mq V.1,[],V.bI q0 (by show ¬B=n;lia),trivial⟩
  ·rintro i d K G N hi ⟨⟨a5,O,rfl⟩,fa,hrn,hql,C,W,lq⟩ nx;rw[List.getElem?_map]at hi;obtain⟨e,he2,rfl⟩:=aFw.mp hi;have em:=aFx he2;have E:=lo.ok e em;have kl:e.1.length<=8:=aG2 (len_sub E) wl;have H:FE (λm=>m=s\/m=u\/m=n) mh G :=(fe.sub (T:=λm=>m=s\/m=u\/m=n) λm h=>h.elim .inl λz=>.inr (.inl z)).trans fa;simp[hC];refine⟨c,u,e.1,rfl,hu.fe H,wc,kl,λM3 rf F hrf=>?_⟩;refine⟨c,s,.ref rf,frees c e.1,by simp,aU hrf,F.dm (H.dm hd),List.filter_sublist,λM4 rl I hrl=>?_⟩;dsimp only;rw[aU hrl];simp only[aF];have fb:FE (λm=>m=s\/m=u\/m=n) M M4:=fa.trans ((F.sub λm h=>.inr (.inl h)).trans (I.sub λm h=>h.elim));have k4:M4[B]? =some (.bI true C):=I.bI (F.bI W (by show ¬B=u;lia)) id;have l4:vD M4 C (((L.take i).flatMap (dI c)).foldl bT []):=(lq.fe F).fe I;have n4:M4[n]? =some (.eY true kvs ob):=I.eY (F.eY hrn);have q4:B<M4.length:=iD k4;have nxt:(L.take (i+1)).flatMap (dI c)=(L.take i).flatMap (dI c)++dI c e:=by rw[dF he2,List.flatMap_append];simp
   refine bM (λj K y=>(∃O,K=[some (.ref s),some (.ref u),some (.ref n),some (aM (aC c)),some (.ref B),some (aM e.1),O])/\FE (λm=>m=s\/m=u\/m=n) M y/\y[n]? =some (.eY true kvs ob)/\y[rl]? =some (.lst ((fills c (frees c e.1)).map aM))/\∃C,y[B]? =some (.bI true C)/\vD y C (((L.take i).flatMap (dI c)++(dI c e).take j).foldl bT [])) _ (λ_ _ _ h=>aU h.2.2.2.1) ?_ ?_
    ⟨⟨_,rfl⟩,fb,n4,hrl,C,k4,by simpa using l4⟩
   ·rintro j d K y N5 hj ⟨⟨O,rfl⟩,fc,n5,r5,v,k5,l5⟩ nx5;rw[List.getElem?_map]at hj;obtain⟨f,hf5,rfl⟩:=aFw.mp hj;have fm:=aFx hf5;obtain⟨f0,fs,fp⟩:=xF fm;have fr:∀w∈f,w∈aC c/\w∉e.1/\∀u∈ups c w,u∈e.1:=λw J=>qI.mp (fs.subset J);have kw:∀w∈e.1,w∈aC c:=λw J=>by obtain⟨p,hp⟩:=E.key;rw[hp]at J;exact(aGz.mp J).1
    have knd:e.1.Nodup:=by obtain⟨p,hp⟩:=E.key;rw[hp];exact(cM c).filter _
    have fnd:f.Nodup:=fs.nodup ((cM c).filter _);have fl:f.length<=8:=aG2 (hZ fnd λw J=>(fr w J).1) wl;have r8:=E.U8.2;have hx5:(dI c e)[j]? =some (fV c e.1 f,e.2++[f]):=by unfold dI;rw[List.getElem?_map,hf5];rfl
    have okj:∀j,∀x∈(L.take i).flatMap (dI c)++(dI c e).take j,eX c x:=λj x Z=>by
     rcases aG5.mp Z with h | h
     ·exact okX i x h
     ·obtain⟨g,hg,rfl⟩:=aFv.mp (aGy h);exact E.next hg
    have lo5:=HK (okj j);have ln5:v.length<=256:=by rw[l5.len];exact lo5.len
    simp[g7,aM];have ea:List.map nD e.1++List.map nD f=(e.1++f).map nD:=by rw[List.map_append]
    have nd2:(e.1++f).Nodup:=aIs.mpr ⟨knd,fnd,λa ha b hb z=>(fr b hb).2.1 (by rw[<-z];exact ha)⟩;refine⟨⟨v,k5⟩,by lia,_,rfl,by simp;lia,by rw[ea];exact mI _,λgs pm sd=>?_⟩;rw[ea]at pm
    have eg:=wQ (m:=fV c e.1 f) (λw=>by
     rw[mP,List.mem_append]
     exact⟨λh=>⟨h.elim (kw w) λz=>(fr w z).1,h⟩,λh=>h.2⟩) nd2 ((sY c).filter _) pm sd
    subst eg;rw[aU (bF _ _)];simp only[aF];have l6:vD y kvs L:=lr.fe fc
    rcases l6.val e.1 with ⟨A,_⟩ | ⟨e',r,A,Q,h3⟩
    ·rw[zG lo.nd em]at A;cases A
    rw[zG lo.nd em]at A;cases A;refine⟨n,kvs,e.1.map λk=>(Sum.inl ((k:Nat):Int):Key),.ref r,rfl,.inr ⟨ob,aL n5⟩,by rw[<-d9],Q,?_⟩;refine⟨by lia,(J8 (aL (aL h3)) (bF _ _)).mpr ⟨by simp;lia,?_⟩⟩
    have kn:fV c e.1 f≠[]:=λz=>by
     obtain⟨w,J⟩:=aHi f f0;have:w∈fV c e.1 f:=mP.mpr ⟨(fr w J).1,.inr J⟩;rw[z]at this;cases this
    have fd:=(fc.push (MO.lst ((fV c e.1 f).map nD))).push (MO.lst [D.tup (f.map nD)]);have fd:=fd.push (MO.lst (e.2.map aM++[D.tup (f.map nD)]));have fn:FE qX y (y++[MO.lst ((fV c e.1 f).map nD)]++[MO.lst [D.tup (f.map nD)]]++[MO.lst (e.2.map aM++[D.tup (f.map nD)])]):=((FE.refl.push _).push _).push _;have hv:=bF (y++[MO.lst ((fV c e.1 f).map nD)]++[MO.lst [D.tup (f.map nD)]]) (MO.lst (e.2.map aM++[D.tup (f.map nD)]));have lv:(y++[MO.lst ((fV c e.1 f).map nD)]++[MO.lst [D.tup (f.map nD)]]).length=y.length+2:=by simp
    rw[lv]at hv⊢;generalize y++[MO.lst ((fV c e.1 f).map nD)]++[MO.lst [D.tup (f.map nD)]]++[MO.lst (e.2.map aM++[D.tup (f.map nD)])]=M8 at fd fn hv⊢;have k8:=fn.bI k5 id;have l8:=l5.fe fn;have n8:=fn.eY n5;have X :=fn.lst r5
    have stp:(((L.take i).flatMap (dI c)++(dI c e).take (j+1)).foldl bT [])=bT (((L.take i).flatMap (dI c)++(dI c e).take j).foldl bT []) (fV c e.1 f,e.2++[f]):=by
     rw[dF hx5,<-List.append_assoc,IE]
    refine⟨v,k8,(fV c e.1 f).map λk=>(Sum.inl ((k:Nat):Int):Key),by rw[<-d9],by simpa using kn,by lia,λd l=>?_,λl=>?_⟩
    ·refine nx5 _ _ ⟨⟨_,rfl⟩,fd,n8,X,v,k8,?_⟩;rw[stp]
     rcases l8.val (fV c e.1 f) with ⟨_,z⟩ | ⟨e',r',z,_,_⟩
     ·have l:aT v (aM (fV c e.1 f))=some d:=l;rw[z]at l;cases l
     ·rw[S7 z];exact l8
    ·have l:aT v (aM (fV c e.1 f))=none:=l;have Y:∀m o,M8[m]? =some o->(∀t k,o≠ .bI t k)->B≠m:=λm o A Q z=>by rw[<-z,k8]at A;cases A;exact Q _ _ rfl
     rcases l8.val (fV c e.1 f) with ⟨z,_⟩ | ⟨e',r',_,z,_⟩
     ·refine nx5 _ _ ⟨⟨_,rfl⟩,fd.set (by lia) _,get_set n8 (Y _ _ n8 λ_ _ z=>by cases z),get_set X (Y _ _ X λ_ _ z=>by cases z),_,cH _ k8,?_⟩;rw[stp,S4 z,show D.tup ((fV c e.1 f).map nD)=aM (fV c e.1 f) from rfl,A5 _ (valN l)];refine vD.app (e:=(fV c e.1 f,e.2++[f])) ?_ (l8.set _ k8);refine get_set ?_ (Y _ _ hv λ_ _ z=>by cases z);rw[hv,List.map_append];rfl
     ·rw[z]at l;cases l
   ·rintro K y ⟨⟨O,rfl⟩,fc,n5,r5,v,k5,l5⟩;refine nx _ _ ⟨⟨_,_,rfl⟩,fc,n5,iD k5,v,k5,?_⟩;rw[nxt];have e9:(dI c e).take ((fills c (frees c e.1)).map aM).length=dI c e:=List.take_of_length_le (by unfold dI;simp);rw[e9]at l5;exact l5
  ·rintro K G ⟨⟨a5,O,rfl⟩,fa,hrn,hql,C,W,lq⟩;rw[List.take_of_length_le (by simp)]at lq;simp[fJ]
   have H:FE (λn=>n=s\/n=u) mh G :=fe.over fa λm hm h=>by
    rcases h with h | h | h
    ·exact .inl h
    ·exact .inr h
    ·lia
   exact⟨_,by lia,t+1,B,level c L,C,k',_,_,_,rfl,rfl,H,ml,W,lq,lo.level,up,P,by lia⟩
 ·rw[Q];simp[eG];have P:e.2=rowsOf c:=by rw[<-P];unfold BX;rw[A]
  refine⟨n,kvs,(aC c).map λk=>(Sum.inl ((k:Nat):Int):Key),.ref r,rfl,.inl hr,by rw[aM,d9],Q,aY (q _ _ fe ?_)⟩;rw[<-P];exact h3
theorem NK{g:WG}{t:WT}{n o:WE}{ρe:c9}{St:MH->Prop}(h:Nat->List (D×D)->MH->Prop)(ds:List D)(j:∀i a mh,h i a mh->St mh)
  (s:∀i d a mh (N:List (D×D)->MH->Prop),ds[i]? =some d->h i a mh->(∀c mh',h (i+1) c mh' ->N c mh')->g d ρe λf=>t f mh λb l=>if b=true then n f l λk q=>o f q λy r=>(∃key,k=aS key)/\N (putD a k y) r else N a l)
  (hd:∀a mh,h ds.length a mh->Q (.ref mh.length) (mh++[.bI false a])) {a:List (D×D)} {mh:MH} (h0:h 0 a mh):m3 g t n o ρe St Q ds a mh:=by
 have go:∀(k i:Nat),i+k=ds.length->∀a mh,h i a mh->m3 g t n o ρe St Q (ds.drop i) a mh:=by
  intro k
  induction k with
  | zero=>
   intro i hi a mh p;have e:i=ds.length:=by lia
   subst e;rw[List.drop_of_length_le (Nat.le_refl _)];exact⟨j _ _ _ p,hd a mh p⟩
  | succ k ih=>
   intro i hi a mh p;have m:i<ds.length:=by lia
   rw[List.drop_eq_getElem_cons m];exact⟨j _ _ _ p,s i ds[i] a mh (λc mh' =>m3 g t n o ρe St Q (ds.drop (i+1)) c mh') (by simp[m]) p λc mh' u =>ih (i+1) (by lia) c mh' u⟩
 have:=go ds.length 0 (by lia) a mh h0;simpa using this
def nums(l:List Nat):List D:=l.map λk=>.int (k:Nat)
structure Ends(b:Nat)(M:MH)(kvs:List (D×D))(f:Int->List Nat):Prop where
 some:∀c d,aT kvs (.int c)=some d->∃r,d= .ref r/\b<=r/\M[r]? =some (.lst (nums (f c)))/\f c≠[]
 none:∀c,aT kvs (.int c)=none->f c=[]
 ne:∀c c' r,aT kvs (.int c)= .some (.ref r)->aT kvs (.int c')= .some (.ref r)->c=c'
 key:∀p∈kvs,∃c,p.1= .int c
 nd:(kvs.map (·.1)).Nodup
theorem WM{k v:D}(h:(kvs.map (·.1)).Nodup):((putD kvs k v).map (·.1)).Nodup:=by
 rw[wY];split
 ·exact h
 ·rename_i n;rw[List.nodup_append];refine⟨h,by simp,λa d c b=>?_⟩;simp at b;subst b;rintro rfl;obtain⟨p,f,e⟩:=aFv.mp d;exact n ⟨p,f,e⟩
def CN(f:Int->List Nat)(c:Int)(k:Nat):Int->List Nat:=λx=>if x=c then f x++[k] else f x
variable{f:Int->List Nat}
theorem O8{QN:MH->Prop}{c:Int}{k:Nat}(E:Ends b M kvs f)(N:M[n]? =some (.bI false kvs))(Q:b<=M.length)(R:n<b)(hl:kvs.length<=1000)(S:∀c,(f c).length<=1000)
  (q:∀A i,A[n]? =some (.bI false i)->Ends b A i (CN f c k)->i.length<=kvs.length+1->M.length<=A.length->(∀(m:Nat) (o:MO),M[m]? =some o->m<b->m≠n->A[m]? =some o)->(∀j,oU j M->j.length<=n->oU j A)->QN A):
  (∃kvs,M[n]? =some (MO.bI false kvs))/\∃kvs,(M++[MO.lst []])[n]? =some (MO.bI false kvs)/\(∃x,D.int c=aS x)/\kvs.length<sizeLine/\
   (∀v,aT kvs (D.int c)=some v->MF (M++[MO.lst []]) "list" v/\dG v [D.int (k:Nat)] (M++[MO.lst []]) λ_ t=>QN t)/\
   (aT kvs (D.int c)=none->MF (List.set (M++[MO.lst []]) n (MO.bI false (putD kvs (D.int c) (D.ref (List.length M))))) "list" (D.ref (List.length M))/\
    dG (D.ref (List.length M)) [D.int (k:Nat)] (List.set (M++[MO.lst []]) n (MO.bI false (putD kvs (D.int c) (D.ref (List.length M))))) λ_ t=>QN t):=by
 have sz:=aGb;have u:=aL (x:=MO.lst []) N;refine⟨⟨_,N⟩,kvs,u,⟨.inl c,rfl⟩,by lia,λv e=>?_,λe=>?_⟩
 ·obtain⟨r,rfl,T,U,V⟩:=E.some c v e;have w:=aL (x:=MO.lst []) U;have W:=S c;refine⟨⟨rfl,_,w⟩,(oI w _).mpr ⟨by simp[nums];lia,q _ kvs (get_set u (by lia)) ?_ (by lia) (by simp) (λm o I X Y=>get_set (aL I) (by lia)) λj p l=>(p.push _).set (by lia) _⟩⟩;refine⟨λc' d' a =>?_,λc' a =>?_,E.ne,E.key,E.nd⟩
  ·obtain⟨F,rfl,y,g,s⟩:=E.some c' d' a;by_cases d:c' =c
   ·subst d;rw[e]at a;cases a;refine⟨r,rfl,T,?_,by simp[CN]⟩;rw[cH _ w];simp[CN,nums]
   ·have Z:r≠F :=λz=>d (E.ne c' c r (by rw[z];exact a) e);exact⟨F,rfl,y,by rw[List.getElem?_set_ne Z];simp only[CN,if_neg d];exact aL g,by simp only[CN,if_neg d];exact s⟩
  ·have d:c' ≠c:=λz=>by rw[z,e]at a;cases a
   simp only[CN,if_neg d];exact E.none c' a
 ·have h0:(List.set (M++[MO.lst []]) n (MO.bI false (putD kvs (D.int c) (D.ref (List.length M)))))[M.length]? =some (.lst []):=by
   rw[List.getElem?_set_ne (by lia)];simp
  have fc:=E.none c e;refine⟨⟨rfl,_,h0⟩,(oI h0 _).mpr ⟨by simp;lia,q _ (putD kvs (.int c) (.ref M.length)) (get_set (cH _ u) (by lia)) ?_ (A6 _ _ _) (by simp) (λm o I X Y=>get_set (get_set (aL I) (by lia)) (by lia)) λj p l=>((p.push _).set l _).set (by lia) _⟩⟩;refine⟨λc' d' a =>?_,λc' a =>?_,λO P r B C=>?_,λp hp=>?_,WM E.nd⟩
  ·by_cases d:c' =c
   ·subst d;rw[kM]at a;cases a;refine⟨_,rfl,Q,?_,by simp[CN]⟩;rw[cH _ h0];simp[CN,nums,fc]
   ·have J:D.int c' ≠D.int c:=λz=>d (D.int.inj z);rw[bZ _ _ J]at a;obtain⟨F,rfl,y,g,s⟩:=E.some c' d' a;have lt:=(aFp.mp g).1;exact⟨F,rfl,y,by rw[List.getElem?_set_ne (by lia),List.getElem?_set_ne (by lia)];simp only[CN,if_neg d];exact aL g,by simp only[CN,if_neg d];exact s⟩
  ·have d:c' ≠c:=λz=>by rw[z,kM]at a;cases a
   have J:D.int c' ≠D.int c:=λz=>d (D.int.inj z);rw[bZ _ _ J]at a;simp only[CN,if_neg d];exact E.none c' a
  ·have lo:∀K L,aT kvs (.int K)= .some (.ref L)->L<M.length:=λK L h=>by
    obtain⟨F,er,_,g,_⟩:=E.some K _ h;cases er;exact(aFp.mp g).1
   by_cases G:O=c <;> by_cases H:P=c
   ·rw[G,H]
   ·subst G;rw[kM]at B;cases B;rw[bZ _ _ λz=>H (D.int.inj z)]at C;exact absurd (lo _ _ C) (aH6 _)
   ·subst H;rw[kM]at C;cases C;rw[bZ _ _ λz=>G (D.int.inj z)]at B;exact absurd (lo _ _ B) (aH6 _)
   ·rw[bZ _ _ λz=>G (D.int.inj z)]at B;rw[bZ _ _ λz=>H (D.int.inj z)]at C;exact E.ne O P r B C
  ·rcases KH hp with h | h
   ·exact E.key p h
   ·exact⟨c,h.1⟩
theorem U4{b n i1 i2 i3:Nat}{e:c9}{E0:iK}{c:Int}{k:Nat}(E:Ends b M kvs f)(i:M[n]? =some (.bI false kvs))(j:b<=M.length)(h:n<b)(l:kvs.length<=1000)(p:∀c,(f c).length<=1000)
  (r1:e[i1]? = .some (.some (.ref n))) (r2:e[i2]? = .some (.some (.int c))) (r3:e[i3]? = .some (.some (.int (k:Nat))))
  (q:∀g a,g[n]? =some (.bI false a)->Ends b g a (CN f c k)->a.length<=kvs.length+1->M.length<=g.length->(∀(m:Nat) (o:MO),M[m]? =some o->m<b->m≠n->g[m]? =some o)->(∀d,oU d M->d.length<=n->oU d g)->E0.nx e g):mC (OD "list" dG (AQ (aA i1) (aA i2) (nM aJ)) (aB (aA i3) aJ)) E0 e M:=by
 simp[aA,r1,r2,r3];exact O8 (QN:=λm=>E0.nx e m) E i j h l p q
theorem Ends.keep{M a :MH}(E:Ends b M kvs f)(h:∀(m:Nat) (o:MO),b<=m->M[m]? = .some o->a[m]? = .some o):Ends b a kvs f:=
 ⟨λc d e=>by obtain⟨r,i,g,j,k⟩:=E.some c d e;exact⟨r,i,g,h r _ g j,k⟩,E.none,E.ne,E.key,E.nd⟩
theorem sI:∀{kvs:List (D×D)} {p:D×D},(kvs.map (·.1)).Nodup->p∈kvs->aT kvs p.1= .some p.2
 | [],p,_,h=>by simp at h
 | q::kvs,p,nd,h=>by
  simp only[List.map_cons,List.nodup_cons]at nd;rcases aFy.mp h with rfl | h
  ·simp[aT]
  ·have ne:q.1≠p.1:=λz=>nd.1 (by rw[z];exact aFv.mpr ⟨p,h,rfl⟩);have:=sI nd.2 h;simp only[aT];rw[if_neg ne];exact this
theorem yR:∀{kvs:List (D×D)} {k d:D},aT kvs k= .some d->(k,d)∈kvs
 | [],k,d,h=>by simp[aT]at h
 | q::kvs,k,d,h=>by
  simp only[aT]at h;split at h
  ·rename_i e;cases h;cases q;simp at e;subst e;simp
  ·exact aFt _ (yR h)
def mO(f:Int->List Nat)(x i:Nat):Int->List Nat:=if x=0 then f else CN f (x:Nat) i
def CQ(c:aO):Nat->Int->List Nat
 | 0=>λ_=>[]
 | i+1=>mO (mO (CQ c i) (c.A.getD i 0) i) (c.B.getD i 0) i
def T8(c:aO)(w i:Nat):List Nat:=(List.range i).filter (vT c w)
structure Lk(l o:List Nat):Prop where
 hd:l.headD 0=o.headD 0
 ls:l.getLastD 0=o.getLastD 0
 em:l=[]↔o=[]
 me:∀x,x∈l↔x∈o
variable{o:List Nat}
theorem Lk.snoc(h:Lk l o)(i:Nat):Lk (l++[i]) (o++[i]):=by
 refine⟨?_,by simp,by simp,λx=>by simp[h.me x]⟩
 cases l with
 | nil=>have:=h.em.mp rfl;subst this;rfl
 | cons a l=>
  cases o with
  | nil=>have:=h.em.mpr rfl;cases this
  | cons b o=>exact h.hd
theorem Lk.again(h:Lk (l++[i]) o):Lk (l++[i]++[i]) o:=by
 refine⟨?_,?_,?_,λx=>?_⟩
 ·rw[<-h.hd];cases l <;> rfl
 ·rw[<-h.ls];simp
 ·have:=h.em;simp at this⊢;exact this
 ·rw[<-h.me x];simp
theorem T7{c:aO}(g:Wc c){w:Nat}(d:w≠0):∀i,i<=c.A.length->Lk (CQ c i (w:Nat)) (T8 c w i)
 | 0,_=>⟨rfl,rfl,by simp[CQ,T8],λx=>by simp[CQ,T8]⟩
 | i+1,hi=>by
  have a:=T7 g d i (by lia);have j:c.A[i]? =some (c.A.getD i 0):=by rw[List.getD_eq_getElem?_getD,List.getElem?_eq_getElem (show i<c.A.length by lia)];rfl
  have k:c.B[i]? =some (c.B.getD i 0):=by rw[List.getD_eq_getElem?_getD,List.getElem?_eq_getElem (show i<c.B.length by rw[<-g.l];lia)];rfl
  have e:T8 c w (i+1)=if vT c w i then T8 c w i++[i] else T8 c w i:=by
   unfold T8;rw[List.range_succ,List.filter_append];by_cases h:vT c w i <;> simp[h]
  have m:vT c w i=(decide (c.A.getD i 0=w) || decide (c.B.getD i 0=w)):=by
   have q:∀x:Nat,(some x==some w)=decide (x=w):=λx=>by by_cases h:x=w <;> simp[h]
   unfold vT;rw[j,k,q,q]
  have one:∀(f:Int->List Nat) (x:Nat),mO f x i (w:Nat)=if x=w then f (w:Nat)++[i] else f (w:Nat):=λf x=>by
   unfold mO CN;by_cases b:x=w
   ·subst b;simp[d]
   ·have:¬((w:Int)=(x:Int)):=by lia
    by_cases h0:x=0 <;> simp[h0,b,this] <;> intro h <;> exact absurd h.symm d
  rw[e,m];show Lk (mO (mO (CQ c i) (c.A.getD i 0) i) (c.B.getD i 0) i (w:Nat)) _;rw[one,one];by_cases b:c.A.getD i 0=w <;> by_cases n:c.B.getD i 0=w <;> simp only[b,n,if_true,if_false,decide_true,decide_false,Bool.or_true,Bool.true_or,Bool.or_self,Bool.false_eq_true]
  ·exact(a.snoc i).again
  ·exact a.snoc i
  ·exact a.snoc i
  ·exact a
theorem aB1(c:aO)(w i:Nat):(T8 c w i).Pairwise (· < ·):=(aHt).filter _
theorem yH{c:aO}(d:Wc c){x:Int}:∀i,i<=c.A.length->CQ c i x≠[]->∃w:Nat,x=(w:Nat)/\1<=w/\w<=8
 | 0,_,h=>absurd rfl h
 | i+1,hi,h=>by
  have g:=yH d (x:=x) i (by lia)
  have j:c.A.getD i 0<=8:=by
   rw[List.getD_eq_getElem?_getD,List.getElem?_eq_getElem (show i<c.A.length by lia)];exact d.a _ (aJj _)
  have k:c.B.getD i 0<=8:=by
   rw[List.getD_eq_getElem?_getD,List.getElem?_eq_getElem (show i<c.B.length by rw[<-d.l];lia)];exact d.b _ (aJj _)
  have one:∀(f:Int->List Nat) (y:Nat),y<=8->mO f y i x≠[]->f x≠[]\/∃w:Nat,x=(w:Nat)/\1<=w/\w<=8:=λf y m h=>by
   unfold mO CN at h;by_cases h0:y=0
   ·rw[if_pos h0]at h;exact .inl h
   ·rw[if_neg h0]at h;by_cases e:x=(y:Nat)
    ·exact .inr ⟨y,e,by lia,m⟩
    ·simp only[if_neg e]at h;exact .inl h
  rcases one _ _ k h with h | h
  ·rcases one _ _ j h with h | h
   ·exact g h
   ·exact h
  ·exact h
theorem tW(h:∀x,(f x).length<=b)(y i:Nat)(x:Int):(mO f y i x).length<=b+1:=by
 have:=h x;unfold mO CN;split
 ·lia
 ·dsimp only;split <;> simp <;> lia
theorem DC(c:aO):∀i x,(CQ c i x).length<=2*i
 | 0,x=>by simp[CQ]
 | i+1,x=>by
  have:=tW (tW (DC c i) (c.A.getD i 0) i) (c.B.getD i 0) i x;exact aG2 this (by lia)
theorem CZ:∀{o:List Nat},o.Pairwise (· < ·)->∀x∈o,x<=o.getLastD 0
 | [],_,x,h=>by cases h
 | [a],_,x,h=>by simp at h;subst h;exact aFq _
 | a::b::o,pw,x,h=>by
  obtain⟨d,c⟩:=aIg.mp pw;have e:(a::b::o).getLastD 0=(b::o).getLastD 0:=by simp
  rw[e];rcases aFy.mp h with z | h
  ·rw[z];exact aG2 (aGs (d b aFr)) (CZ c b aFr)
  ·exact CZ c x h
theorem OV(h:Lk l o)(f:o.Pairwise (· < ·)):1<(ST.bL [] (l.map λk=>(Sum.inl ((k:Nat):Int):Key))).length↔o.headD 0<o.getLastD 0:=by
 generalize c:ST.bL [] (l.map λk=>(Sum.inl ((k:Nat):Int):Key))=K;have nd:K.Nodup:=by rw[<-c];exact kP (by simp)
 have me:∀k:Nat,(Sum.inl (k:Int):Key)∈K↔k∈o:=λk=>by
  rw[<-c,<-h.me k,ST.kR];simp;constructor
  ·rintro⟨a,d,p⟩;have:a=k:=by lia
   rw[<-this];exact d
  ·intro h;exact⟨k,h,rfl⟩
 have g:∀k∈K,∃n:Nat,k=Sum.inl (n:Int):=λk hk=>by
  rw[<-c,ST.kR]at hk;simp at hk;obtain⟨a,_,e⟩:=hk;exact⟨a,e.symm⟩
 cases o with
 | nil=>
  have:K=[]:=by
   cases K with
   | nil=>rfl
   | cons k K=>
    obtain⟨n,rfl⟩:=g k aFr;have:=(me n).mp aFr;cases this
  rw[this];simp
 | cons a o=>
  have i:(a::o).getLastD 0∈a::o:=by
   rw[List.getLastD_eq_getLast?]
   cases hr:(a::o).getLast? with
   | none=>simp at hr
   | some y=>exact List.mem_of_getLast? hr
  generalize q:(a::o).getLastD 0=b at i;have top:∀x∈a::o,x<=b:=λx r=>by rw[<-q];exact CZ f x r
  show _↔a<b;constructor
  ·intro d;refine aGc λp=>?_
   have:=hZ nd (m:=[Sum.inl (a:Int)]) λk hk=>by
    obtain⟨n,rfl⟩:=g k hk;have j:=(me n).mp hk;have:=top n j;rcases aFy.mp j with rfl | h3
    ·simp
    ·have:=(aIg.mp f).1 n h3;lia
   simp at this;lia
  ·intro d
   have:=hZ (l:=[(Sum.inl (a:Int):Key),Sum.inl (b:Int)]) (m:=K) (by simp;lia) λk hk=>by
    simp at hk;rcases hk with rfl | rfl
    ·exact(me a).mpr aFr
    ·exact(me b).mpr i
   simp at this;lia
theorem FV(h:l≠[]):oS (nums l) 0=some (nD (l.headD 0)):=by
 cases l with
 | nil=>exact absurd rfl h
 | cons a l=>exact aCg _ _
theorem FU(h:l≠[]):oS (nums l) (-1)=some (nD (l.getLastD 0)):=by
 have e:=aHf h;generalize l.getLast h=x at e;generalize l.dropLast=m at e;subst e;unfold nums;rw[List.map_append];have:=R0 (m.map λk=>D.int (k:Nat)) (nD x);simpa[nD] using this
theorem putL{k v:D}(h:k∉kvs.map (·.1)):putD kvs k v=kvs++[(k,v)]:=A5 v λp a e=>h (by rw[<-e];exact aFv.mpr ⟨p,a,rfl⟩)
def spE(s:Sp):D×D:=(nD s.w,spT s)
def PC:OA:=λds mh Q=>∃c,ds=[aM c.A,aM c.B]/\Wc c/\∀M n,oU mh M->mh.length<=n->M[n]? =some (.bI false (C3 c))->Q (.ref n) M
theorem mV{α c:Type}{p:α->Bool}{f:α->Option c}:∀(l:List α),(∀x∈l,p x=false->f x=none)->(l.filter p).filterMap f=l.filterMap f
 | [],_=>rfl
 | a::l,h=>by
  have b:=mV (p:=p) (f:=f) l λx d=>h x (aFt _ d);rw[List.filter_cons,List.filterMap_cons]
  cases hp:p a with
  | true=>rw[if_pos rfl,List.filterMap_cons,b]
  | false=>rw[if_neg (by simp),b,h a List.mem_cons_self hp]
theorem aBt(ds:List D)(mh:MH)(R:DK)(ok:oV mh)(hs:PC ds mh R):kA (En mh R) (aQ ["above","below","columns","column","wires","wire"] ds) mh:=by
 obtain⟨c,rfl,K,q⟩:=hs;have sz:=aGb;have l2:=K.l2;have ll:=K.l;simp[kA,aQ,vI,oX,aM];refine⟨_,_,⟨rfl,rfl⟩,_,rfl,_,rfl,by simp;lia,by simp;lia,?_⟩;have e0:(mh++[MO.bI false []])[mh.length]? =some (.bI false []):=by simp
 have p0:oU mh (mh++[MO.bI false []]):=⟨_,rfl⟩
 have g0:(mh++[MO.bI false []]).length=mh.length+1:=by simp
 generalize mh++[MO.bI false []]=mh0 at e0 p0 g0⊢
 refine bM (λi W M=>(∃X Y Z,W=[some (aM c.A),some (aM c.B),some (.ref mh.length),X,Y,Z])/\oU mh M/\mh.length+1<=M.length/\∃g,M[mh.length]? =some (.bI false g)/\g.length<=2*i/\Ends (mh.length+1) M g (CQ c i)) _ (λ_ _ _ _=>⟨rfl,rfl⟩) ?_ ?_
  ⟨⟨_,_,_,rfl⟩,p0,by lia,[],e0,by simp,⟨λc d h=>by simp[aT]at h,λc _=>rfl,λc c' r h=>by simp[aT]at h,λp u=>by simp at u,by simp⟩⟩
 ·rintro i d W M N hi ⟨⟨X,Y,Z,rfl⟩,J,O,g,hk,kl,E⟩ nx;have P:=(aFp.mp hi).1;rw[fE,dQ]at P;simp at P;obtain⟨d,hd,rfl⟩:=j3 hi;obtain⟨x,y,S,hy,rfl⟩:=g5 hd;rw[List.getElem?_map]at S hy;obtain⟨a,ha,rfl⟩:=aFw.mp S;obtain⟨b,hb,rfl⟩:=aFw.mp hy;have ga:c.A.getD i 0=a:=by rw[List.getD_eq_getElem?_getD,ha];rfl
  have gb:c.B.getD i 0=b:=by rw[List.getD_eq_getElem?_getD,hb];rfl
  have b1:=DC c i;have stp:CQ c (i+1)=mO (mO (CQ c i) a i) b i:=by show mO (mO (CQ c i) (c.A.getD i 0) i) (c.B.getD i 0) i=_;rw[ga,gb]
  simp[nO,aX,mQ]
  have one:∀(x:Nat) (M:MH) (g:List (D×D)) (f:Int->List Nat) (E0:iK),oU mh M->mh.length+1<=M.length->M[mh.length]? =some (.bI false g)->g.length<=900->(∀x,(f x).length<=900)->Ends (mh.length+1) M g f->
    (∀n C,oU mh n ->mh.length+1<=n.length->n[mh.length]? =some (.bI false C)->C.length<=g.length+1->Ends (mh.length+1) n C (mO f x i)->E0.nx [some (aM c.A),some (aM c.B),some (.ref mh.length),some (nD i),some (.tup [nD a,nD b]),some (nD x)] n)->
    i7 E0 [some (aM c.A),some (aM c.B),some (.ref mh.length),some (nD i),some (.tup [nD a,nD b]),some (nD x)] M:=by
   intro x M g f E0 J O hk kl fl E q;unfold i7;rw[aA5,aA0,aA1,J4];simp only[List.getElem?_cons_succ,List.getElem?_cons_zero,Option.join_some,aF,s_c];unfold nD;rw[FK];simp only[c7,aF];by_cases h0:x=0
   ·subst h0;exact q M g J O hk (by lia) (by simpa[mO] using E)
   ·rw[if_pos (by simpa using h0)];refine U4 (i1:=2) (i2:=5) (i3:=3) (k:=i) E hk O (by lia) (by lia) (λc=>by have:=fl c;lia) rfl rfl rfl λn C T U s h3 h4 h5=>?_;have:=q n C (h5 _ J (aFq _)) (by lia) T s (by simpa[mO,h0] using U);exact this
  have o2:=tW b1 a i;refine one a M g _ _ J O hk (by lia) (λx=>by have:=b1 x;lia) E λM2 k2 px2 gl2 s kl2 E2=>?_;refine one b M2 k2 _ _ px2 gl2 s (by lia) (λx=>by have:=o2 x;lia) E2 λM3 k3 px3 gl3 h3 kl3 E3=>?_;exact nx _ _ ⟨⟨_,_,_,rfl⟩,px3,gl3,k3,h3,by lia,by rw[stp];exact E3⟩
 ·rintro W M ⟨⟨X,Y,Z,rfl⟩,J,O,g,hk,kl,E⟩;have le:(i4 0 (lN (c.A.map nD) (c.B.map nD))).length=c.A.length:=by rw[fE,dQ];simp;lia
  rw[le]at kl E;have lk:∀w,w≠0->Lk (CQ c c.A.length (w:Nat)) (rS c w):=λw F=>T7 K F _ (aFq _);simp[oW,OE]
  obtain⟨ks,t⟩:∃ks:List Nat,g.map (·.1)=ks.map nD:=by
   refine⟨g.map λp=>(match p.1 with | .int i=>i.toNat | _=>0),?_⟩;rw[List.map_map];apply aI9;intro p u;obtain⟨x,S⟩:=E.key p u;have hv:=sI E.nd u;rw[S]at hv;obtain⟨r,_,_,_,j⟩:=E.some x _ hv;obtain⟨w,rfl,_⟩:=yH K _ (aFq _) j;simp[S,nD]
  have knd:ks.Nodup:=by
   have:=E.nd;rw[t]at this;exact(aIt.mp this).imp λh z=>h (by rw[z])
  have G:∀w,w∈ks↔w∈(List.range' 1 8).filter λw=>!(rS c w).isEmpty:=λw=>by
   have V:w∈ks↔∃p∈g,p.1=nD w:=by
    constructor
    ·intro h;have:nD w∈g.map (·.1):=by rw[t];exact aFv.mpr ⟨w,h,rfl⟩
     obtain⟨p,u,e⟩:=aFv.mp this;exact⟨p,u,e⟩
    ·rintro⟨p,u,e⟩;have:nD w∈ks.map nD:=by rw[<-t,<-e];exact aFv.mpr ⟨p,u,rfl⟩
     obtain⟨v,hv,e⟩:=aFv.mp this;rw[<-dO e];exact hv
   rw[V,List.mem_filter];constructor
   ·rintro⟨p,u,e⟩;have hv:=sI E.nd u;rw[e]at hv;obtain⟨r,_,_,_,j⟩:=E.some _ _ hv;obtain⟨v,e2,v1,v8⟩:=yH K _ (aFq _) j;have:w=v:=by lia
    subst this;refine⟨by simp[List.mem_range'_1];lia,?_⟩;have:=(lk w (by lia)).em
    cases h:rS c w with
    | nil=>exact absurd (this.mpr h) j
    | cons _ _=>rfl
   ·rintro⟨T,s⟩;simp[List.mem_range'_1]at T
    have j:CQ c c.A.length (w:Nat)≠[]:=λz=>by
     have:=(lk w (by lia)).em.mp z;rw[this]at s;cases s
    cases hv:aT g (.int (w:Nat)) with
    | none=>exact absurd (E.none _ hv) j
    | some d=>exact⟨_,yR hv,rfl⟩
  generalize H:((List.range' 1 8).filter λw=>!(rS c w).isEmpty)=ws at G;have I:ws.Pairwise (· < ·):=by rw[<-H];exact List.Pairwise.filter _ List.pairwise_lt_range'
  have wb:∀w∈ws,1<=w/\w<=8:=λw F=>by
   rw[<-H,List.mem_filter]at F;have:=F.1;simp[List.mem_range'_1]at this;lia
  have spn:ws.filterMap (λw=>fS w (rS c w))=spans c:=by
   rw[<-H];refine mV _ λw _ h=>?_
   have:rS c w=[]:=by
    cases e:rS c w with
    | nil=>rfl
    | cons _ _=>rw[e]at h;cases h
   rw[this];rfl
  refine⟨mh.length,false,g,rfl,hk,by lia,by rw[t];exact mI _,λfs pm sd=>?_⟩;rw[t]at pm;have eg:=wQ G knd I pm sd;subst eg;rw[aU (bF _ _)];simp only[aF];have hl1:=bF M (MO.lst (ws.map nD));have hk1:=aL (x:=MO.lst (ws.map nD)) hk;have U:Ends (mh.length+1) (M++[MO.lst (ws.map nD)]) g (CQ c c.A.length):=E.keep λm o T s=>aL s;have px1:=J.push (MO.lst (ws.map nD));generalize hL:M.length=LL at*;have gl1:mh.length+1<=(M++[MO.lst (ws.map nD)]).length:=by simp;lia
  generalize M++[MO.lst (ws.map nD)]=M1 at*
  have wl8:ws.length<=8:=by
   have:=hZ (I.imp aFz) (m:=List.range' 1 8) λw F=>by have:=wb w F;simp[List.mem_range'_1];lia
   simpa using this
  refine NK (λi ys n =>n =M1/\ys=((ws.take i).filterMap λw=>fS w (rS c w)).map spE) _ (λ_ _ _ h=>by rw[h.1];exact aU hl1) ?_ ?_ ⟨rfl,by simp⟩
  ·rintro i d ys n N hi ⟨rfl,rfl⟩ nx;rw[List.getElem?_map]at hi;obtain⟨w,F,rfl⟩:=aFw.mp hi;have wm:=aFx F;have w18:=wb w wm;have L:=lk w (by lia);have one:=(G w).mpr wm
   have hv:∃d,aT g (.int (w:Nat))=some d:=by
    have:nD w∈g.map (·.1):=by rw[t];exact aFv.mpr ⟨w,one,rfl⟩
    obtain⟨p,u,e⟩:=aFv.mp this;have:=sI U.nd u;rw[e]at this;exact⟨_,this⟩
   obtain⟨d,hv⟩:=hv;obtain⟨r,rfl,_,hr,j⟩:=U.some _ _ hv
   have ix:∀{Q:DK},Q (.ref r) n ->yK (D.ref mh.length) (nD w) n Q:=λq=>⟨_,g,.inl (w:Nat),.ref r,rfl,hk1,rfl,hv,q⟩
   have lb:=DC c c.A.length (w:Nat);have tk:ws.take (i+1)=ws.take i++[w]:=dF F;simp[dD];refine ix ⟨(CQ c c.A.length (w:Nat)).map λk=>(Sum.inl ((k:Nat):Int):Key),?_,by simp;lia,?_⟩
   ·rw[DL hr,<-d9];rfl
   have tw:=OV L (aB1 c w c.A.length);by_cases s:(rS c w).headD 0<(rS c w).getLastD 0
   ·rw[if_pos (by have:=tw.mpr s;lia)];refine ix ?_;rw[mL hr,FV j];simp only[aF];refine ix ?_;rw[mL hr,FU j];simp only[aF];refine⟨by lia,⟨.inl (w:Nat),rfl⟩,nx _ _ ⟨rfl,?_⟩⟩;have es:fS w (rS c w)=some ⟨w,(rS c w).headD 0,(rS c w).getLastD 0⟩:=by unfold fS;rw[if_pos s]
    rw[tk,List.filterMap_append,List.filterMap_cons,es,L.hd,L.ls];rw[putL]
    ·simp[spE,spT]
    ·intro V;simp only[List.map_map,List.mem_map]at V;obtain⟨s',hs',e⟩:=V;obtain⟨v,hv',e2⟩:=aJa.mp hs';have e3:=dO e;rw[(kO e2).1]at e3;subst e3;have:=(aIs.mp (by rw[<-tk];exact(I.imp aFz).sublist (aHm ..):(ws.take i++[v]).Nodup)).2.2 v hv' v (by simp);exact this rfl
   ·rw[if_neg (by intro z;exact s (tw.mp (by lia)))];refine nx _ _ ⟨rfl,?_⟩;rw[tk,List.filterMap_append,List.filterMap_cons,show fS w (rS c w)=none by unfold fS;rw[if_neg s]];simp
  ·rintro ys n ⟨rfl,rfl⟩;rw[List.length_map,List.take_length,spn];exact aY (q _ _ (px1.push _) (by lia) (by rw[bF];rfl))
def yJ(c:aO)(p:Nat×Nat):Bool:=p.1 !=p.2 && (aC c).contains p.1 && (aC c).contains p.2
def lP(c:aO)(i w:Nat):List Nat:=D5 (((((c.A.zip c.B).take i).filter (yJ c)).filter λp=>p.2==w).map (·.1))
theorem GW(c:aO)(w:Nat):lP c 0 w=[]:=by simp[lP,D5]
theorem JH(h:(c.A.zip c.B).length<=i)(w:Nat):lP c i w=ups c w:=by
 unfold lP ups pN;rw[List.take_of_length_le h];rfl
theorem GX(h:(c.A.zip c.B)[i]? =some (a,b))(w:Nat):lP c (i+1) w=if yJ c (a,b)=true/\w=b/\a∉lP c i b then lP c i w++[a] else lP c i w:=by
 unfold lP;rw[dF h,List.filter_append,List.filter_append,List.map_append];by_cases ho:yJ c (a,b)=true
 ·by_cases f:w=b
  ·subst f;have e:List.map (·.1) (List.filter (λp:Nat×Nat=>p.2==w) (List.filter (yJ c) [(a,w)]))=[a]:=by simp[ho]
   rw[e,zJ];by_cases d:a∈D5 (List.map (·.1) (List.filter (λp:Nat×Nat=>p.2==w) (List.filter (yJ c) ((c.A.zip c.B).take i))))
   ·rw[if_pos d,if_neg (λz=>z.2.2 d)]
   ·rw[if_neg d,if_pos ⟨ho,rfl,d⟩]
  ·have e:List.map (·.1) (List.filter (λp:Nat×Nat=>p.2==w) (List.filter (yJ c) [(a,b)]))=[]:=by
    have:(b==w)=false:=by simp;exact λz=>f z.symm
    simp[ho,this]
   rw[e,List.append_nil,if_neg λz=>f z.2.1]
 ·have e:List.map (·.1) (List.filter (λp:Nat×Nat=>p.2==w) (List.filter (yJ c) [(a,b)]))=[]:=by simp[ho]
  rw[e,List.append_nil,if_neg λz=>ho z.1]
structure Od(W:List Nat)(b:Nat)(M:MH)(kvs:List (D×D))(f:Nat->List Nat):Prop where
 keys:kvs.map (·.1)=W.map nD
 val:∀w∈W,∃r,aT kvs (nD w)=some (.ref r)/\b<=r/\M[r]? =some (.lst ((f w).map nD))
 inj:∀w w' r,aT kvs (nD w)=some (.ref r)->aT kvs (nD w')=some (.ref r)->w=w'
theorem DT{W:List Nat}(h:kvs.map (·.1)=W.map nD){d:D}(e:aT kvs (nD w)=some d):w∈W:=by
 have:nD w∈kvs.map (·.1):=aFv.mpr ⟨_,yR e,rfl⟩;rw[h]at this;obtain⟨v,hv,e⟩:=aFv.mp this;rw[<-dO e];exact hv
theorem Z8(a:Nat):(aT (C3 c) (nD a)).isSome=(aC c).contains a:=by
 cases h:(aC c).contains a with
 | true=>rw[nA (by simpa using h)];rfl
 | false=>
  cases e:aT (C3 c) (nD a) with
  | none=>rfl
  | some d=>have:=DT (sL c) e;simp at h;exact absurd this h
theorem MT(h:gY M n false (C3 c))(q:Q (.bl ((aC c).contains a)) M):HF (nD a) (.ref n) M Q:=⟨n,false,C3 c,rfl,h,⟨.inl (a:Nat),rfl⟩,by rw[Z8];exact q⟩
def PJ:OA:=λds mh Q=>∃c s,ds=[aM c.A,aM c.B,.ref s]/\gY mh s false (C3 c)/\Wc c/\∀M n,FE (· =s) mh M->mh.length<=n->N7 c M n->Q (.ref n) M
theorem aBy(ds:List D)(mh:MH)(R:DK)(ok:oV mh)(F:PJ ds mh R):iQ (En mh R) (aQ ["above","below","spans","uppers","high","low"] ds) mh:=by
 obtain⟨c,s,rfl,hd,W,q⟩:=F;have sz:=aGb;have l2:=W.l2;have ll:=W.l;have wl:=cE c;have sl:s<mh.length:=by rcases hd with h | ⟨ob,h⟩ <;> exact iD h
 simp[iQ,aQ,OE];refine kU (S:=(· =s)) rfl hd rfl λob M0 J hf=>?_;rw[sL];refine NK (λi g M=>FE (· =s) mh M/\M[s]? =some (.eY false (C3 c) ob)/\Od ((aC c).take i) mh.length M g (λ_=>[])) _ (λ_ _ _ h=>h.2.1) ?_ ?_ ⟨J,hf,⟨by simp,λw h=>by simp at h,λw w' r h=>by simp[aT]at h⟩⟩
 ·rintro i d g M N hi ⟨fe,F,O⟩ nx;rw[List.getElem?_map]at hi;obtain⟨w,k,rfl⟩:=aFw.mp hi;have tk:=dF k;have K:=fe.1
  have nw:∀d,aT g (nD w)≠some d:=λd e=>by
   have h:=DT O.keys e;have nd:=cM c;have:=(aIs.mp (by rw[<-tk];exact nd.sublist (aHm ..):((aC c).take i++[w]).Nodup)).2.2 w h w (by simp);exact this rfl
  simp[dD];refine⟨⟨.inl (w:Nat),rfl⟩,nx _ _ ⟨fe.push _,aL F,⟨?_,λv hv=>?_,λv v' r t u=>?_⟩⟩⟩
  ·rw[wY,if_neg,O.keys,tk,List.map_append]
   ·rfl
   ·rintro⟨p,hp,e⟩;have:nD w∈g.map (·.1):=aFv.mpr ⟨p,hp,e⟩;rw[O.keys]at this;obtain⟨v,hv,e⟩:=aFv.mp this;obtain⟨r,j,_⟩:=O.val v hv;rw[dO e]at j;exact nw _ j
  ·rw[tk]at hv;by_cases e:v=w
   ·subst e;exact⟨M.length,kM ..,K,by simp⟩
   ·have hv:v∈(aC c).take i:=by
     rcases aG5.mp hv with h | h
     ·exact h
     ·simp at h;exact absurd h e
    obtain⟨r,j,m,f⟩:=O.val v hv;exact⟨r,by rw[bZ _ _ λz=>e (dO z)];exact j,m,aL f⟩
  ·have lo:∀v r,aT g (nD v)=some (.ref r)->r<M.length:=λv r h=>by
    obtain⟨X,e,_,f⟩:=O.val v (DT O.keys h);rw[h]at e;cases e;exact iD f
   by_cases G:v=w <;> by_cases H:v' =w
   ·rw[G,H]
   ·subst G;rw[kM]at t;cases t;rw[bZ _ _ λz=>H (dO z)]at u;exact absurd (lo _ _ u) (aH6 _)
   ·subst H;rw[kM]at u;cases u;rw[bZ _ _ λz=>G (dO z)]at t;exact absurd (lo _ _ t) (aH6 _)
   ·rw[bZ _ _ λz=>G (dO z)]at t;rw[bZ _ _ λz=>H (dO z)]at u;exact O.inj _ _ _ t u
 ·rintro g M ⟨fe,F,O⟩;rw[List.length_map,List.take_length]at O;have h0:(M++[MO.bI false g])[M.length]? =some (.bI false g):=by simp
  have L:=fe.push (MO.bI false g)
  have O1:Od (aC c) mh.length (M++[MO.bI false g]) g (lP c 0):=⟨O.keys,λw k=>by
   obtain⟨r,j,m,f⟩:=O.val w k
   exact⟨r,j,m,by rw[GW];exact aL f⟩,O.inj⟩
  have K:=fe.1;generalize hn:M.length=n at*;generalize M++[MO.bI false g]=M1 at*;simp[nQ,aM,aX];refine⟨by lia,?_⟩;refine bM (λi P M=>(∃T U,P=[some (aM c.A),some (aM c.B),some (.ref s),some (.ref n),T,U])/\FE (· =s) mh M/\M[n]? =some (.bI false g)/\Od (aC c) mh.length M g (lP c i)) _ (λ_ _ _ _=>trivial) ?_ ?_ ⟨⟨_,_,rfl⟩,L,h0,O1⟩
  ·rintro i d P M N hi ⟨⟨T,U,rfl⟩,fe,hk,O⟩ nx;obtain⟨x,y,Y,Z,rfl⟩:=g5 hi;rw[List.getElem?_map]at Y Z;obtain⟨a,ha,rfl⟩:=aFw.mp Y;obtain⟨b,hb,rfl⟩:=aFw.mp Z;have hz:(c.A.zip c.B)[i]? =some (a,b):=by rw[List.getElem?_zip_eq_some];exact⟨ha,hb⟩
   have E:=GX hz
   have same:¬(yJ c (a,b)=true/\a∉lP c i b)->Od (aC c) mh.length M g (lP c (i+1)):=λh=>⟨O.keys,λw k=>by
    obtain⟨r,j,m,f⟩:=O.val w k
    exact⟨r,j,m,by rw[E w,if_neg λz=>h ⟨z.1,z.2.2⟩];exact f⟩,O.inj⟩
   have dm:=fe.dm hd;simp[lW];refine MT dm ?_;simp only[c7,aF]
   cases C:(aC c).contains a with
   | false=>exact nx _ _ ⟨⟨_,_,rfl⟩,fe,hk,same λz=>by
    have C:a∉aC c:=by simpa using C
    simp[yJ,C]at z⟩
   | true=>
    rw[if_pos rfl];refine MT dm ?_;simp only[c7,aF]
    cases o:(aC c).contains b with
    | false=>exact nx _ _ ⟨⟨_,_,rfl⟩,fe,hk,same λz=>by
     have o:b∉aC c:=by simpa using o
     simp[yJ,o]at z⟩
    | true=>
     rw[if_pos rfl];unfold nD;rw[FK];simp only[c7,aF];by_cases c3:a=b
     ·subst c3;rw[if_neg (by simp)];exact nx _ _ ⟨⟨_,_,rfl⟩,fe,hk,same λz=>by simp[yJ]at z⟩
     ·rw[if_pos (by simp;lia)];obtain⟨r,j,m,f⟩:=O.val b (by simpa using o)
      have V:yJ c (a,b)=true:=by
       have C:a∈aC c:=by simpa using C
       have o:b∈aC c:=by simpa using o
       simp[yJ,C,o,c3]
      have ix:∀{Q:DK},Q (.ref r) M->yK (D.ref n) (nD b) M Q:=λq=>⟨_,g,.inl (b:Nat),.ref r,rfl,hk,rfl,j,q⟩
      refine ix ?_;refine A9 (l:=lP c i b) (aU f) ?_;simp only[c7,aF]
      cases I:(lP c i b).contains a with
      | true=>exact nx _ _ ⟨⟨_,_,rfl⟩,fe,hk,same λz=>z.2 (by simpa using I)⟩
      | false=>
       have I:a∉lP c i b:=by simpa using I
       rw[if_pos (show (!false)=true from rfl)];refine ix ⟨⟨rfl,_,f⟩,(oI f _).mpr ⟨?_,?_⟩⟩
       ·have:(lP c i b).length<=12:=by
         unfold lP;refine aG2 (SN _) ?_;rw[List.length_map];refine aG2 (aGo ..) (aG2 (aGo ..) ?_);simp;lia
        simp;lia
       ·have rn:r≠n:=λz=>by rw[z,hk]at f;cases f
        refine nx _ _ ⟨⟨_,_,rfl⟩,fe.set m _,get_set hk rn,⟨O.keys,λw k=>?_,O.inj⟩⟩;rw[E w];by_cases e:w=b
        ·subst e;refine⟨r,j,m,?_⟩;rw[if_pos ⟨V,rfl,I⟩,cH _ f,List.map_append];rfl
        ·obtain⟨X,g1,g2,g3⟩:=O.val w k;refine⟨X,g1,g2,?_⟩;rw[if_neg λz=>e z.2.1];exact get_set g3 λz=>e (O.inj _ _ _ g1 (by rw[<-z];exact j))
  ·rintro P M ⟨⟨T,U,rfl⟩,fe,hk,O⟩;simp[nP];refine aY (q _ _ fe K ⟨g,.inl hk,O.keys,λw k=>?_⟩);obtain⟨r,j,m,f⟩:=O.val w k;refine⟨r,j,?_⟩;rw[dQ]at f;rw[JH (by simp) w]at f;exact f
def qK(g:Nat->Nat)(l:List Nat):List (D×D):=l.map λw=>(nD w,.ref (g w))
theorem BK(g:Nat->Nat)(l:List Nat):(qK g l).map (·.1)=l.map nD:=by simp[qK]
theorem sS(g:Nat->Nat)(w:Nat):∀l:List Nat,aT (qK g l) (nD w)=if w∈l then some (.ref (g w)) else none
 | []=>by simp[qK,aT]
 | a::l=>by
  have b:=sS g w l;simp only[qK,List.map_cons,aT]at b⊢;by_cases h:a=w
  ·subst h;simp
  ·rw[if_neg λz=>h (dO z),b];have:¬w=a:=λz=>h z.symm;simp[this]
theorem BL(g:Nat->Nat)(w:Nat):∀l:List Nat,iF (qK g l) (nD w)=qK g (l.filter λv=>v !=w)
 | []=>by simp[qK,iF]
 | a::l=>by
  have b:=BL g w l;simp only[qK,List.map_cons,iF,List.filter_cons]at b⊢;by_cases h:a=w
  ·subst h;simpa using b
  ·have c:¬nD a=nD w:=λz=>h (dO z);simpa[h,c] using b
theorem MC{g:Nat->Nat}:∀{kvs:List (D×D)} {W:List Nat},kvs.map (·.1)=W.map nD->W.Nodup->(∀w∈W,aT kvs (nD w)=some (.ref (g w)))->kvs=qK g W
 | [],[],_,_,_=>rfl
 | [],_::_,h,_,_=>by simp at h
 | _::_,[],h,_,_=>by simp at h
 | (k,v)::kvs,w::W,h,nd,hv=>by
  simp only[List.map_cons,List.cons.injEq]at h;obtain⟨rfl,h⟩:=h;obtain⟨n1,n2⟩:=aIe.mp nd;have h0:=hv w aFr;simp[aT]at h0;subst h0
  have:=MC (g:=g) h n2 λu a=>by
   have:=hv u (aFt _ a);simp only[aT]at this;rw[if_neg λz=>n1 (by rw[dO z];exact a)]at this;exact this
  rw[this];rfl
theorem N7.fn(u:N7 c M n):∃g:Nat->Nat,gY M n false (qK g (aC c))/\∀w∈aC c,M[g w]? =some (.lst ((ups c w).map nD)):=by
 obtain⟨kvs,b,d,f⟩:=u
 let g:Nat->Nat:=λw=>match aT kvs (nD w) with | some (.ref r)=>r | _=>0
 have hg:∀w∈aC c,aT kvs (nD w)=some (.ref (g w))/\M[g w]? =some (.lst ((ups c w).map nD)):=λw a=>by
  obtain⟨r,e,h⟩:=f w a;have:g w=r:=by show (match aT kvs (nD w) with | some (.ref r)=>r | _=>0)=r;rw[e]
  rw[this];exact⟨e,h⟩
 exact⟨g,by rw[<-MC d (cM c) λw a=>(hg w a).1];exact b,λw a=>(hg w a).2⟩
def PD:OA:=λds mh Q=>∃c u,ds=[.ref u]/\N7 c mh u/\iI c/\Wc c/\∀M,FE qX mh M->Q .bU M
def aCj(c:aO)(u:Nat)(g:Nat->Nat)(mh:MH)(m:Nat)(a:c9)(M:MH):Prop:=∃(l F:List Nat) (fr:Nat) (b d e:Option D),a=[some (.ref u),some (.ref mh.length),some (.ref fr),b,d,e]/\FE qX mh M/\M[mh.length]? =some (.bI false (qK g l))/\
 l.Nodup/\(∀w∈l,w∈aC c)/\M[fr]? =some (.lst (F.map nD))/\F.length<=8/\(F=[]->∀w∈l,∃v∈ups c w,v∈l)/\m=2*l.length+(if F=[] then 0 else 1)
def aCi(c:aO)(u:Nat)(g:Nat->Nat)(mh:MH)(m:Nat)(b:c9)(M:MH):Prop:=∃a,a<m/\aCj c u g mh a b M
theorem aBu(ds:List D)(mh:MH)(R:DK)(ok:oV mh)(hs:PD ds mh R):m8 (En mh R) (aQ ["uppers","left","free","wire","walk","ring"] ds) mh:=by
 obtain⟨c,u,rfl,hu,nr,wc,q⟩:=hs;have sz:=aGb;have wl:=cE c;obtain⟨g,hd,hg⟩:=hu.fn;simp[m8,aQ];refine⟨u,_,rfl,hd,?_⟩;have K:(mh++[MO.bI false (qK g (aC c))])[mh.length]? =some (.bI false (qK g (aC c))):=by simp
 have s:FE qX mh (mh++[MO.bI false (qK g (aC c))]):=FE.refl.push _;generalize mh++[MO.bI false (qK g (aC c))]=L at K s⊢;simp[qZ];refine⟨mh.length,_,rfl,.inl K,?_⟩;rw[BK];have e1:=aL (x:=MO.lst ((aC c).map nD)) K;have O:=bF L (MO.lst ((aC c).map nD));have t:=s.push (MO.lst ((aC c).map nD));generalize L++[MO.lst ((aC c).map nD)]=M1 at e1 O t⊢;generalize L.length=y at O⊢;show oF (mB (aA 2)) kB {(En mh R) with nx:=lT (En mh R)} [some (.ref u),some (.ref mh.length),some (.ref y),none,none,none] M1;refine⟨aCj c u g mh,⟨_,aC c,aC c,y,_,_,_,rfl,t,e1,cM c,λ_ h=>h,O,wl,(λh w b=>by rw[h]at b;cases b),rfl⟩,?_⟩;rintro m I M ⟨l,F,fr,f,k,a5,rfl,fe,P,nd,J,hf,fl,hF,rfl⟩;refine⟨aCi c u g mh _,λ_ _ h=>h,?_⟩;have ml:=fe.1;have gM:∀w∈l,M[g w]? =some (.lst ((ups c w).map nD)):=λw b=>fe.lst (hg w (J w b));simp[jA,hf]
 cases F with
 | nil=>
  have hl:l=[]:=by
   cases l with
   | nil=>rfl
   | cons a l=>exact absurd aFr (u3 nr (S:=λw=>w∈a::l) J (hF rfl) a)
  subst hl;simp[lT];exact⟨qK g [],.inl P,by simp[qK];exact aY (q _ fe)⟩
 | cons x F=>
  simp[kB];refine⟨mh.length,.inl ⟨⟨_,P⟩,?_⟩⟩;refine kU (S:=(· =mh.length)) rfl (.inl P) rfl λob M2 A e=>?_;rw[BK];have B:∀w∈l,M2[g w]? =some (.lst ((ups c w).map nD)):=λw b=>A.lst (gM w b);refine jH nD (λw=>!((ups c w).any λv=>l.contains v)) id nD (λC =>FE qX M2 C) l FE.refl (λC a=>a.eY e) ?_ ?_
  ·intro w b n f N3 L3 n3 l3;have Q:gY n mh.length false (qK g l):= .inr ⟨ob,f.eY e⟩
   have iv:∀v,(aT (qK g l) (nD v)).isSome=l.contains v:=λv=>by
    rw[sS]
    cases h:l.contains v with
    | true=>rw[if_pos (by simpa using h)];rfl
    | false=>rw[if_neg (by simpa using h)];rfl
   simp[dD];refine mS Q (by rw[sS,if_pos b]) ?_;rw[aU (f.lst (B w b))];simp only[aF];refine jH nD (λ_=>true) (λv=>l.contains v) D.bl (λC =>FE qX M2 C) (ups c w) f (λC a=>aU (a.lst (B w b))) ?_ ?_
   ·intro v hv M4 k N4 L4 n4 l4;simp;refine⟨_,false,qK g l,rfl,.inr ⟨ob,k.eY e⟩,⟨.inl (v:Nat),rfl⟩,?_⟩;rw[iv];exact n4 _ k rfl
   ·intro M4 k;rw[List.filter_eq_self.mpr (λ_ _=>rfl)];rw[C6 (bs:=(ups c w).map λv=>l.contains v) (bF _ _)];rw[show ((ups c w).map λv=>l.contains v).any id=(ups c w).any λv=>l.contains v by rw[List.any_map];rfl];simp only[jA,aF]
    cases hb:(ups c w).any λv=>l.contains v with
    | true=>exact l3 _ (k.push _) (by rw[hb];rfl)
    | false=>exact n3 _ (k.push _) (by rw[hb];rfl)
  ·intro n f;rw[List.map_id];generalize T:(l.filter λw=>!((ups c w).any λv=>l.contains v))=G;have U:∀w,w∈G↔w∈l/\∀v∈ups c w,v∉l:=λw=>by rw[<-T];simp
   have V:G.Nodup:=by rw[<-T];exact nd.filter _
   have gle:G.length<=l.length:=by rw[<-T];exact aGo ..
   have ll:l.length<=8:=aG2 (hZ nd J) wl;have h5:(n++[MO.lst (G.map nD)])[mh.length]? =some (.eY false (qK g l) ob):=aL (f.eY e);refine⟨_,⟨_,h5⟩,?_⟩;have h6:=cH (MO.bI false (qK g l)) h5;have j:((n++[MO.lst (G.map nD)]).set mh.length (.bI false (qK g l)))[n.length]? =some (.lst (G.map nD)):=get_set (bF _ _) (by have:=iD (f.eY e);lia)
   have E:FE qX mh ((n++[MO.lst (G.map nD)]).set mh.length (.bI false (qK g l))):=by
    refine FE.set ?_ (aFq _) _;exact(fe.over (A.over (f.push _) (λm _ h=>h.elim)) λm hm h=>by have h:m=mh.length:=h;lia)
   generalize (n++[MO.lst (G.map nD)]).set mh.length (.bI false (qK g l))=M6 at h6 j E⊢;generalize n.length=o at j⊢;simp[lS];rw[aU j];simp only[aF]
   refine bM (λi I M=>(∃f k a5,I=[some (.ref u),some (.ref mh.length),some (.ref o),f,k,a5])/\FE qX mh M/\M[o]? =some (.lst (G.map nD))/\M[mh.length]? =some (.bI false (qK g (l.filter λw=>!((G.take i).contains w))))) _ (λ_ _ _ h=>aU h.2.2.1) ?_ ?_
    ⟨⟨_,_,_,rfl⟩,E,j,by rw[List.filter_eq_self.mpr (λ_ _=>by simp)];exact h6⟩
   ·rintro i d I M7 N hi ⟨⟨b3,b4,b5,rfl⟩,W,H,r⟩ nx;rw[List.getElem?_map]at hi;obtain⟨w,b,rfl⟩:=aFw.mp hi;have tk:=dF b;have wm:=(U w).mp (aFx b)
    have wn:w∉G.take i:=λh=>by
     have:=(aIs.mp (by rw[<-tk];exact V.sublist (aHm ..):(G.take i++[w]).Nodup)).2.2 w h w (by simp);exact this rfl
    simp[oY,E8];refine⟨_,r,⟨.inl (w:Nat),rfl⟩,?_,nx _ _ ⟨⟨_,_,_,rfl⟩,W.set (aFq _) _,get_set H (λz=>by rw[<-z,r]at H;cases H),?_⟩⟩
    ·rw[sS,if_pos (by simp[wm.1,wn])];rfl
    ·rw[cH _ r,BL,List.filter_filter,tk];congr 3;apply List.filter_congr;intro v _;by_cases h1:v=w <;> by_cases h2:v∈G.take i <;> simp[h1,h2]
   ·rintro I M7 ⟨⟨b3,b4,b5,rfl⟩,W,H,r⟩;rw[List.take_of_length_le (by simp)]at r;refine⟨_,?_,_,G,o,b3,b4,b5,rfl,W,r,nd.filter _,λw b=>J w (aGz.mp b).1,H,by lia,?_,rfl⟩
    ·have:=aGo (λw=>!(G.contains w)) l;by_cases hg:G=[]
     ·rw[if_pos hg];lia
     ·rw[if_neg hg];obtain⟨x,hx⟩:=aHi G hg;have:=List.length_filter_lt_length_iff_exists (p:=λw=>!(G.contains w)) (l:=l) |>.mpr ⟨x,((U x).mp hx).1,by simpa using hx⟩
      lia
    ·intro hg w b;subst hg;have X:w∈l:=(aGz.mp b).1
     have Y:=λz=>(by simp:w∉([]:List Nat)) ((U w).mpr z)
     refine aGc λh=>Y ⟨X,λv hv Z=>h ⟨v,hv,?_⟩⟩;simpa using Z
def j1(p:Nat×Nat):D:= .tup [nD p.1,nD p.2]
def dR(c:aO):List (Nat×Nat):=(aC c).map λw=>(w,CP (rowsOf c) w)
def eD(c:aO):D:= .tup [nD (rowsOf c).length,.tup ((dR c).map j1),gU c (rowsOf c).length c.A.length]
theorem xI{α:Type}(f:α->D):∀(l:List α) (k:Nat),i4 k (l.map f)=(l.zipIdx k).map λp=>.tup [nD p.2,f p.1]
 | [],_=>rfl
 | a::l,k=>by simp[i4,xI f l (k+1),nD]
def iE(R:List (List Nat))(k:Nat):List (Nat×Nat):=(R.zipIdx k).flatMap λp=>p.1.map λw=>(w,p.2)
theorem nG:∀(R:List (List Nat)) (k:Nat),(iE R k).map (·.1)=R.flatten
 | [],_=>rfl
 | f::R,k=>by
  have:=nG R (k+1);simp only[iE,List.zipIdx_cons,List.flatMap_cons,List.map_append,List.map_map,List.flatten_cons]at this⊢;rw[this];simp[Function.comp_def]
theorem IG{p:Nat×Nat}:p∈iE R 0↔∃f,R[p.2]? =some f/\p.1∈f:=by
 unfold iE;rw[List.mem_flatMap];constructor
 ·rintro⟨q,a,h⟩;obtain⟨w,b,rfl⟩:=aFv.mp h;have:=aJ8.mp a;exact⟨q.1,this,b⟩
 ·rintro⟨f,c,d⟩;exact⟨(f,p.2),aJ8.mpr c,aFv.mpr ⟨p.1,d,rfl⟩⟩
theorem IF(E:eX c (aC c,rowsOf c)):(iE (rowsOf c) 0).Perm (dR c):=by
 have n1:(iE (rowsOf c) 0).Nodup:=by
  have:=E.nd;rw[show (aC c,rowsOf c).2=rowsOf c from rfl,<-nG (rowsOf c) 0]at this;exact(aIt.mp this).imp λh z=>h (by rw[z])
 have n2:(dR c).Nodup:=by
  unfold dR;refine aIt.mpr ((cM c).imp λh z=>h ?_);exact aGx Prod.fst z
 rw[List.perm_ext_iff_of_nodup n1 n2];intro p;rw[IG];unfold dR;rw[List.mem_map];constructor
 ·rintro⟨f,b,d⟩;have a:=(E.mem p.1).mpr (aHs.mpr ⟨f,aFx b,d⟩);exact⟨p.1,a,by rw[yB E.nd b d]⟩
 ·rintro⟨w,a,rfl⟩;exact qC E a
theorem JJ(l:List (Nat×Nat)):EL (l.map j1):= .inr ⟨.i,[.i],λd hd=>by obtain⟨s,_,rfl⟩:=aFv.mp hd;exact⟨_,rfl,rfl⟩⟩
theorem aB5{a b:Nat×Nat}(h:a.1<b.1):lx (enc (j1 b)) (enc (j1 a))=false:=by
 have c:¬((b.1:Int)<(a.1:Int)):=by lia
 have d:(a.1:Int)<(b.1:Int):=by lia
 simp[j1,nD,enc,eV,lx,c,d]
theorem O3{l:List (Nat×Nat)}(a:l.Perm (dR c)){fs:List D}(p:fs.Perm (l.map j1))(s:fs.Pairwise λd e=>lx (enc e) (enc d)=false):fs=(dR c).map j1:=by
 refine nB (JJ l) (λd hd=>p.mem_iff.mp hd) (p.trans (a.map j1)) s ?_;unfold dR;rw[List.pairwise_map,List.pairwise_map];exact(sY c).imp λh=>aB5 h
def O9:OA:=λds mh Q=>∃c,ds=[aM c.A,aM c.B]/\Wc c/\iI c/\∀M,Q (eD c) M
theorem aBq(ds:List D)(mh:MH)(R:DK)(ok:oV mh)(B:O9 ds mh R):sF PC PJ PD PK PH (En mh R) (aQ ["above","below","spans","uppers","ring","rows","tracks"] ds) mh:=by
 obtain⟨c,rfl,d,i,q⟩:=B;have sz:=aGb;have l2:=d.l2;have E:=FN i;have j:=E.U8;simp[sF,aQ];refine⟨c,by simp,d,λI n1 J _ v=>?_⟩;simp[wI];refine⟨c,n1,by simp,.inl v,d,λM2 n2 k _ l=>?_⟩;simp[wH];refine⟨c,n2,rfl,l,i,d,λK a=>?_⟩;simp[wG,mU,wF];have y:=a.dm (k.dm (.inl v));refine⟨c,n1,n2,by simp,y,l.fe a,d,i,λe r m n=>?_⟩;simp[wD];rw[aU n];simp only[aF];refine⟨by simp;lia,?_⟩;rw[xI];refine SR (b:=false) (γ:=Nat×Nat) _ (λp:List Nat×Nat=>p.1) nD (λ(p:List Nat×Nat) w=>(w,p.2)) j1 (λp:List Nat×Nat=>[some (nD p.2),some (aM p.1),none]) _ (λh=>by cases h) ?_ ?_ ?_ ?_ ?_ ?_
 ·exact aU n
 ·have:(((rowsOf c).zipIdx).flatMap λp=>p.1)=(rowsOf c).flatten:=by
   have h:=nG (rowsOf c) 0;rw[<-h];unfold iE;rw[List.map_flatMap];congr 1;funext p;simp[Function.comp_def]
  rw[this];have o:=j.1;have o:(rowsOf c).flatten.length<=8:=o;simp[ZI];simp at o;lia
 ·intro p z N hN;simp[dD];exact hN
 ·intro p z N hN;simp[aM,aX];exact hN _ trivial
 ·intro p z w g N hN;simp;exact⟨by lia,hN⟩
 ·show lstK _ ((iE (rowsOf c) 0).map j1) e
  have fl:(iE (rowsOf c) 0).length<=8:=by
   have:(iE (rowsOf c) 0).length=(rowsOf c).flatten.length:=by rw[<-nG (rowsOf c) 0,List.length_map]
   rw[this];exact j.1
  refine⟨_,_,rfl,DL (bF _ _),by simp;lia,JJ _,λfs pm C=>?_⟩;have F:=O3 (IF E) pm C;subst F;have L:(dR c).length<=8:=by unfold dR;rw[List.length_map];exact cE c
  have s:=aL (x:=MO.lst ((dR c).map j1)) (aL (x:=MO.lst ((iE (rowsOf c) 0).map j1)) n);have t:=bF (e++[MO.lst ((iE (rowsOf c) 0).map j1)]) (MO.lst ((dR c).map j1));have u:=(m.push (MO.lst ((iE (rowsOf c) 0).map j1))).push (MO.lst ((dR c).map j1));generalize e++[MO.lst ((iE (rowsOf c) 0).map j1)]++[MO.lst ((dR c).map j1)]=M at s t u⊢;generalize (e++[MO.lst ((iE (rowsOf c) 0).map j1)]).length=O at t⊢;simp[wA];rw[mK s];rw[aU t];simp only[aF];rw[mK s];simp only[aM,J7,List.length_map];refine⟨c,n1,n2,(rowsOf c).length,c.A.length,rfl,u.dm y,(l.fe a).fe u,d,l2,λg=>?_,λP G=>⟨by lia,aY (q _)⟩⟩;refine⟨?_,j.2⟩;obtain⟨w,g⟩:=aHi _ g;obtain⟨f,H,_⟩:=qC E g;have:=(aFp.mp H).1
  lia
theorem ix2{x y r:Int}(h0:0<=r)(a:r<2):∃v,oS [D.int x,.int y] r=some (.int v)/\(v=x\/v=y):=by
 have:r=0\/r=1:=by lia
 rcases this with rfl | rfl
 ·exact⟨x,aCg _ _,.inl rfl⟩
 ·exact⟨y,CI _ _ _,.inr rfl⟩
def PL:OA:=λds mh Q=>∃b,ds=[.ref b]/\OC mh b/\∀c M,Wc c->iO mh b M->Q (.tup [aM c.A,aM c.B]) M
theorem aC4(ds:List D)(mh:MH)(R:DK)(ok:oV mh)(hs:PL ds mh R):eK wV (En mh R) (aQ ["_law_bag_here","_law_many","_law_kinds","_law_apart_sides","_law_above","_law_below","_law_column","_law_up","_law_down"] ds) mh:=by
 obtain⟨b,rfl,hb,q⟩:=hs;have sz:=aGb;simp[eK,aQ];refine⟨by lia,tJ ((iO.refl hb).push _) (by lia) (by lia) λr1 M1 u w b1 _ Z=>?_⟩;have e1:M1[mh.length]? =some (.lst [D.int 5,D.int 12]):=by rw[Z _ (Nat.le_refl _)];simp
 obtain⟨v,hv,a⟩:=ix2 (x:=5) (y:=12) u w;rw[mL e1,hv];simp only[aF];refine tJ b1 (by rcases a with rfl | rfl <;> lia) (by rcases a with rfl | rfl <;> lia) λc M2 m0 m1 b2 _ _=>?_;have m12:c<12:=by rcases a with rfl | rfl <;> lia
 clear hv a e1 Z;simp[jV];refine⟨by lia,tJ (b2.push _) (by lia) (by lia) λr2 M3 C E b3 _ g3=>?_⟩;have e3:M3[M2.length]? =some (.lst [D.int 8,D.int 4]):=by rw[g3 _ b2.le];simp
 obtain⟨v,hv,a⟩:=ix2 (x:=8) (y:=4) C E;rw[mL e3,hv];simp only[aF];refine tJ b3 (by rcases a with rfl | rfl <;> lia) (by rcases a with rfl | rfl <;> lia) λf M4 k0 k1 b4 _ _=>?_;have k8:f<8:=by rcases a with rfl | rfl <;> lia
 clear hv a e3 g3;simp[jU];refine tJ b4 (by lia) (by lia) λF j a0 a1 b5 _ _=>?_;simp[jT,jS];have b7:=(b5.push (MO.lst [])).push (MO.lst []);have t:=b5.le;have G:(j++[MO.lst []]++[MO.lst []])[j.length]? =some (.lst []):=by simp
 have H:(j++[MO.lst []]++[MO.lst []])[j.length+1]? =some (.lst []):=by simp
 have l7:(j++[MO.lst []]++[MO.lst []]).length=j.length+2:=by simp
 rw[show j++[MO.lst [],MO.lst []]=j++[MO.lst []]++[MO.lst []] by simp];generalize j++[MO.lst []]++[MO.lst []]=M7 at b7 G H l7⊢;generalize j.length=x at t G H l7⊢;simp[jR];refine⟨by lia,by lia,?_⟩
 refine bM (λi I M=>(∃J K L,I=[some (.ref b),some (.int (1+c)),some (.int (1+f)),some (.int F),some (.ref x),some (.ref (x+1)),J,K,L])/\iO mh b M/\∃A B:List Nat,M[x]? =some (.lst (A.map nD))/\M[x+1]? =some (.lst (B.map nD))/\A.length=i/\B.length=i/\(∀z∈A,z<=8)/\∀z∈B,z<=8) _ (λ_ _ _ _=>trivial) ?_ ?_
  ⟨⟨_,_,_,rfl⟩,b7,[],[],G,H,rfl,rfl,by simp,by simp⟩
 ·rintro i d I M N hi ⟨⟨J,K,L,rfl⟩,O,A,B,P,Q,S,T,U,V⟩ nx;obtain⟨hi,rfl⟩:=nC hi;simp[iV];refine tJ O (by lia) (by lia) λup M8 u0 u1 b8 _ g8=>?_;simp[gD];refine tJ b8 (by lia) (by lia) λdn o d0 d1 b9 _ g9=>?_;have m:o[x]? =some (.lst (A.map nD)):=by rw[g9 _ t,g8 _ t];exact P
  have W:o[x+1]? =some (.lst (B.map nD)):=by rw[g9 _ (by lia),g8 _ (by lia)];exact Q
  have k:∀p r:Int,0<=p->p<=8->0<=r->r<=8->∀X:iK,X.nx=N->dN wV X [some (.ref b),some (.int (1+c)),some (.int (1+f)),some (.int F),some (.ref x),some (.ref (x+1)),some (.int (i:Nat)),some (.int p),some (.int r)] o:=by
   intro p r p0 p8 r0 r8 X en
   obtain⟨n,rfl⟩:∃n :Nat,p=(n :Nat):=⟨p.toNat,by lia⟩
   obtain⟨Y,rfl⟩:∃Y :Nat,r=(Y :Nat):=⟨r.toNat,by lia⟩
   simp[dN];refine⟨⟨rfl,_,m⟩,(oI m _).mpr ⟨by simp;lia,?_⟩⟩;have l:=cH (MO.lst (A.map nD++[.int (n :Nat)])) m;have g:(o.set x (MO.lst (A.map nD++[.int (n :Nat)])))[x+1]? =some (.lst (B.map nD)):=get_set W (by lia);have s:=b9.set t (MO.lst (A.map nD++[.int (n :Nat)]));generalize o.set x (MO.lst (A.map nD++[.int (n :Nat)]))=M10 at l g s⊢;simp[gB];refine⟨⟨rfl,_,g⟩,(oI g _).mpr ⟨by simp;lia,?_⟩⟩;rw[en];refine nx _ _ ⟨⟨_,_,_,rfl⟩,s.set (by lia) _,A++[n],B++[Y],?_,?_,by simp[S],by simp[T],λz hz=>?_,λz hz=>?_⟩
   ·rw[get_set l (by lia),List.map_append];rfl
   ·rw[cH _ g,List.map_append];rfl
   ·rcases aG5.mp hz with h | h
    ·exact U z h
    ·simp at h;lia
   ·rcases aG5.mp hz with h | h
    ·exact V z h
    ·simp at h;lia
  simp[gC];by_cases h1:F=1
  ·rw[if_pos h1];by_cases h2:dn<up
   ·rw[if_pos h2];by_cases h3:0<dn
    ·rw[if_pos h3];exact⟨by lia,k _ _ (by lia) (by lia) (by lia) (by lia) _ rfl⟩
    ·rw[if_neg h3];exact k _ _ (by lia) (by lia) (by lia) (by lia) _ rfl
   ·rw[if_neg h2];exact k _ _ (by lia) (by lia) (by lia) (by lia) _ rfl
  ·rw[if_neg h1];exact k _ _ (by lia) (by lia) (by lia) (by lia) _ rfl
 ·rintro I M ⟨⟨J,K,L,rfl⟩,O,A,B,P,Q,S,T,U,V⟩;have e:(jC 0 (1+c).toNat).length=(1+c).toNat:=by simp[jC]
  rw[e]at S T;simp[jQ];rw[aU P,aU Q];simp only[aF];exact⟨by lia,aY (q ⟨A,B⟩ M ⟨by show A.length=B.length;lia,by show 1<=A.length;lia,by show A.length<=12;lia,U,V⟩ O)⟩
def vL(s:Sp):D:= .tup [nD s.w,nD s.a,nD s.b]
theorem KC(n:Nat):jC 0 n=(List.range n).map nD:=by simp[jC,nD]
theorem UJ{k:Nat}{x:Nat}(h:l[k]? =some x):oS (l.map nD) (k:Nat)=some (nD x):=sW (by rw[List.getElem?_map,h];rfl)
def vN:OA:=λds mh Q=>∃c,ds=[aM c.A,aM c.B]/\Wc c/\∀M n,FE qX mh M->M[n]? =some (.lst ((spans c).map vL))->Q (.ref n) M
theorem aBs(ds:List D)(mh:MH)(R:DK)(ok:oV mh)(K:vN ds mh R):eI (En mh R) (aQ ["_law_above","_law_below","_law_found","_law_wire","_law_at"] ds) mh:=by
 obtain⟨c,rfl,s,q⟩:=K;have sz:=aGb;have l1:=s.l1;have l2:=s.l2;have T:=s.l;simp[eI,aQ,jN];refine⟨_,_,⟨rfl,rfl⟩,by lia,by lia,by lia,by lia,by lia,?_⟩;have E:(mh++[MO.lst []])[mh.length]? =some (.lst []):=by simp
 have j:FE qX mh (mh++[MO.lst []]):=FE.refl.push _;generalize mh++[MO.lst []]=U at E j⊢;refine bM (λi t M=>(∃u v,t=[some (aM c.A),some (aM c.B),some (.ref mh.length),u,v])/\FE qX mh M/\M[mh.length]? =some (.lst ((((List.range' 1 8).take i).filterMap λw=>fS w (rS c w)).map vL))) _ (λ_ _ _ _=>trivial) ?_ ?_ ⟨⟨_,_,rfl⟩,j,by simpa using E⟩
 ·rintro i d t M N hi ⟨⟨u,v,rfl⟩,fe,y⟩ nx;obtain⟨hi,rfl⟩:=nC hi;have tk:(List.range' 1 8).take (i+1)=(List.range' 1 8).take i++[i+1]:=dF (by rw[List.getElem?_range' (by lia)];simp;lia);have L:(((List.range' 1 8).take i).filterMap λw=>fS w (rS c w)).length<=8:=aG2 (aIc ..) (by simp;lia);rw[show (D.int (1+(i:Int)))=nD (i+1) by unfold nD;congr 1;lia];simp[iT,aM];refine⟨by lia,?_⟩;rw[KC];refine jH nD (vT c (i+1)) id nD (λO =>FE qX M O) (List.range c.A.length) FE.refl (λ_ _=>trivial) ?_ ?_
  ·intro k hk g m V W n1 l1;have hk:k<c.A.length:=by simpa using hk
   have z:c.A[k]? =some (c.A[k]):=aGi hk;have C:c.B[k]? =some (c.B[k]'(by lia)):=aGi (by lia);generalize c.A[k]=a at z;generalize c.B[k]'(by lia)=b at C;simp[dD];unfold nD;have F:=UJ z;have G:=UJ C;unfold nD at F G;rw[FL,F];simp only[aF];rw[FL,G];simp only[aF];refine⟨by lia,BU (w:=i+1) (l:=[a,b]) (aU (bF _ _)) ?_⟩
   have P:([a,b]:List Nat).contains (i+1)=vT c (i+1) k:=by
    unfold vT;rw[z,C];simp;by_cases Q:i+1=a <;> by_cases S:i+1=b <;> simp[Q,S] <;> grind
   rw[P];simp only[c7,aF]
   cases hh:vT c (i+1) k with
   | true=>exact n1 _ (m.push _) hh
   | false=>exact l1 _ (m.push _) hh
  ·intro g m;rw[List.map_id];show dM _ [some (aM c.A),some (aM c.B),some (.ref mh.length),some (nD (i+1)),some (.ref g.length)] (g++[MO.lst ((rS c (i+1)).map nD)]);have f:=bF g (MO.lst ((rS c (i+1)).map nD));have f1:=(fe.trans m).push (MO.lst ((rS c (i+1)).map nD));have e:=aL (x:=MO.lst ((rS c (i+1)).map nD)) (m.lst y);generalize g++[MO.lst ((rS c (i+1)).map nD)]=M2 at f f1 e⊢;generalize g.length=r at f⊢;generalize n:rS c (i+1)=o at*;have none:fS (i+1) o=none->N [some (aM c.A),some (aM c.B),some (.ref mh.length),some (nD (i+1)),some (.ref r)] M2:=λh=>nx _ _ ⟨⟨_,_,rfl⟩,f1,by rw[tk,List.filterMap_append,List.filterMap_cons,n,h];simpa using e⟩;simp[dM];rw[mK f];simp only[T1,c7,aF,List.length_map]
   cases o with
   | nil=>simp;exact none rfl
   | cons x o=>
    simp only[List.length_cons];rw[if_pos (by simp)];have p:x::o≠[]:=by simp
    have h0:oS ((x::o).map nD) 0=some (nD ((x::o).headD 0)):=FV p;have H:oS ((x::o).map nD) (-1)=some (nD ((x::o).getLastD 0)):=FU p;rw[mL f,h0];simp only[aF];rw[mL f,H];simp only[aF];generalize I:(x::o).headD 0=lo at*;generalize J:(x::o).getLastD 0=hi' at*;unfold nD;rw[TY];simp only[c7,aF];by_cases h:lo<hi'
    ·rw[if_pos (by simp;lia)];refine⟨⟨rfl,_,e⟩,?_⟩;rw[mL f,show oS ((x::o).map nD) 0=some (nD lo) from h0];simp only[aF];rw[mL f,show oS ((x::o).map nD) (-1)=some (nD hi') from H];simp only[aF];refine⟨by lia,(oI e _).mpr ⟨by simp;lia,nx _ _ ⟨⟨_,_,rfl⟩,f1.set (aFq _) _,?_⟩⟩⟩;rw[cH _ e,tk,List.filterMap_append,List.filterMap_cons,n];have:fS (i+1) (x::o)=some ⟨i+1,lo,hi'⟩:=by unfold fS;rw[I,J,if_pos h]
     rw[this];simp[vL,nD]
    ·rw[if_neg (by simp;lia)];exact none (by unfold fS;rw[I,J,if_neg h])
 ·rintro t M ⟨⟨u,v,rfl⟩,fe,y⟩;simp[jM];exact aY (q _ _ fe (by unfold spans;simpa[jC] using y))
def C8:OA:=λds mh Q=>∃c,ds=[aM c.A,aM c.B]/\Wc c/\∀M n,FE qX mh M->M[n]? =some (.lst ((pN c).map j1))->Q (.ref n) M
theorem aBx(ds:List D)(mh:MH)(R:DK)(ok:oV mh)(H:C8 ds mh R):eJ vN (En mh R) (aQ ["_law_above","_law_below","_law_needing","_law_pairs","_law_up","_law_down"] ds) mh:=by
 obtain⟨c,rfl,n,q⟩:=H;have sz:=aGb;have l2:=n.l2;have U:=n.l;have V:=cE c;have sl:(spans c).length=(aC c).length:=by simp[aC]
 simp[eJ,aQ];refine⟨c,by simp,n,λg n1 j I=>?_⟩;dsimp only;rw[aU I];simp only[aF];refine nK vL (·.w) nD (spans c) (aU I) (λs H N hN=>?_) ?_
 ·simp[dD,vL];exact hN
 show eZ vN _ [some (aM c.A),some (aM c.B),some (.ref g.length),none,none,none] (g++[MO.lst ((aC c).map nD)]);have r:=bF g (MO.lst ((aC c).map nD));have t:=j.push (MO.lst ((aC c).map nD));have J:=t.1;generalize g++[MO.lst ((aC c).map nD)]=M2 at r t J⊢;have Q:mh.length<=g.length:=j.1;generalize g.length=n2 at r Q⊢;simp[eZ,jP,aM,aX];refine⟨by lia,?_⟩;have K:=aL (x:=MO.lst []) r;have u:=bF M2 (MO.lst []);have L:=t.push (MO.lst []);generalize M2++[MO.lst []]=W at K u L⊢;generalize M2.length=n3 at u J⊢;refine bM (λi v M=>(∃C E,v=[some (aM c.A),some (aM c.B),some (.ref n2),some (.ref n3),C,E])/\FE qX mh M/\M[n2]? =some (.lst ((aC c).map nD))/\M[n3]? =some (.lst ((((c.A.zip c.B).take i).filter (yJ c)).map j1))/\(n2≠n3\/True)) _ (λ_ _ _ _=>trivial) ?_ ?_ ⟨⟨_,_,rfl⟩,L,K,by simpa using u,.inr trivial⟩
 ·rintro i d v M N hi ⟨⟨C,E,rfl⟩,fe,f,e,_⟩ nx;obtain⟨x,y,O,P,rfl⟩:=g5 hi;rw[List.getElem?_map]at O P;obtain⟨a,S,rfl⟩:=aFw.mp O;obtain⟨b,T,rfl⟩:=aFw.mp P;have hz:(c.A.zip c.B)[i]? =some (a,b):=by rw[List.getElem?_zip_eq_some];exact⟨S,T⟩
  have tk:=dF hz;have F:yJ c (a,b)=false->N [some (aM c.A),some (aM c.B),some (.ref n2),some (.ref n3),some (nD a),some (nD b)] M:=λh=>nx _ _ ⟨⟨_,_,rfl⟩,fe,f,by rw[tk,List.filter_append];simpa[h] using e,.inr trivial⟩;have m:yJ c (a,b)=((a !=b) && (aC c).contains a && (aC c).contains b):=rfl;simp[iU];unfold nD;rw[FK];simp only[c7,aF];by_cases k:a=b
  ·subst k;rw[if_neg (by simp)];exact F (by rw[m];simp)
  ·rw[if_pos (by simp;lia)];refine BU (w:=a) (l:=aC c) (aU f) ?_;simp only[c7,aF]
   cases c1:(aC c).contains a with
   | false=>exact F (by rw[m,c1];simp)
   | true=>
    rw[if_pos rfl];refine BU (w:=b) (l:=aC c) (aU f) ?_;simp only[c7,aF]
    cases c2:(aC c).contains b with
    | false=>exact F (by rw[m,c2];simp)
    | true=>
     rw[if_pos rfl]
     have G:n3≠n2\/((c.A.zip c.B).take i).filter (yJ c)=[]:=by
      by_cases z:n3=n2
      ·right;subst z;rw[f]at e;have:=aGx (λo:Option MO=>match o with | some (.lst (d::_))=>(match d with | .int _=>true | _=>false) | _=>false) e
       cases hw:aC c with
       | nil=>rw[hw]at c1;cases c1
       | cons w ws=>
        rw[hw]at e
        cases hf:((c.A.zip c.B).take i).filter (yJ c) with
        | nil=>rfl
        | cons p ps=>rw[hf]at e;simp[j1,nD]at e
      ·exact .inl z
     have X:(((c.A.zip c.B).take i).filter (yJ c)).length<=12:=aG2 (aGo ..) (by simp;lia);refine⟨⟨rfl,_,e⟩,by lia,(oI e _).mpr ⟨by simp;lia,?_⟩⟩
     have ne:n3≠n2:=by
      rcases G with h | h
      ·exact h
      ·intro z;subst z;rw[f,h]at e;simp at e;rw[e]at c1;cases c1
     refine nx _ _ ⟨⟨_,_,rfl⟩,fe.set (by lia) _,get_set f ne,?_,.inr trivial⟩;rw[cH _ e,tk,List.filter_append,List.filter_cons,if_pos (by rw[m,c1,c2];simp[k])];simp[j1,nD]
 ·rintro v M ⟨⟨C,E,rfl⟩,fe,f,e,_⟩;simp[jO];refine aY (q _ _ fe ?_);rw[e,dQ,List.take_of_length_le (by simp)];rfl
def PF:OA:=λds mh Q=>∃c,ds=[aM c.A,aM c.B]/\Wc c/\∀M,FE qX mh M->Q (.bl !(vS c 8).isEmpty) M
theorem JI(l:List Nat)(w:Nat):((pN c).any λp=>p.2==w && l.contains p.1)=CV c l w:=by
 unfold CV;rw[Bool.eq_iff_iff,List.any_eq_true,List.any_eq_true];constructor
 ·rintro⟨p,a,h⟩;simp at h;refine⟨p.1,sR.mpr ?_,by simpa using h.2⟩;rw[<-h.1];exact a
 ·rintro⟨u,b,h⟩;exact⟨(u,w),sR.mp b,by simpa using h⟩
theorem aBv(ds:List D)(mh:MH)(R:DK)(ok:oV mh)(u:PF ds mh R):gS vN C8 (En mh R) (aQ ["_law_above","_law_below","_law_left","_law_pairs","_law_turn"] ds) mh:=by
 obtain⟨c,rfl,v,q⟩:=u;have sz:=aGb;have K:=cE c;simp[gS,aQ];refine⟨c,by simp,v,λg n1 n x=>?_⟩;dsimp only;rw[aU x];simp only[aF];refine nK vL (·.w) nD (spans c) (aU x) (λs u N hN=>?_) ?_
 ·simp[dD,vL];exact hN
 show hJ vN C8 _ [some (aM c.A),some (aM c.B),some (.ref g.length),none,none] (g++[MO.lst ((aC c).map nD)]);have o:=bF g (MO.lst ((aC c).map nD));have y:=n.push (MO.lst ((aC c).map nD));generalize g++[MO.lst ((aC c).map nD)]=M2 at o y⊢;generalize g.length=n2 at o⊢;simp[hJ];refine⟨c,by simp,v,λL n3 j C=>?_⟩;simp[lZ];refine⟨by lia,?_⟩;refine bM (λi t M=>∃r b,t=[some (aM c.A),some (aM c.B),some (.ref r),some (.ref n3),b]/\FE qX mh M/\M[n3]? =some (.lst ((pN c).map j1))/\M[r]? =some (.lst ((vS c i).map nD))) _ (λ_ _ _ _=>trivial) ?_ ?_ ⟨_,_,rfl,y.trans j,C,j.lst o⟩
 ·rintro i d t M N hi ⟨r,b,rfl,fe,m,e⟩ nx;obtain⟨hi,rfl⟩:=nC hi;simp[k9];rw[aU e];simp only[aF];refine jH nD (CV c (vS c i)) id nD (λk =>FE qX M k) (vS c i) FE.refl (λk a=>aU (a.lst e)) ?_ ?_
  ·intro w O E b P Q F G;simp[dD];rw[aU (b.lst m)];simp only[aF];refine jH j1 (λ_=>true) (λp=>p.2==w && (vS c i).contains p.1) D.bl (λk =>FE qX M k) (pN c) b (λk a=>aU (a.lst m)) ?_ ?_
   ·intro p H I f S T z U;simp[j1];unfold nD;rw[T2];simp only[c7,aF];by_cases h:p.2=w
    ·rw[if_pos (by simp;lia)];refine BU (w:=p.1) (l:=vS c i) (aU (f.lst e)) ?_;have:=z _ f rfl;simpa[h] using this
    ·rw[if_neg (by simp;lia)];have:=z _ f rfl;have J:(p.2==w)=false:=by simpa using h
     rw[J]at this;exact this
   ·intro I f;rw[List.filter_eq_self.mpr (λ_ _=>rfl)];rw[C6 (bs:=(pN c).map λp=>p.2==w && (vS c i).contains p.1) (bF _ _)];rw[show ((pN c).map λp=>p.2==w && (vS c i).contains p.1).any id=CV c (vS c i) w by rw[List.any_map,<-JI];rfl];simp only[jA,aF]
    cases hb:CV c (vS c i) w with
    | true=>exact F _ (f.push _) hb
    | false=>exact G _ (f.push _) hb
  ·intro E b;rw[List.map_id];exact nx _ _ ⟨_,_,rfl,(fe.trans b).push _,aL (b.lst m),bF _ _⟩
 ·rintro t M ⟨r,b,rfl,fe,m,e⟩;have e:M[r]? =some (.lst ((vS c 8).map nD)):=e;simp[lY];rw[mK e];simp only[T1,List.length_map];have:decide ((0:Int)<((vS c 8).length:Nat))= !(vS c 8).isEmpty:=by cases vS c 8 <;> simp <;> lia
  rw[this];exact aY (q _ fe)
def G3:OA:=λds mh Q=>∃i,ds=[.int i]/\Q (.bl true) mh
theorem aBz(ds:List D)(mh:MH)(R:DK)(ok:oV mh)(a:G3 ds mh R):dZ (En mh R) (aQ ["_law_thing"] ds) mh:=by
 obtain⟨i,rfl,q⟩:=a;simp[dZ,aQ,OU,tK,bO];exact aY q
theorem uQ{n:Nat}:∀{ds:List D},(∀d∈ds,deep d<=n)->fW ds<=n
 | [],_=>by simp[fW]
 | d::ds,h=>by
  have a:=h d aFr;have b:=uQ (n:=n) λe he=>h e (aFt _ he);simp only[fW];lia
theorem qO:∀{ds:List D},(∀d∈ds,good d=true)->lI ds=true
 | [],_=>by simp[lI]
 | d::ds,h=>by simp[lI,h d List.mem_cons_self,qO λe he=>h e (List.mem_cons_of_mem _ he)]
theorem qV:∀{ds:List D},(∀d∈ds,bare d=true)->eB ds=true
 | [],_=>rfl
 | d::ds,h=>by simp[eB,h d List.mem_cons_self,qV λe he=>h e (List.mem_cons_of_mem _ he)]
theorem qP(l:List Nat):lI (l.map nD)=true:=qO λd hd=>by obtain⟨k,_,rfl⟩:=aFv.mp hd;rfl
theorem SJ(l:List Nat):gX (l.map nD) (l.map nD)=true:=(uH _ _ (qP l) (qP l)).mpr rfl
theorem xW(l:List Nat):eB (l.map nD)=true:=qV λd hd=>by obtain⟨k,_,rfl⟩:=aFv.mp hd;rfl
theorem xK(l:List Nat):fW (l.map nD)<=0:=uQ λd hd=>by obtain⟨k,_,rfl⟩:=aFv.mp hd;exact aFq _
theorem JX{m:Nat}{ks:List Key}(c:∀k,k∈ks↔∃i,i<m/\k=Sum.inl ((i:Nat):Int))(nd:ks.Nodup)(s:(ks.map aS).Pairwise λd e=>lx (enc e) (enc d)=false):ks.map aS=(List.range m).map nD:=by
 have a:((List.range m).map λk=>(Sum.inl ((k:Nat):Int):Key)).Nodup:=aIt.mpr (List.nodup_range.imp λh z=>h (by have:=Sum.inl.inj z;lia))
 have p:ks.Perm ((List.range m).map λk=>(Sum.inl ((k:Nat):Int):Key)):=(List.perm_ext_iff_of_nodup nd a).mpr λk=>by
  rw[c,List.mem_map];constructor
  ·rintro⟨i,h,rfl⟩;exact⟨i,by simpa using h,rfl⟩
  ·rintro⟨i,h,rfl⟩;exact⟨i,by simpa using h,rfl⟩
 have b:=p.map aS;rw[<-d9]at b;refine nB (mI (List.range m)) (λd hd=>b.mem_iff.mp hd) b s ?_;rw[List.pairwise_map];exact aHt.imp λh=>FX (aGs h)
def MB(l:List (Nat×Nat)):List (D×D):=l.map λp=>(nD p.1,nD p.2)
theorem F1{g:Nat->Nat}:∀{l:List Nat} {w:Nat},w∈l->aT (MB (l.map λw=>(w,g w))) (nD w)=some (nD (g w))
 | [],_,h=>by cases h
 | a::l,w,h=>by
  simp only[MB,List.map_cons,aT];by_cases e:a=w
  ·subst e;rw[if_pos rfl]
  ·rw[if_neg λz=>e (dO z)];rcases aFy.mp h with z | h
   ·exact absurd z.symm e
   ·exact F1 h
theorem QQ{u w:Nat}(h:gL c u w=false):¬((FH c u).a<=(FH c w).b/\(FH c w).a<=(FH c u).b):=by
 unfold gL meets at h;intro z;simp[z.1,z.2]at h
def PN:OA:=λds mh Q=>∃c,ds=[aM c.A,aM c.B,nD (rowsOf c).length,.tup ((dR c).map j1)]/\Wc c/\iI c/\∀M,Q (.bl true) M
theorem aC6(ds:List D)(mh:MH)(R:DK)(ok:oV mh)(I:PN ds mh R):c8 vN G3 C8 (En mh R) (aQ ["_law_above","_law_below","_law_many","_law_thing","_law_spanned_here","_law_track","_law_one","_law_due","_law_used","_law_k","_law_other"] ds) mh:=by
 obtain⟨c,rfl,wc,nr,q⟩:=I;have sz:=aGb;have wl:=cE c;have E:=FN nr;have r8:=E.U8.2;have r8:(rowsOf c).length<=8:=r8;have sl:(spans c).length=(aC c).length:=by simp[aC]
 have tl:(dR c).length=(aC c).length:=by simp[dR]
 generalize hg:CP (rowsOf c)=g at*;have tg:dR c=(aC c).map λw=>(w,g w):=by unfold dR;rw[hg]
 have gat:∀w∈aC c,g w<(rowsOf c).length:=λw f=>by rw[<-hg];exact UU E f
 simp[c8,aQ];refine⟨c,by simp,wc,λM1 n1 fe1 h1=>?_⟩;simp[gK,OU,tK,bO,jA];rw[mK h1];simp[sl,tl];simp[gJ,vI];have W:=aL (x:=MO.bI false []) h1;have r:=bF M1 (MO.bI false []);generalize M1++[MO.bI false []]=M2 at W r⊢;generalize M1.length=n2 at r⊢;have n12:n2≠n1:=λz=>by rw[z,W]at r;cases r
 have hh:n1<M2.length:=iD W;simp[gI];rw[aU W];simp only[aF];show got (some ((dR c).map j1)) _;simp only[aF];refine⟨by simp;lia,?_⟩;refine bM (λi n M=>(∃J T,n=[some (aM c.A),some (aM c.B),some (nD (rowsOf c).length),some (D.tup (List.map j1 (dR c))),some (.ref n1),some (.ref n2),J,T,none,none,none])/\M[n1]? =some (.lst ((spans c).map vL))/\M[n2]? =some (.bI false (MB ((dR c).take i)))) _ (λ_ _ _ h=>⟨rfl,aU h.2.1⟩) ?_ ?_ ⟨⟨_,_,rfl⟩,W,r⟩
 ·rintro i d n M N hi ⟨⟨J,T,rfl⟩,K,hk⟩ nx;obtain⟨x,y,hx,hy,rfl⟩:=g5 hi;rw[List.getElem?_map]at hx hy;obtain⟨p,U,rfl⟩:=aFw.mp hx;obtain⟨s,I,rfl⟩:=aFw.mp hy;have X:=(aFp.mp U).1;have tk:=dF U;have f:(aC c)[i]? =some s.w:=by unfold aC;rw[List.getElem?_map,I];rfl
  have pe:p=(s.w,g s.w):=by
   rw[tg,List.getElem?_map,f]at U;cases U;rfl
  subst pe;simp[fN,j1,vL,OU,tK,bO,jA,aX,nD];refine comp_map (λ_=>.bl true) _ [] trivial (λd hd N hN=>?_) ?_
  ·simp[dD];simp at hd;rcases hd with rfl | rfl
   ·exact⟨_,rfl,hN⟩
   ·exact⟨_,rfl,hN⟩
  simp only[List.nil_append,List.map_cons,List.map_nil];have ha:(M++[MO.lst [D.bl true,D.bl true]])[M.length]? =some (.lst (([true,true]:List Bool).map .bl)):=bF _ _;rw[C7 ha];simp[jA,eL,CI,E5];have Y:=aL (x:=MO.lst [D.bl true,D.bl true]) hk;have hn2:=aL (x:=MO.lst [D.bl true,D.bl true]) K;refine⟨_,_,.inl (s.w:Nat),rfl,Y,rfl,by simp[MB];lia,nx _ _ ⟨⟨_,_,rfl⟩,get_set hn2 n12,?_⟩⟩;rw[cH _ Y,tk]
  have nk:nD s.w∉(MB ((dR c).take i)).map (·.1):=λh=>by
   simp only[MB,List.map_map,List.mem_map]at h;obtain⟨p,hp',e⟩:=h;obtain⟨j,V⟩:=aGw.mp hp';have L:j<i:=by have:=(aFp.mp V).1;simp at this;lia
   rw[List.getElem?_take_of_lt L,tg,List.getElem?_map]at V;obtain⟨v,hv,rfl⟩:=aFw.mp V;have r:v=s.w:=dO e;subst r;have:=w4 (cM c) hv f
   lia
  have:=putL (v:=nD (g s.w)) nk;simp only[nD]at this⊢;rw[this];simp[MB,nD]
 ·rintro n M ⟨⟨J,T,rfl⟩,K,hk⟩;have e:(lN ((dR c).map j1) ((spans c).map vL)).length=(dR c).length:=by rw[dQ];simp;lia
  rw[e,List.take_length,tg]at hk;have vk:∀w∈aC c,aT (MB ((aC c).map λw=>(w,g w))) (nD w)=some (nD (g w)):=λw f=>F1 f;have kk:(MB ((aC c).map λw=>(w,g w))).map (·.1)=(aC c).map nD:=by simp[MB]
  generalize MB ((aC c).map λw=>(w,g w))=kv at hk vk kk;simp[gH];refine kU (S:=(· =n2)) rfl (.inl hk) rfl λob M4 fe4 C=>?_;rw[kk];have hn4:=fe4.lst K;refine nK nD g nD (aC c) C (λw f N hN=>?_) ?_
  ·simp[dD];exact mS (.inr ⟨ob,C⟩) (vk w f) hN
  refine⟨((aC c).map g).map λk=>(Sum.inl ((k:Nat):Int):Key),by rw[DL (bF _ _),d9],by simp;lia,by rw[<-d9];exact mI _,λks hm nd _ srt=>?_⟩
  have er:=JX (m:=(rowsOf c).length) (λk=>by
   rw[hm,List.mem_map];constructor
   ·rintro⟨x,hx,rfl⟩;obtain⟨w,f,rfl⟩:=aFv.mp hx;exact⟨g w,gat w f,rfl⟩
   ·rintro⟨i,hi,rfl⟩;obtain⟨w,f,e⟩:=OX E hi;rw[hg]at e
    exact⟨i,aFv.mpr ⟨w,f,e⟩,rfl⟩) nd srt
  rw[er];have Z:=aL (x:=MO.lst ((List.range (rowsOf c).length).map nD)) (aL (x:=MO.lst (((aC c).map g).map nD)) hn4);have hf5:=aL (x:=MO.lst ((List.range (rowsOf c).length).map nD)) (aL (x:=MO.lst (((aC c).map g).map nD)) C);have o:=bF (M4++[MO.lst (((aC c).map g).map nD)]) (MO.lst ((List.range (rowsOf c).length).map nD));generalize M4++[MO.lst (((aC c).map g).map nD)]++[MO.lst ((List.range (rowsOf c).length).map nD)]=M5 at Z hf5 o⊢;generalize (M4++[MO.lst (((aC c).map g).map nD)]).length=r5 at o⊢;simp[gG];rw[mK o];simp[nD];rw[mK o];simp;refine⟨by lia,?_⟩;rw[KC];have F:=aL (x:=MO.lst ((List.range (rowsOf c).length).map nD)) o;have G:=bF M5 (MO.lst ((List.range (rowsOf c).length).map nD));have O:=aL (x:=MO.lst ((List.range (rowsOf c).length).map nD)) Z;have hf6:=aL (x:=MO.lst ((List.range (rowsOf c).length).map nD)) hf5;generalize M5++[MO.lst ((List.range (rowsOf c).length).map nD)]=M6 at F G O hf6⊢;generalize M5.length=r6 at G⊢;have bn:=xW (List.range (rowsOf c).length);have dn:=xK (List.range (rowsOf c).length);refine⟨by simp only[cI,F,bare,bn],by simp only[cI,G,bare,bn],by simp only[cI,F,deep];lia,?_⟩;simp only[cI,F,G,iZ,SJ,c7,aF];rw[if_neg (by decide)];have val:∀(M:MH) (w:Nat) (Q:DK),M[n2]? =some (.eY false kv ob)->w∈aC c->Q (nD (g w)) M->oK (.ref n2) (nD w) M Q:=λM w Q C f hq=>mS (.inr ⟨ob,C⟩) (vk w f) hq;simp[gF];rw[aU O];simp only[aF];refine⟨by simp;lia,?_⟩
  have cut:∀i,i<(spans c).length->cutD ((spans c).map vL) none (some (i:Nat))=((spans c).take i).map vL:=λi hi=>by
   rw[YH (by lia) (by simp;lia)];simp[List.map_take]
  refine bM (λi n M=>(∃J a9 l,n=[some (aM c.A),some (aM c.B),some (nD (rowsOf c).length),some (D.tup (List.map j1 (dR c))),some (.ref n1),some (.ref n2),J,T,some (.ref r5),a9,l])/\M[n1]? =some (.lst ((spans c).map vL))/\M[n2]? =some (.eY false kv ob)) _ (λ_ _ _ h=>aU h.2.1) ?_ ?_ ⟨⟨_,_,_,rfl⟩,O,hf6⟩
  ·rintro i d n M N hi ⟨⟨J,a9,l,rfl⟩,K,C⟩ nx;obtain⟨d,hd,rfl⟩:=j3 hi;rw[List.getElem?_map]at hd;obtain⟨s,I,rfl⟩:=aFw.mp hd;have X:=(aFp.mp I).1;have sm:=aFx I;have f:s.w∈aC c:=aFv.mpr ⟨s,sm,rfl⟩;simp[fM];rw[TX K,cut i X];rw[aU (bF _ _)];simp only[aF];have hn7:=aL (x:=MO.lst (((spans c).take i).map vL)) K;have H:=aL (x:=MO.lst (((spans c).take i).map vL)) C;have P:=bF M (MO.lst (((spans c).take i).map vL));generalize M++[MO.lst (((spans c).take i).map vL)]=M7 at hn7 H P⊢;generalize M.length=r7 at P⊢;refine bM (λj n M=>M=M7/\∃l,n=[some (aM c.A),some (aM c.B),some (nD (rowsOf c).length),some (D.tup (List.map j1 (dR c))),some (.ref n1),some (.ref n2),some (vL s),T,some (.ref r5),some (.int (i:Nat)),l]) _ (λ_ _ _ h=>by rw[h.1];exact aU P) ?_ ?_ ⟨rfl,_,rfl⟩
   ·rintro j d n M8 N2 V ⟨rfl,l,rfl⟩ nx2;rw[List.getElem?_map]at V;obtain⟨t,ht,rfl⟩:=aFw.mp V;have L:j<i:=by have:=(aFp.mp ht).1;simp at this;lia
    rw[List.getElem?_take_of_lt L]at ht;have tm:=aFx ht;have hwt:t.w∈aC c:=aFv.mpr ⟨t,tm,rfl⟩
    have nwt:s.w≠t.w:=λz=>by
     have e1:(aC c)[i]? =some s.w:=by unfold aC;rw[List.getElem?_map,I];rfl
     have r:(aC c)[j]? =some t.w:=by unfold aC;rw[List.getElem?_map,ht];rfl
     rw[z]at e1;have:=w4 (cM c) e1 r;lia
    have go:=nx2 [some (aM c.A),some (aM c.B),some (nD (rowsOf c).length),some (D.tup (List.map j1 (dR c))),some (.ref n1),some (.ref n2),some (vL s),T,some (.ref r5),some (.int (i:Nat)),some (vL t)] M8 ⟨rfl,_,rfl⟩;simp[fL,vL];refine val _ _ _ H f (val _ _ _ H hwt ?_);unfold nD;rw[T2];simp only[c7,aF];by_cases eg:g s.w=g t.w
    ·rw[if_pos (by simp[eg])];rw[CI,show oS [D.int (t.w:Nat),.int (t.a:Nat),.int (t.b:Nat)] 2=some (.int (t.b:Nat)) from rfl];simp only[aF];rw[TZ];simp only[c7,aF];have nm:=GZ E f hwt nwt (by rw[hg];exact eg);have nm:=QQ nm;rw[sM sm,sM tm]at nm;by_cases c1:s.a<=t.b
     ·rw[if_pos (by simp;lia)];rw[CI,show oS [D.int (s.w:Nat),.int (s.a:Nat),.int (s.b:Nat)] 2=some (.int (s.b:Nat)) from rfl];simp only[aF];rw[TZ];simp only[c7,aF];rw[if_neg (by simp;lia)];exact go
     ·rw[if_neg (by simp;lia)];exact go
    ·rw[if_neg (by simp;lia)];exact go
   ·rintro n M8 ⟨rfl,l,rfl⟩;exact nx _ _ ⟨⟨_,_,_,rfl⟩,hn7,H⟩
  ·rintro n M ⟨⟨J,a9,l,rfl⟩,K,C⟩;simp[gE];refine⟨c,by simp,wc,λM9 n9 fe9 h9=>?_⟩;dsimp only;rw[aU h9];simp only[aF];have hf9:=fe9.eY C;refine nK j1 (λ_=>true) D.bl (pN c) (aU h9) (λp U N hN=>?_) ?_
   ·obtain⟨u,w⟩:=p;have hu:=sR.mpr U;have lt:=UT E hu;rw[hg]at lt;simp[dD,j1];refine val _ _ _ hf9 (AU hu).1 (val _ _ _ hf9 (AU hu).2.1 ?_);unfold nD;rw[TY];have:decide (((g u:Nat):Int)<((g w:Nat):Int))=true:=by simp;lia
    rw[this];exact hN
   ·rw[C7 (bs:=(pN c).map λ_=>true) (bF _ _)];have:((pN c).map λ_=>true).all id=true:=by simp
    rw[this];exact aY (q _)
theorem VA(c:aO)(m k:Nat):good (gU c m k)=true/\bare (gU c m k)=true/\deep (gU c m k)<=3:=by
 unfold gU;split
 ·exact⟨rfl,rfl,by simp[deep,fW,nD]⟩
 ·split
  ·rename_i l _;have:=xK l;refine⟨?_,?_,?_⟩
   ·simp[good,lI,aM,qP]
   ·simp[bare,eB,aM,xW]
   ·simp only[deep,fW,aM];lia
  ·exact⟨rfl,rfl,by simp[deep,fW]⟩
theorem UK(c:aO):good (eD c)=true/\bare (eD c)=true/\deep (eD c)<=4:=by
 have r:=VA c (rowsOf c).length c.A.length;have a:lI ((dR c).map j1)=true:=qO λd hd=>by obtain⟨k,_,rfl⟩:=aFv.mp hd;rfl
 have b:eB ((dR c).map j1)=true:=qV λd hd=>by obtain⟨k,_,rfl⟩:=aFv.mp hd;rfl
 have e:fW ((dR c).map j1)<=1:=uQ λd hd=>by obtain⟨k,_,rfl⟩:=aFv.mp hd;simp[j1,deep,fW,nD]
 unfold eD;refine⟨?_,?_,?_⟩
 ·simp only[good,lI,a,r.1,nD,Bool.and_true]
 ·simp only[bare,eB,b,r.2.1,nD,Bool.and_true]
 ·have:=r.2.2;simp only[deep,fW,nD];lia
theorem aB3(h:(vS c 8).isEmpty=true):iI c:=by
 unfold iI
 cases e:vS c 8 with
 | nil=>rfl
 | cons a l=>rw[e]at h;cases h
theorem aC0(ds:List D)(mh:MH)(R:DK)(ok:oV mh)(o:vO ds mh R):EX PM PL PF O9 G3 PN (En mh R) (aQ ["_law_script","_law_k","_law_bag_here","_law_above","_law_below","_law_found"] ds) mh:=by
 obtain⟨ns,rfl,p,q⟩:=o;have sz:=aGb;simp[EX,aQ];refine⟨by split <;> lia,by split <;> lia,?_⟩;refine bM (λi l _=>∃a b c d e,l=[some (.fl (ns.map .int)),a,b,c,d,e]) _ (λ_ _ _ _=>trivial) ?_ ?_ ⟨_,_,_,_,_,rfl⟩
 ·rintro i d l f N hi ⟨a,b,c,r,e,rfl⟩ nx;obtain⟨hi,rfl⟩:=nC hi
  have s:i<9:=by
   revert hi;split <;> intro hi <;> lia
  simp[AN];refine⟨ns,_,rfl,p,by lia,by lia,λt _ u=>?_⟩;simp[tB];refine⟨f.length,rfl,u,λc M g z=>?_⟩;simp[sZ];refine⟨c,by simp,g,λM2 v=>?_⟩;simp only[jA,aF,Bool.not_not]
  cases hr:(vS c 8).isEmpty with
  | false=>exact nx _ _ ⟨_,_,_,_,_,rfl⟩
  | true=>
   have m:=aB3 hr;rw[if_neg (by decide)];refine⟨c,by simp,g,m,λw=>?_⟩;have j:=UK c;have n:∀{M:MH} {Q:DK},Q (nD (rowsOf c).length) M->iL (eD c) (.int 0) M Q:=λh=>by unfold eD;rw[FL];exact h
   have i1:∀{M:MH} {Q:DK},Q (.tup ((dR c).map j1)) M->iL (eD c) (.int 1) M Q:=λh=>by unfold eD;rw[FL,CI];exact h
   have ty:OU w (eD c)=some "tuple":=rfl;have x:∀{M:MH} {Q:DK},Q (.int 3) M->fG [eD c] M Q:=λh=>by unfold eD;rw[J7];exact h
   dsimp only;rw[ty];simp only[aF];refine⟨by decide,?_⟩;rw[if_pos (by decide)];refine x ?_;rw[FK];simp only[c7,aF];rw[if_neg (by decide)];refine n ⟨_,rfl,?_⟩;simp only[aF];rw[if_pos trivial];refine n (i1 ⟨c,rfl,g,m,λA=>?_⟩);simp only[aF];rw[if_pos trivial];refine⟨c,by simp,g,m,λy=>?_⟩;have k:cI y (eD c)=eD c:=rfl;refine⟨by rw[k];exact j.2.1,by rw[k];exact j.2.1,by rw[k];lia,?_⟩;rw[k,(GB _ _ j.1 j.1).mpr rfl];exact nx _ _ ⟨_,_,_,_,_,rfl⟩
 ·rintro l f ⟨a,b,c,r,e,rfl⟩;simp[EW];exact aY (q _)
variable{P:List Value->Prop}
theorem aF1(us:List Value)(b:us.length=0)(h:P []):P us:=by
 cases us with
 | nil=>exact h
 | cons a us=>cases b
theorem aBa(us:List Value)(b:us.length=1)(h:∀c,P [c]):P us:=by
 cases us with
 | nil=>cases b
 | cons a us=>exact aF1 (P:=λus=>P (a::us)) us (aJm b) (h a)
theorem aB9(us:List Value)(b:us.length=2)(h:∀c d,P [c,d]):P us:=by
 cases us with
 | nil=>cases b
 | cons a us=>exact aBa (P:=λus=>P (a::us)) us (aJm b) (h a)
theorem aB8(us:List Value)(b:us.length=3)(h:∀c d e,P [c,d,e]):P us:=by
 cases us with
 | nil=>cases b
 | cons a us=>exact aB9 (P:=λus=>P (a::us)) us (aJm b) (h a)
theorem aF0(us:List Value)(b:us.length=4)(h:∀c d e f,P [c,d,e,f]):P us:=by
 cases us with
 | nil=>cases b
 | cons a us=>exact aB8 (P:=λus=>P (a::us)) us (aJm b) (h a)
variable{x:Str}{st:Stmt}{ps:List Str}
theorem S2(h:∀kV doc pm an cdv ct g,bindArgs (PySem.W.fnOf x x (d6 st) (cJ st) (aE st) .none kV doc pm an cdv ct) ⟨[g],[]⟩=pure (ps.zip [g]))(i:ps.length=1:=by rfl):cD x st ps:=λa b c d e f us j=>aBa (P:=λus=>bindArgs _ ⟨us,[]⟩=pure (List.zip _ us)) us (j.trans i) (h a b c d e f)
theorem u7(h:∀kV doc pm an cdv ct g i,bindArgs (PySem.W.fnOf x x (d6 st) (cJ st) (aE st) .none kV doc pm an cdv ct) ⟨[g,i],[]⟩=pure (ps.zip [g,i]))(j:ps.length=2:=by rfl):cD x st ps:=λa b c d e f us k=>aB9 (P:=λus=>bindArgs _ ⟨us,[]⟩=pure (List.zip _ us)) us (k.trans j) (h a b c d e f)
theorem Y1(h:∀kV doc pm an cdv ct g i j,bindArgs (PySem.W.fnOf x x (d6 st) (cJ st) (aE st) .none kV doc pm an cdv ct) ⟨[g,i,j],[]⟩=pure (ps.zip [g,i,j]))(k:ps.length=3:=by rfl):cD x st ps:=λa b c d e f us l=>aB8 (P:=λus=>bindArgs _ ⟨us,[]⟩=pure (List.zip _ us)) us (l.trans k) (h a b c d e f)
theorem aCf(h:∀kV doc pm an cdv ct g i j k,bindArgs (PySem.W.fnOf x x (d6 st) (cJ st) (aE st) .none kV doc pm an cdv ct) ⟨[g,i,j,k],[]⟩=pure (ps.zip [g,i,j,k]))(l:ps.length=4:=by rfl):cD x st ps:=λa b c d e f us m=>aF0 (P:=λus=>bindArgs _ ⟨us,[]⟩=pure (List.zip _ us)) us (m.trans l) (h a b c d e f)
theorem CC:cD "spans_of" fO ["above","below"]:=u7 λ_ _ _ _ _ _ _ _=>rfl
theorem zW:cD "orders_of" eM ["above","below","spans"]:=Y1 λ_ _ _ _ _ _ _ _ _=>rfl
theorem EF:cD "ring_in" hV ["uppers"]:=S2 λ_ _ _ _ _ _ _=>rfl
theorem S3:cD "meet" pG ["one","other"]:=u7 λ_ _ _ _ _ _ _ _=>rfl
theorem CD:cD "fillings" fP ["spans","wires"]:=u7 λ_ _ _ _ _ _ _ _=>rfl
theorem v7:cD "free_wires" dU ["uppers","laid"]:=u7 λ_ _ _ _ _ _ _ _=>rfl
theorem qS:cD "fewest_tracks" cO ["spans","uppers"]:=u7 λ_ _ _ _ _ _ _ _=>rfl
theorem sA:cD "thick_column" cV ["spans","many","wide"]:=Y1 λ_ _ _ _ _ _ _ _ _=>rfl
theorem rP:cD "chain_to" fQ ["uppers","wire","many"]:=Y1 λ_ _ _ _ _ _ _ _ _=>rfl
theorem v5:cD "reason_for" dS ["spans","uppers","many","wide"]:=aCf λ_ _ _ _ _ _ _ _ _ _=>rfl
theorem NW:cD "wired" mJ ["above","below"]:=u7 λ_ _ _ _ _ _ _ _=>rfl
theorem CF:cD "_law_bag" fR ["_law_script","_law_at"]:=u7 λ_ _ _ _ _ _ _ _=>rfl
theorem zX:cD "_law_take" eN ["_law_bag_here","_law_many"]:=u7 λ_ _ _ _ _ _ _ _=>rfl
theorem qT:cD "_law_is_whole" cP ["_law_thing"]:=S2 λ_ _ _ _ _ _ _=>rfl
theorem sE:cD "_law_columns" cY ["_law_bag_here"]:=S2 λ_ _ _ _ _ _ _=>rfl
theorem sC:cD "_law_spanned" cW ["_law_above","_law_below"]:=u7 λ_ _ _ _ _ _ _ _=>rfl
theorem sD:cD "_law_ordered" cX ["_law_above","_law_below"]:=u7 λ_ _ _ _ _ _ _ _=>rfl
theorem v9:cD "_law_rings" dW ["_law_above","_law_below"]:=u7 λ_ _ _ _ _ _ _ _=>rfl
theorem oR:cD "_law_are_tracks" b6 ["_law_above","_law_below","_law_many","_law_thing"]:=aCf λ_ _ _ _ _ _ _ _ _ _=>rfl
theorem Y2:cD "law" tN ["_law_script"]:=S2 λ_ _ _ _ _ _ _=>rfl
structure Al(w:World)(K:aJn)(mg:aJq):Prop where
 D6:fH K "spans_of" fO
 B6:fH K "orders_of" eM
 IK:fH K "ring_in" hV
 YG:fH K "meet" pG
 D7:fH K "fillings" fP
 zL:fH K "free_wires" dU
 rZ:fH K "fewest_tracks" cO
 uR:fH K "thick_column" cV
 uS:fH K "chain_to" fQ
 zK:fH K "reason_for" dS
 SO:fH K "wired" mJ
 D8:fH K "_law_bag" fR
 B7:fH K "_law_take" eN
 r9:fH K "_law_is_whole" cP
 uV:fH K "_law_columns" cY
 uT:fH K "_law_spanned" cW
 uU:fH K "_law_ordered" cX
 zM:fH K "_law_rings" dW
 p5:fH K "_law_are_tracks" b6
 aCc:fH K "law" tN
 nu:NoU K
section
variable {P:Program}{w:World}{K:aJn}{mg:aJq}{base h:Heap}(KX:K.In h)(G:h.Ns mainGlobals mg)(B:Bl mg)(A:Al w K mg)
include KX G B A
theorem uM :Fn P w K mg base 1 "spans_of" ["above","below"] (PC):=
 eS (wB:=kA) (k:=0) A.D6 KX G CC rC (by with_reducible exact DO B) (λds mh R h=>by obtain⟨_,rfl,_⟩:=h;rfl) aBt
theorem rL :Fn P w K mg base 1 "orders_of" ["above","below","spans"] (PJ):=
 eS (wB:=iQ) (k:=0) A.B6 KX G zW pI (by with_reducible exact BI B) (λds mh R h=>by obtain⟨_,_,rfl,_⟩:=h;rfl) aBy
theorem xH :Fn P w K mg base 1 "ring_in" ["uppers"] (PD):=
 eS (wB:=m8) (k:=0) A.IK KX G EF tR (by with_reducible exact HS B) (λds mh R h=>by obtain⟨_,_,rfl,_⟩:=h;rfl) aBu
theorem zH :Fn P w K mg base 1 "meet" ["one","other"] (wW):=
 eS (wB:=x3) (k:=0) A.YG KX G S3 FI (by with_reducible exact XO B) (λds mh R h=>by obtain⟨_,_,rfl,_⟩:=h;rfl) X6
theorem uN :Fn P w K mg base 2 "fillings" ["spans","wires"] (G5):=
 eS (wB:=kG (wW)) (k:=1) A.D7 KX G CD rD (by with_reducible exact DP B ((zH KX G B A).mono (by lia))) (λds mh R h=>by obtain⟨_,_,_,_,rfl,_⟩:=h;rfl) aC2
theorem pU :Fn P w K mg base 1 "free_wires" ["uppers","laid"] (G4):=
 eS (wB:=gR) (k:=0) A.zL KX G v7 nZ (by with_reducible exact y3 B) (λds mh R h=>by obtain⟨_,_,_,rfl,_⟩:=h;rfl) aC1
theorem lK :Fn P w K mg base 3 "fewest_tracks" ["spans","uppers"] (PK):=
 eS (wB:=dY (G5) (G4)) (k:=2) A.rZ KX G qS jZ (by with_reducible exact rV B ((uN KX G B A).mono (by lia)) ((pU KX G B A).mono (by lia)) A.nu) (λds mh R h=>by obtain⟨_,_,_,rfl,_⟩:=h;rfl) aC3
theorem mW :Fn P w K mg base 2 "thick_column" ["spans","many","wide"] (PB):=
 eS (wB:=eE (wW)) (k:=1) A.uR KX G sA lE (by with_reducible exact uA B ((zH KX G B A).mono (by lia))) (λds mh R h=>by obtain⟨_,_,_,_,rfl,_⟩:=h;rfl) aBr
theorem kT :∀n:Nat,Fn P w K mg base (n+1) "chain_to" ["uppers","wire","many"] (ZE n)
 | 0=>(ND A.uS KX G rP).imp λds mh R h=>by obtain⟨_,_,_,_,rfl,h,_⟩:=h;lia
 | n+1=>YC (wB:=kH (ZE n)) (k:=n+1) (by lia) A.uS KX G rP rE (by with_reducible exact DQ B (kT n)) (λds mh R h=>by obtain⟨_,_,_,_,rfl,_⟩:=h;rfl) (aF8 n)
theorem pT :Fn P w K mg base 10 "reason_for" ["spans","uppers","many","wide"] (PH):=
 eS (wB:=gQ (PB) (ZE 8)) (k:=9) A.zK KX G v5 nY (by with_reducible exact yZ B ((mW KX G B A).mono (by lia)) ((kT KX G B A 8).mono (by lia))) (λds mh R h=>by obtain⟨_,_,_,_,_,rfl,_⟩:=h;rfl) aBw
theorem GG :Fn P w K mg base 11 "wired" ["above","below"] (O9):=
 eS (wB:=sF (PC) (PJ) (PD) (PK) (PH)) (k:=10) A.SO KX G NW A0 (by with_reducible exact RY B ((uM KX G B A).mono (by lia)) ((rL KX G B A).mono (by lia)) ((xH KX G B A).mono (by lia)) ((lK KX G B A).mono (by lia)) ((pT KX G B A).mono (by lia))) (λds mh R h=>by obtain⟨_,rfl,_⟩:=h;rfl) aBq
theorem uO :Fn P w K mg base 1 "_law_bag" ["_law_script","_law_at"] (PM):=
 eS (wB:=kK) (k:=0) A.D8 KX G CF rF (by with_reducible exact DS B) (λds mh R h=>by obtain⟨_,_,rfl,_⟩:=h;rfl) aC5
theorem rM :Fn P w K mg base 1 "_law_take" ["_law_bag_here","_law_many"] (wV):=
 eS (wB:=iS) (k:=0) A.B7 KX G zX pJ (by with_reducible exact BJ B) (λds mh R h=>by obtain⟨_,_,rfl,_⟩:=h;rfl) X5
theorem d5 :Fn P w K mg base 1 "_law_is_whole" ["_law_thing"] (G3):=
 eS (wB:=dZ) (k:=0) A.r9 KX G qT j0 (by with_reducible exact rW B) (λds mh R h=>by obtain⟨_,rfl,_⟩:=h;rfl) aBz
theorem mX :Fn P w K mg base 2 "_law_columns" ["_law_bag_here"] (PL):=
 eS (wB:=eK (wV)) (k:=1) A.uV KX G sE lH (by with_reducible exact uD B ((rM KX G B A).mono (by lia))) (λds mh R h=>by obtain⟨_,rfl,_⟩:=h;rfl) aC4
theorem cT :Fn P w K mg base 1 "_law_spanned" ["_law_above","_law_below"] (vN):=
 eS (wB:=eI) (k:=0) A.uT KX G sC lF (by with_reducible exact uB B) (λds mh R h=>by obtain⟨_,rfl,_⟩:=h;rfl) aBs
theorem eU :Fn P w K mg base 2 "_law_ordered" ["_law_above","_law_below"] (C8):=
 eS (wB:=eJ (vN)) (k:=1) A.uU KX G sD lG (by with_reducible exact uC B ((cT KX G B A).mono (by lia))) (λds mh R h=>by obtain⟨_,rfl,_⟩:=h;rfl) aBx
theorem pV :Fn P w K mg base 3 "_law_rings" ["_law_above","_law_below"] (PF):=
 eS (wB:=gS (vN) (C8)) (k:=2) A.zM KX G v9 n6 (by with_reducible exact y4 B ((cT KX G B A).mono (by lia)) ((eU KX G B A).mono (by lia))) (λds mh R h=>by obtain⟨_,rfl,_⟩:=h;rfl) aBv
theorem iY :Fn P w K mg base 3 "_law_are_tracks" ["_law_above","_law_below","_law_many","_law_thing"] (PN):=
 eS (wB:=c8 (vN) (G3) (C8)) (k:=2) A.p5 KX G oR hX (by with_reducible exact pR B ((cT KX G B A).mono (by lia)) ((d5 KX G B A).mono (by lia)) ((eU KX G B A).mono (by lia))) (λds mh R h=>by obtain⟨_,rfl,_⟩:=h;rfl) aC6
theorem RW{b:Addr}  (a:mg "law"=some (.ref b)):
  ∃fd:FuncData,(∀(s:Shared) (u:Value),BindsTo s fd ⟨[u],[]⟩ [("_law_script",u)])/\∀base:Heap,j8 P w K mg base CM 12 b fd ["_law_script"] (OF K vO):=
 XJ (wB:=EX (PM) (PL) (PF) (O9) (G3) (PN)) (k:=11) KX G a A.aCc J3 Y2 (λbase=>by with_reducible exact aBk B ((uO KX G B A).mono (by lia)) ((mX KX G B A).mono (by lia)) ((pV KX G B A).mono (by lia)) ((GG KX G B A).mono (by lia)) ((d5 KX G B A).mono (by lia)) ((iY KX G B A).mono (by lia))) aC0
theorem aD3{l:PySem.W.OpenLaw}{b:Addr}  (a:mg "law"=some (.ref b)):
  ∃fd:FuncData,(∀(s:Shared) (u:Value),BindsTo s fd ⟨[u],[]⟩ [("_law_script",u)])/\∀base:Heap,K.In base->base.Ns mainGlobals mg->j8 l.prog w K mg base CM 12 b fd ["_law_script"] (OF K vO):=
 let ⟨fd,h1,h2⟩:=RW KX G B A a
 ⟨fd,h1,λbase _ _=>h2 base⟩
end
end K65
open PySem PySem.W PyProof.Rows
set_option maxRecDepth 100000 in
set_option maxHeartbeats 0 in
theorem PySem.Challenge.cw_maskwright_k65_wires_on_tracks_holds : PySem.Challenge.rw_maskwright_k65_wires_on_tracks.Holds := by
  w_on; refine D3.aD4 (q := D3.kQ PySem.Challenge.pw_maskwright_k65_wires_on_tracks [1, 2, 4, 5, 6, 7, 8, 9, 10, 11, 12, 13, 14, 16, 17, 18, 19, 20, 21, 22, 23, 24, 25, 26, 27, 28, 29, 30]) (loose := []) (K := K65.kk) (as := [3, 50, 51, 55, 56, 60, 61, 67, 68, 72, 73, 77, 78, 84, 85, 89, 90, 96, 97, 103, 104, 108, 109, 115, 116, 122, 123, 129, 130, 134, 141, 142, 146, 147, 151, 152, 156, 157, 161, 166, 171, 172, 176, 183, 188, 195, 196]) (by kernel_rfl) (fun _ => rfl) K65.kl (by rfl) (by rfl) (by rfl) (by decide +kernel) ⟨rfl, rfl, rfl, rfl, rfl, by decide +kernel⟩ ?hw ?_; (case hw => w_witness2)
  k_fill
  refine D3.walkD (l := PySem.Challenge.rw_maskwright_k65_wires_on_tracks) (k := 12) (x := "_law_script") rfl rfl ⟨rfl, by decide, by decide⟩ (fun _ _ Y => Y) ?F
  case F =>
    intro w mg fa h KX G hmg
    refine' K65.aD3 KX G (D3.bl_mk KX G ?_ ?_ ?_ ?_ ?_ ?_ ?_ ?_ ?_ ?_ ?_ ?_ ?_ ?_ ?_ ?_ ?_ ?_ ?_) ⟨(D3.aDa ?_ ?_ ?_ ?_), (D3.aDa ?_ ?_ ?_ ?_), (D3.aDa ?_ ?_ ?_ ?_), (D3.aDa ?_ ?_ ?_ ?_), (D3.aDa ?_ ?_ ?_ ?_), (D3.aDa ?_ ?_ ?_ ?_), (D3.aDa ?_ ?_ ?_ ?_), (D3.aDa ?_ ?_ ?_ ?_), (D3.aDa ?_ ?_ ?_ ?_), (D3.aDa ?_ ?_ ?_ ?_), (D3.aDa ?_ ?_ ?_ ?_), (D3.aDa ?_ ?_ ?_ ?_), (D3.aDa ?_ ?_ ?_ ?_), (D3.aDa ?_ ?_ ?_ ?_), (D3.aDa ?_ ?_ ?_ ?_), (D3.aDa ?_ ?_ ?_ ?_), (D3.aDa ?_ ?_ ?_ ?_), (D3.aDa ?_ ?_ ?_ ?_), (D3.aDa ?_ ?_ ?_ ?_), (D3.aDa ?_ ?_ ?_ ?_), (D3.WK ?nu)⟩ hmg
    (case nu => rfl)
    all_goals try k_is
