import PyProof.Rows.All
import Wide.All
import OpenK.AllK
import Wide.FinOn
import Lean
import PyProof.EqAt
import PyProof.EqKinds
import PyProof.TupleCall
import PyProof.NeKinds
import PySem.Challenge.RW_maskwright_k10_regions_turned
set_option Elab.async false
set_option linter.all false
set_option maxRecDepth 100000
set_option maxHeartbeats 4000000
abbrev aKd:=PySem.W.Frag
set_option compiler.extract_closed false
abbrev aGb:= @PySem.wpAny_bind
abbrev aGc:= @List.getElem?_eq_some_iff
abbrev aGd:= @PySem.wpAny_pure
abbrev aGe:= @PySem.Heap.get?_push_of_some
abbrev aGf:= @List.mem_cons_self
abbrev aGg:= @List.mem_cons_of_mem
abbrev aGh:= @List.mem_append
abbrev aGi:= @Nat.le_refl
abbrev aGj:= @PySem.Heap.get?_push_size
abbrev aGk:= @List.mem_cons
abbrev aGl:= @PySem.Heap.lt_size
abbrev aGm:= @List.mem_map
abbrev aGn:= @PyProof.Rows.wpS_bind
abbrev aGo:= @List.mem_of_getElem?
abbrev aGp:= @List.getElem?_eq_getElem
abbrev aGq:= @PyProof.Rows.wpS_pure
abbrev aGr:= @List.pairwise_append
abbrev aGs:= @List.mem_append_right
abbrev aGt:= @List.mem_iff_getElem?
abbrev aGu:= @Nat.ne_of_lt
abbrev aGv:= @Option.some.inj
abbrev aGw:= @PySem.wpAny_call_entry
abbrev aGx:= @List.pairwise_cons
abbrev aGy:= @List.mem_map_of_mem
abbrev aGz:= @Nat.lt_of_lt_of_le
abbrev aH0:= @PySem.W.mg_none_of
abbrev aH1:= @PySem.sizeLine_eq
abbrev aH2:= @PySem.wpAny_callSpecial?_slot
abbrev aH3:= @PySem.wpAny_newObj_type
abbrev aH4:= @List.eq_nil_or_concat
abbrev aH5:= @Nat.le_trans
abbrev aH6:= @PySem.wpAny_mono
abbrev aH7:= @PySem.wpAny_holding
abbrev aH8:= @PySem.wpAny_setField_rec
abbrev aH9:= @PySem.Heap.get?_update_other
abbrev aHa:= @List.pairwise_iff_getElem
abbrev aHb:= @Option.map_eq_some_iff
abbrev aHc:= @PySem.wpAny_seqItems
abbrev aHd:= @PyProof.Rows.slot_tuple_getitem
abbrev aHe:= @PySem.wpAny_field
abbrev aHf:= @PySem.Heap.get?_update_self
abbrev aHg:= @PySem.wpAny_rule
abbrev aHh:= @Ne.symm
abbrev aHi:= @Nat.lt_succ_of_lt
abbrev aHj:= @List.mem_append_left
abbrev aHk:= @congrArg
abbrev aHl:= @PySem.mem_of_lookup
abbrev aHm:= @PySem.Heap.SameBut.update
abbrev aHn:= @PySem.codeAny_builtin
abbrev aHo:= @bind_congr
abbrev aHp:= @Nat.zero_le
abbrev aHq:= @PySem.wpAny_updateSeq
abbrev aHr:= @PySem.F.slot_zip_next
abbrev aHs:= @PySem.F.slot_dict_keyiterator_next
abbrev aHt:= @List.mem_of_mem_take
abbrev aHu:= @List.length_eq_zero_iff
abbrev aHv:= @Int.le_refl
abbrev aHw:= @PyProof.Rows.callWith_type1
abbrev aHx:= @Nat.lt_irrefl
abbrev aHy:= @PySem.wpAny_attempt
abbrev aHz:= @PyProof.Rows.wpS_forRange
abbrev aI0:= @List.getElem?_eq_none_iff
abbrev aI1:= @Nat.lt_succ_self
abbrev aI2:= @PySem.plainId_quiet
abbrev aI3:= @List.getElem?_of_mem
abbrev aI4:= @PySem.wpAny_typeNameOfWhole_keyiter
abbrev aI5:= @List.mem_filter
abbrev aI6:= @List.nodup_cons
abbrev aI7:= @PySem.wpAny_typeOf
abbrev aI8:= @PySem.wpAny_standAt
abbrev aI9:= @PySem.Calls.spliced_cons
abbrev aIa:= @PySem.wpAny_Call_Name_kw
abbrev aIb:= @PySem.F.slot_tuple_iterator_next
abbrev aIc:= @PyProof.Rows.wpS_mono
abbrev aIe:= @Classical.byContradiction
abbrev aIf:= @decide_eq_false
abbrev aIg:= @PySem.wpAny_passesOwn
abbrev aIh:= @Nat.le_of_lt
abbrev aIi:= @PySem.codeAny_mono
abbrev aIj:= @PySem.wpAny_setState_of
abbrev aIk:= @PySem.wpAny_setEntries_of
abbrev aIl:= @Nat.le_of_not_lt
abbrev aIm:= @List.mem_flatMap
abbrev aIn:= @List.Perm.append_right
abbrev aIo:= @PySem.F.called_set
abbrev aIp:= @Int.emod_lt_of_pos
abbrev aIq:= @List.Perm.append_left
abbrev aIr:= @List.perm_append_comm
abbrev aIs:= @List.take_append_drop
abbrev aIt:= @PySem.W.Looks.of_pure
abbrev aIu:= @PySem.wpAny_pyIter_slot
abbrev aIv:= @PySem.wpAny_of_eq
abbrev aIw:= @PySem.wpAny_newTuple
abbrev aIx:= @PySem.wpAny_fieldsOf
abbrev aIy:= @List.mem_iff_getElem
abbrev aIz:= @Nat.ne_of_gt
abbrev aJ0:= @PySem.wpAny_isInstance
abbrev aJ1:= @PySem.Calls.call_function_entry
abbrev aJ2:= @List.getElem?_zip_eq_some
abbrev aJ3:= @PyProof.Rows.F.entry_set_update_loop
abbrev aJ4:= @PySem.F.args_tuple_add_2
abbrev aJ5:= @PySem.F.slot_list_extend
abbrev aJ6:= @Int.emod_nonneg
abbrev aJ7:= @Bool.false_ne_true
abbrev aJ8:= @PySem.F.entry_tuple_add
abbrev aJ9:= @ite_congr
abbrev aJa:= @PySem.wpAny_truthy_bool
abbrev aJb:= @PySem.Calls.spliced_nil
abbrev aJc:= @PySem.F.slot_tuple_add
abbrev aJd:= @PySem.Calls.callWith_builtin
abbrev aJe:= @PySem.F.args_zip_next_1
abbrev aJf:= @List.take_of_length_le
abbrev aJg:= @List.ext_getElem?
abbrev aJh:= @List.append_inj_right'
abbrev aJi:= @List.length_filter_le
abbrev aJj:= @PySem.F.slot_dict_get
abbrev aJk:= @List.append_inj_left'
abbrev aJl:= @PySem.F.entry_zip_next
abbrev aJm:= @PySem.wpAny_askSetting
abbrev aJn:= @PyProof.Rows.wpS_modify
abbrev aJo:= @List.getElem_mem
abbrev aJp:= @PySem.W.mg_of
abbrev aJq:= @PySem.Calls.evalArgs_plain
abbrev aJr:= @PySem.wpAny_execs_nil
abbrev aJs:= @PySem.F.slot_zip_iter
abbrev aJt:= @PySem.codeAny_of_tree
abbrev aJu:= @PySem.wpAny_specialOf
abbrev aJv:= @PySem.wpAny_ite_split
abbrev aJw:= @PySem.F.slot_dict_setdefault
abbrev aJx:= @List.getElem_of_mem
abbrev aJy:= @List.map_congr_left
abbrev aJz:= @PySem.F.plain_extend_loop
abbrev aK0:= @PySem.wpAny_load
abbrev aK1:= @Nat.lt_of_le_of_lt
abbrev aK2:= @PySem.tupleKind_room_in1
abbrev aK3:= @PySem.wpAny_setField
abbrev aK4:= @PySem.Heap.size_push
abbrev aK5:= @Nat.lt_or_eq_of_le
abbrev aK6:= @List.take_sublist
abbrev aK7:= @Nat.lt_trichotomy
abbrev aK8:= @Nat.le_succ
abbrev aK9:= @PySem.wpAny_newList
abbrev aKa:= @Nat.lt_of_not_le
abbrev aKb:= @Nat.succ.inj
abbrev aKc:= @Nat.min_eq_left
abbrev aKe:=PySem.Value->PySem.Shared->Prop
abbrev aKf:=PyProof.Rows.Keyed->PyProof.Rows.Keyed->Bool
abbrev aKg:=PySem.Str->Option PySem.Value
abbrev aKh:=Array PyProof.Rows.Keyed
namespace L2
open PySem PySem.Spec PyProof.Rows
abbrev Key:=Sum Int Str
def xK:Key->Value->Bool
 | .inl k,v=>Value.isInt k v
 | .inr x,v=>Value.isStrOf x v
def aFo(w:World):Key->Int
 | .inl k=>hashInt k
 | .inr x=>hashStr w x
theorem bQ:∀{k:Key} {v:Value},xK k v=true->(∃i t,k=Sum.inl i/\v=Value.int i t)\/(∃x t,k=Sum.inr x/\v=Value.str x t)
 | .inl i,v,h=>by
  obtain⟨t,e⟩:=Value.isInt_shape (k:=i) (v:=v) h;exact .inl ⟨i,t,rfl,e⟩
 | .inr x,v,h=>by
  obtain⟨t,e⟩:=Value.isStrOf_shape (x:=x) (v:=v) h;exact .inr ⟨x,t,rfl,e⟩
theorem JD(i:Int)(t:Tok):xK (.inl i) (.int i t)=true:=by simp[xK,Value.isInt]
theorem JC(x:Str)(t:Tok):xK (.inr x) (.str x t)=true:=by simp[xK,Value.isStrOf]
theorem YG(a b:Int):decide ((Sum.inl a:Key)=Sum.inl b)=(a==b):=by
 by_cases e:a=b
 ·subst e;simp
 ·have h:¬(Sum.inl a:Key)=Sum.inl b:=λq=>e (Sum.inl.inj q);rw[decide_eq_false h];exact(beq_eq_false_iff_ne.mpr e).symm
theorem YD(a b:Str):decide ((Sum.inr a:Key)=Sum.inr b)=decide (a=b):=by
 by_cases e:a=b
 ·subst e;simp
 ·have h:¬(Sum.inr a:Key)=Sum.inr b:=λq=>e (Sum.inr.inj q);rw[decide_eq_false h,decide_eq_false e]
theorem YF(a:Int)(b:Str):decide ((Sum.inl a:Key)=Sum.inr b)=false:=aIf (λq=>nomatch q)
theorem YE(a:Str)(b:Int):decide ((Sum.inr a:Key)=Sum.inl b)=false:=aIf (λq=>nomatch q)
def aV(prog:Program)(w:World):PySem.KeyKind prog w Key where
 is:=xK
 hash:=aFo w
 inj:=λv a b ha hb=>by
  rcases bQ ha with ⟨i,t,rfl,rfl⟩ | ⟨x,t,rfl,rfl⟩
  ·rcases bQ hb with ⟨j,u,rfl,e⟩ | ⟨y,u,rfl,e⟩
   ·injection e with e1 _;rw[e1]
   ·exact nomatch e
  ·rcases bQ hb with ⟨j,u,rfl,e⟩ | ⟨y,u,rfl,e⟩
   ·exact nomatch e
   ·injection e with e1 _;rw[e1]
 byValue:=λk v h=>by
  rcases bQ h with ⟨i,t,rfl,rfl⟩ | ⟨x,t,rfl,rfl⟩ <;> rfl
 pyHash:=λhv h=>by
  rcases bQ hv with ⟨i,t,rfl,rfl⟩ | ⟨x,t,rfl,rfl⟩
  ·exact wpAny_pyHash_int h
  ·exact wpAny_pyHash_str h
 eqBool:=λhu hv h=>by
  rcases bQ hu with ⟨i,t,rfl,rfl⟩ | ⟨x,t,rfl,rfl⟩
  ·rcases bQ hv with ⟨j,u,rfl,rfl⟩ | ⟨y,u,rfl,rfl⟩
   ·rw[YG]at h;exact wpAny_eqBool_int h
   ·rw[YF]at h;exact SeqAt.EqAt.int_str i t y u _ _ _ _ h
  ·rcases bQ hv with ⟨j,u,rfl,rfl⟩ | ⟨y,u,rfl,rfl⟩
   ·rw[YE]at h;exact SeqAt.EqAt.str_int x t j u _ _ _ _ h
   ·rw[YD]at h;exact wpAny_eqBool_str h
 «strs»:=λk x t v h=>by
  rcases bQ h with ⟨i,u,rfl,e⟩ | ⟨y,u,rfl,e⟩
  ·exact nomatch e
  ·injection e with e1 _;subst e1;cases v <;> rfl
theorem BY(prog:Program)(w:World)(i:Int)(t:Tok):(aV prog w).is (.inl i) (.int i t)=true:=JD i t
theorem BX(prog:Program)(w:World)(x:Str)(t:Tok):(aV prog w).is (.inr x) (.str x t)=true:=JC x t
inductive V where
 | b6 | bl (b:Bool) | int (i:Int) | str (x:Str) | byt (b:Array UInt8) | flt (b:UInt64) | ref (a:Addr) | ty (n:String)
 deriving DecidableEq
def RelV:V->Value->Prop
 | .b6,u=>u=Value.none
 | .bl b,u=>u=Value.bool b
 | .int i,u=>∃t,u=Value.int i t
 | .str x,u=>∃t,u=Value.str x t
 | .byt b,u=>∃t,u=Value.bytes b t
 | .flt b,u=>∃t,u=Value.float b t
 | .ref a,u=>u=Value.ref a
 | .ty n,u=>u=Value.type n
abbrev Vals:List V->List Value->Prop:=Paired RelV
theorem Vals.length{xs:List V}{us:List Value}(r:Vals xs us):xs.length=us.length:=Paired.length r
theorem Vals.get:∀{xs:List V} {us:List Value} {i:Nat} {x:V},Vals xs us->xs[i]? =some x->∃u,us[i]? =some u/\RelV x u
 | _,_,_,_,.nil,e=>by simp at e
 | _,_,0,_,.cons r _,e=>by simp at e;subst e;exact⟨_,rfl,r⟩
 | _,_,i+1,x,.cons _ t,e=>by
  obtain⟨u,h1,h2⟩:=Vals.get (i:=i) (x:=x) t (by simpa using e);exact⟨u,by simpa using h1,h2⟩
theorem Vals.set{x:V}{u:Value}(r:RelV x u):∀{xs:List V} {us:List Value} (i:Nat),Vals xs us->Vals (xs.set i x) (us.set i u)
 | _,_,_,.nil=>.nil
 | _,_,0,.cons _ t=>.cons r t
 | _,_,i+1,.cons q t=>.cons q (Vals.set r i t)
theorem Vals.append:∀{xs ys:List V} {us ws:List Value},Vals xs us->Vals ys ws->Vals (xs++ys) (us++ws)
 | _,_,_,_,.nil,s=>s
 | _,_,_,_,.cons r t,s=>.cons r (Vals.append t s)
theorem Vals.take:∀{xs:List V} {us:List Value} (n:Nat),Vals xs us->Vals (xs.take n) (us.take n)
 | _,_,0,_=>.nil
 | _,_,_+1,.nil=>.nil
 | _,_,n+1,.cons r t=>.cons r (Vals.take n t)
theorem Vals.drop:∀{xs:List V} {us:List Value} (n:Nat),Vals xs us->Vals (xs.drop n) (us.drop n)
 | _,_,0,r=>r
 | _,_,_+1,.nil=>.nil
 | _,_,n+1,.cons _ t=>Vals.drop n t
theorem Vals.none_of:∀{xs:List V} {us:List Value} {i:Nat},Vals xs us->xs[i]? =none->us[i]? =none:=λ{xs us i} r e=>by
 have h1:=r.length;have h2:xs.length<=i:=aI0.mp e;exact aI0.mpr (by lia)
def sF:Option V->Option Value->Prop
 | some v,some u=>RelV v u
 | none,none=>True
 | _,_=>False
def KV{κ:Type}:List (κ×V)->List (κ×Value)->Prop:=Paired λ(p:κ×V) (q:κ×Value)=>p.1=q.1/\RelV p.2 q.2
def kV:Key->V
 | .inl i=>.int i
 | .inr x=>.str x
inductive HO where
 | lst (xs:List V)
 | tup (xs:List V)
 | dK (kvs:List (Key×V)) | dT (kvs:List (List Key×V))
 | set (S:Int->Bool) (n:Nat)
 | ins (C dx:Addr) (fs:List (Str×V))
 | own (x:Addr)
 | xd (fs:List (Str×V))
 | met (f x:Addr)
 | rng (lo hi:Int)
 | frz (o:Obj) (u:HO)
 | tbl (ps:Array Value)
 | ext (φ:Heap->Prop)
abbrev Hp:=Addr->Option HO
def upd(H:Hp)(a:Addr)(o:HO):Hp:=λb=>if b=a then some o else H b
theorem bK{H:Hp}{a:Addr}{o:HO}:upd H a o a=some o:=by unfold upd;rw[if_pos rfl]
theorem aP{H:Hp}{a b:Addr}{o:HO}(h:b≠a):upd H a o b=H b:=by unfold upd;rw[if_neg h]
theorem aBw{H:Hp}{a b:Addr}{o u:HO}(h:H a=some o)(h' :H b=some u)(d:o≠u):a≠b:=by
 intro e;subst e;rw[h]at h';exact d (aGv h')
theorem bM{H:Hp}{a b:Addr}{o:HO}(h:H a=some o)(h' :H b=none):a≠b:=by
 intro e;subst e;rw[h]at h';cases h'
theorem yT(h:Heap)(items:Array Value):∀o,(h.push {cls:= .type "tuple",data:= .seq items}).get? h.objs.size=some o->o.dict=none:=λo e=>by rw[Heap.get?_push_size _ rfl]at e;cases e;rfl
section
variable (P:Program)(w:World)
def dA(H:Hp)(h:Heap)(a:Addr):HO->Prop
 | .lst xs=>xs.length<=sizeLine/\∃(aI:List Value) (n:Nat),Vals xs aI/\h.get? a=some {cls:= .type "list",data:= .seq aI.toArray n}
 | .tup xs=>xs.length<=sizeLine/\∃aI:List Value,Vals xs aI/\IsTup h a aI.toArray/\∀o,h.get? a=some o->o.dict=none
 | .dK kvs=>kvs.length<=sizeLine/\(a==sysModules)=false/\∃vs,KV kvs vs/\h.DictOf (aV P w) a vs
 | .dT kvs=>kvs.length<=sizeLine/\(a==sysModules)=false/\∃xs:List (List Key×Addr×Value),
   Paired (λ(p:List Key×V) (q:List Key×Addr×Value)=>p.1=q.1/\H q.2.1=some (.tup (p.1.map kV))/\RelV p.2 q.2.2) kvs xs/\
   ∃o es ep,h.get? a=some o/\o.ExactDict/\o.data= .dict es ep/\es.toList=xs.map (entryOfKey (tupleKind (aV P w)))/\(xs.map (·.1)).Nodup
 | .set S n=>h.SetOf (intKind P w) a S n
 | .ins C dx fs=>H dx=some (.own a)/\fs.length<=1000/\dx≠a/\h.get? a=some (PySem.W.instObj C dx)/\
   ∃mA,h.Ns1 dx mA/\(∀f,sF (fs.lookup f) (mA f))/\PySem.Within mA (fs.map (·.1))
 | .own _=>∃o,h.get? a=some o
 | .xd fs=>∃mA,h.Ns1 a mA/\∀f,sF (fs.lookup f) (mA f)
 | .rng lo hi=>∃t u v,h.get? a=some {cls:= .type "range",data:= .fields #[.int lo t,.int hi u,.int 1 v]}
 | .frz o u=>h.get? a=some o/\dA H h a u
 | .tbl ps=>h.get? a=some {cls:= .none,data:= .fields ps}
 | .met f x=>h.get? a=some (PySem.W.methodObj (.ref f) (.ref x))
 | .ext φ=>φ h/\(∃o,h.get? a=some o)/\∀h1 h2:Heap,φ h1->(∀o,h1.get? a=some o->h2.get? a=some o)->φ h2
def qA(H:Hp)(h:Heap):Prop:=∀a o,H a=some o->dA P w H h a o
end
section
variable {P:Program}{w:World}{H H' :Hp}{h h' :Heap}{a:Addr}{o:HO}
theorem dA.lt(x:dA P w H h a o):a<h.objs.size:=by
 cases o with
 | lst xs=>obtain⟨_,_,_,_,e⟩:=x;exact aGl e
 | tup xs=>obtain⟨_,_,_,p,_⟩:=x;exact p.lt
 | dK kvs=>obtain⟨_,_,_,_,o,_,_,e,_⟩:=x;exact aGl e
 | dT kvs=>obtain⟨_,_,_,_,o,_,_,e,_⟩:=x;exact aGl e
 | set S n=>obtain⟨o,_,_,_,e,_⟩:=x;exact aGl e
 | ins C dx fs=>obtain⟨_,_,_,e,_⟩:=x;exact aGl e
 | own y=>obtain⟨_,e⟩:=x;exact aGl e
 | xd fs=>obtain⟨_,⟨_,_,_,e,_⟩,_⟩:=x;exact aGl e
 | rng lo hi=>obtain⟨_,_,_,e⟩:=x;exact aGl e
 | frz ob u=>obtain⟨e,_⟩:=x;exact aGl e
 | tbl ps=>exact aGl (show h.get? a=some _ from x)
 | met f y=>exact aGl (show h.get? a=some _ from x)
 | ext φ=>obtain⟨_,⟨_,e⟩,_⟩:=x;exact aGl e
theorem Paired.XD{α β:Type}{F G:α->β->Prop}:∀{l₁:List α} {l₂:List β},Paired F l₁ l₂->(∀a b,F a b->G a b)->Paired G l₁ l₂
 | _,_,.nil,_=>.nil
 | _,_,.cons r t,f=>.cons (f _ _ r) (Paired.XD t f)
theorem dA.sA(x:dA P w H h a o)(k:∀b u,(b=a\/H b=some (.own a))->h.get? b=some u->h'.get? b=some u)
  (ho:∀b,H b=some (.own a)->H' b=some (.own a)) (ht:∀b xs,H b=some (.tup xs)->H' b=some (.tup xs)):dA P w H' h' a o:=by
 induction o with
 | lst xs=>obtain⟨z,aI,n,r,e⟩:=x;exact⟨z,aI,n,r,k _ _ (.inl rfl) e⟩
 | tup xs=>obtain⟨z,aI,r,⟨ob,e,c⟩,nd⟩:=x;exact⟨z,aI,r,⟨ob,k _ _ (.inl rfl) e,c⟩,λo' e' =>by rw[k _ _ (.inl rfl) e]at e';cases e';exact nd _ e⟩
 | dK kvs=>obtain⟨z,y,vs,r,ob,es,ep,e,c⟩:=x;exact⟨z,y,vs,r,ob,es,ep,k _ _ (.inl rfl) e,c⟩
 | dT kvs=>
  obtain⟨z,y,xs,r,ob,es,ep,e,c⟩:=x;exact⟨z,y,xs,Paired.XD r λp q z=>⟨z.1,ht _ _ z.2.1,z.2.2⟩,ob,es,ep,k _ _ (.inl rfl) e,c⟩
 | set S n=>obtain⟨ob,es,ep,t,e,c⟩:=x;exact⟨ob,es,ep,t,k _ _ (.inl rfl) e,c⟩
 | ins C dx fs=>
  obtain⟨d,z,ne,e,mA,⟨od,es,ep,e2,c⟩,r⟩:=x;exact⟨ho _ d,z,ne,k _ _ (.inl rfl) e,mA,⟨od,es,ep,k _ _ (.inr d) e2,c⟩,r⟩
 | own y=>obtain⟨ob,e⟩:=x;exact⟨ob,k _ _ (.inl rfl) e⟩
 | xd fs=>obtain⟨mA,⟨od,es,ep,e,c⟩,r⟩:=x;exact⟨mA,⟨od,es,ep,k _ _ (.inl rfl) e,c⟩,r⟩
 | rng lo hi=>obtain⟨t,u,v,e⟩:=x;exact⟨t,u,v,k _ _ (.inl rfl) e⟩
 | frz ob u ih=>obtain⟨e,q⟩:=x;exact⟨k _ _ (.inl rfl) e,ih q⟩
 | tbl ps=>
  have e:h.get? a=some {cls:= .none,data:= .fields ps}:=x;show h'.get? a=some {cls:= .none,data:= .fields ps};exact k a _ (.inl rfl) e
 | met f y=>
  have e:h.get? a=some (PySem.W.methodObj (.ref f) (.ref y)):=x;show h'.get? a=some (PySem.W.methodObj (.ref f) (.ref y));exact k a _ (.inl rfl) e
 | ext φ=>obtain⟨p,⟨o,e⟩,st⟩:=x;exact⟨st _ _ p λo q=>k _ _ (.inl rfl) q,⟨o,k _ _ (.inl rfl) e⟩,st⟩
theorem qA.lt(x:qA P w H h)(e:H a=some o):a<h.objs.size:=(x a o e).lt
theorem qA.fresh(x:qA P w H h)(e:h.objs.size<=a):H a=none:=by
 cases q:H a with
 | none=>rfl
 | some u=>exact absurd (aGz (x.lt q) e) (aHx _)
theorem qA.kept(x:qA P w H h)(k:∀b u,h.get? b=some u->h'.get? b=some u):qA P w H h' :=λa o e=>
 (x a o e).sA (λb u _ q=>k b u q) (λ_ q=>q) λ_ _ q=>q
theorem qA.laid(x:qA P w H h)(k:∀b u,h.get? b=some u->h'.get? b=some u)(hp:h.objs.size<=a)(new:dA P w (upd H a o) h' a o):qA P w (upd H a o) h' :=λb u e=>by
 have hn:=x.fresh hp;by_cases hb:b=a
 ·subst hb;rw[bK]at e;cases e;exact new
 ·rw[aP hb]at e;exact(x b u e).sA (λc v _ q=>k c v q) (λc q=>by rw[aP (bM q hn)];exact q) λc xs q=>by rw[aP (bM q hn)];exact q
end
def Rd(H:Hp)(a:Addr)(u:HO):Prop:=H a=some u\/∃o,H a=some (.frz o u)
theorem Rd.ok{P:Program}{w:World}{H:Hp}{h:Heap}{a:Addr}{u:HO}(r:Rd H a u)(x:qA P w H h):dA P w H h a u:=by
 rcases r with r | ⟨o,r⟩
 ·exact x a u r
 ·obtain⟨_,q⟩:=x a _ r;exact q
def KO:Option HO->Prop
 | some (.lst _)=>True
 | some (.dK _)=>True
 | some (.dT _)=>True
 | some (.set _ _)=>True
 | some (.ins _ _ _)=>True
 | some (.ext _)=>True
 | _=>False
section
variable {P:Program}{w:World}{H:Hp}{h h' :Heap}{x e:Addr}{o' :HO}
theorem qA.write(ok:qA P w H h)(mu:KO (H x))(he:e=x\/H e=some (.own x))(k:∀b u,b≠e->h.get? b=some u->h'.get? b=some u)(heo:∃u,h'.get? e=some u)
  (new:dA P w (upd H x o') h' x o'):qA P w (upd H x o') h' :=λb u q=>by
 have nown:∀c y,H c=some (.own y)->c≠x:=λc y r z=>by subst z;rw[r]at mu;exact mu
 have ntup:∀c xs,H c=some (.tup xs)->c≠x:=λc xs r z=>by subst z;rw[r]at mu;exact mu
 by_cases hb:b=x
 ·subst hb;rw[bK]at q;cases q;exact new
 ·rw[aP hb]at q;by_cases hbe:b=e
  ·have q' :H b=some (.own x):=by
    rcases he with z | z
    ·exact absurd (hbe.trans z) hb
    ·rw[hbe];exact z
   rw[q]at q';cases q';obtain⟨v,hv⟩:=heo;exact⟨v,by rw[hbe];exact hv⟩
  ·refine(ok b u q).sA (λc v hc r=>k c v ?_ r) (λc r=>by rw[aP (nown c b r)];exact r) λc xs r=>by rw[aP (ntup c xs r)];exact r
   rcases hc with rfl | hc
   ·exact hbe
   ·rintro rfl;rcases he with z | z
    ·exact nown c b hc z
    ·rw[hc]at z;cases z;exact hb rfl
end
structure Un(fs ex:List Addr)(H H' :Hp)(h h' :Heap):Prop where
 keep:∀b o,h.get? b=some o->H b=none->b∉fs->b∉ex->h'.get? b=some o
 slot:∀b o,h.get? b=some o->H b=none->b∈fs->b∉ex->∃sl,h'.get? b=some {o with slots:=sl}
 free:∀b o,h.get? b=some o->H b=none->b∉ex->H' b=none
 there:∀b o,h.get? b=some o->b∉ex->∃o',h'.get? b=some o'
 BB:∀b xs,H b=some (.tup xs)->H' b=some (.tup xs)
 zY:∀b o u,H b=some (.frz o u)->H' b=some (.frz o u)
 BD:∀b ps,H b=some (.tbl ps)->∃more,H' b=some (.tbl (ps++more))
section
variable {fs fs' ex ex' :List Addr}{H H1 H2:Hp}{h h1 h2 h' :Heap}{a x e:Addr}{o:HO}
theorem Un.any(u:Un fs ex H H1 h h1){b:Addr}{ob:Obj}(q:h.get? b=some ob)(n:H b=none)(hx:b∉ex):∃sl,h1.get? b=some {ob with slots:=sl}:=by
 by_cases hb:b∈fs
 ·exact u.slot b ob q n hb hx
 ·exact⟨ob.slots,u.keep b ob q n hb hx⟩
theorem Un.kept(k:∀b u,h.get? b=some u->h'.get? b=some u):Un fs ex H H h h' :=
 ⟨λb ob q _ _ _=>k b ob q,λb ob q _ _ _=>⟨ob.slots,k b ob q⟩,λ_ _ _ n _=>n,λb ob q _=>⟨ob,k b ob q⟩,λ_ _ q=>q,λ_ _ _ q=>q,λ_ ps q=>⟨#[],by rw[q];simp⟩⟩
theorem Un.refl:Un fs ex H H h h:=Un.kept λ_ _ q=>q
theorem Un.laid(k:∀b u,h.get? b=some u->h'.get? b=some u)(hp:h.objs.size<=a)(hn:H a=none):Un fs ex H (upd H a o) h h' where
 keep:=λb u q _ _ _=>k b u q
 slot:=λb u q _ _ _=>⟨u.slots,k b u q⟩
 free:=λb u q n _=>by rw[aP (Nat.ne_of_lt (Nat.lt_of_lt_of_le (Heap.lt_size q) hp))];exact n
 there:=λb u q _=>⟨u,k b u q⟩
 BB:=λb xs q=>by rw[aP (bM q hn)];exact q
 zY:=λb u xs q=>by rw[aP (bM q hn)];exact q
 BD:=λb ps q=>⟨#[],by rw[aP (bM q hn),q];simp⟩
theorem Un.write(mu:KO (H x))(he:e=x\/H e=some (.own x))(k:∀b u,b≠e->h.get? b=some u->h'.get? b=some u)(heo:∃u,h'.get? e=some u):Un fs ex H (upd H x o) h h' :=by
 have hx:∀b,H b=none->b≠x:=λb n z=>by subst z;rw[n]at mu;exact mu
 have hb:∀b,H b=none->b≠e:=λb n z=>by
  subst z;rcases he with r | r
  ·exact hx b n r
  ·rw[n]at r;cases r
 have hm:∀b u,H b=some u->¬KO (some u)->b≠x:=λb u q nm z=>by subst z;rw[q]at mu;exact nm mu
 refine⟨λb u q n _ _=>k b u (hb b n) q,λb u q n _ _=>⟨u.slots,k b u (hb b n) q⟩,λb u q n _=>by rw[aP (hx b n)];exact n,λb u q _=>?_,
  λb xs q=>by rw[aP (hm b _ q λz=>z)];exact q,λb u xs q=>by rw[aP (hm b _ q λz=>z)];exact q,λb ps q=>⟨#[],by rw[aP (hm b _ q λz=>z),q];simp⟩⟩
 by_cases hbe:b=e
 ·subst hbe;exact heo
 ·exact⟨u,k b u hbe q⟩
end
def trk(h:Heap)(H:Hp):List Addr:=(List.range h.objs.size).filter λa=>(H a).isSome
def zV(h:Heap)(H:Hp):Heap:=PySem.W.hideAll h (trk h H)
theorem JI(h:Heap)(H:Hp):(zV h H).objs.size=h.objs.size:=PySem.W.hideAll_size _ _
theorem NX{h:Heap}{H:Hp}{b:Addr}{o:Obj}(e:h.get? b=some o)(n:H b=none):(zV h H).get? b=some o:=
 PySem.W.hideAll_get _ e λhm=>by
  have q:(H b).isSome=true:=(aI5.mp hm).2;rw[n]at q;simp at q
theorem RI{h:Heap}{H:Hp}{b:Addr}{o:Obj}(e:(zV h H).get? b=some o):h.get? b=some o/\H b=none:=by
 have e' :h.get? b=some o:=PySem.W.of_hideAll (trk h H) e;refine⟨e',?_⟩
 cases q:H b with
 | none=>rfl
 | some x=>
  have hm:b∈trk h H:=aI5.mpr ⟨List.mem_range.mpr (aGl e'),by simp[q]⟩;have z:(zV h H).get? b=none:=PySem.W.hideAll_none (trk h H) hm;rw[z]at e;cases e
structure Mod(K:aKd)(mg:aKg)(base:Heap):Prop where
 kin:K.In base
 glob:base.Ns mainGlobals mg
 blt:∃mb,base.Ns builtinsNs mb/\∀x:Str,x≠ "__name__"->mb x=bootBuiltins x
 nolimit:base.NoLimit
structure Cx where
 prog:Program
 w:World
 K:aKd
 mg:aKg
 base:Heap
 A:Around
 N:List Str
 s₀:Shared
 H₀:Hp
 env:Env
 outer:List Env
 stack:List Env
 ex:List Addr
 fn:Str->Bool
 calm:Bool
 pn:List (Addr×Obj)
 xe:aKe
def OF(l:List Env):List Addr:=l.filterMap (·.frame)
abbrev Cx.fs(X:Cx):List Addr:=OF X.outer
def Vis(sc:Scope)(x:Str):Prop:=sc.names.lookup x=some .local\/sc.names.lookup x=some .cell\/sc.names.lookup x=some .free
def Loc(sc:Scope)(x:Str):Prop:=sc.names.lookup x=some .local\/sc.names.lookup x=some .cell
def Look(env:Env)(h:Heap)(m:aKg)(x:Str)(u:Value):Prop:=
 (env.kindOf x=some .local/\m x=some u)\/((env.kindOf x=some .cell\/env.kindOf x=some .free)/\∃c,env.cells.lookup x=some c/\h.IsCell c (some u))
structure Cx.Ok(X:Cx):Prop where
 mod:Mod X.K X.mg X.base
 kind:X.env.scope.kind= .function
 glob:X.env.globals=mainGlobals
 blt:X.env.builtins=builtinsNs
 above:X.s₀.heap.objs.size<=X.env.locals
 inj:∀x y c,X.env.cells.lookup x=some c->X.env.cells.lookup y=some c->x=y
 has:∀x,(X.env.kindOf x=some .cell\/X.env.kindOf x=some .free)->∃c,X.env.cells.lookup x=some c
 cab:∀x c,X.fn x=true->X.env.cells.lookup x=some c->X.s₀.heap.objs.size<=c
 hd:X.calm=true->X.A.handled=none
 frames:X.A.frames=some X.stack
 stk:X.stack=X.outer\/(X.stack=X.env::X.outer/\X.env.frame=some X.env.locals)
 exf:∀b∈X.ex,b≠X.env.locals/\∀x c,X.env.cells.lookup x=some c->c≠b
 bs:∀b o,X.base.get? b=some o->X.s₀.heap.get? b=some o/\X.H₀ b=none
 TF:X.base.objs.size<=X.s₀.heap.objs.size
 MN:∀b o,X.base.get? b=some o->b∉X.ex
 OI:∀b∈X.ex,b∉X.fs
 uX:X.s₀.heap.FunFrames X.base X.outer
 Z7:∀b∈X.fs,X.H₀ b=none
structure Inv(X:Cx)(pins:List (Addr×Obj))(σ:List (Option V))(H:Hp)(s:Shared):Prop where
 ok:X.Ok
 os:s.os=X.s₀.os
 bare:AllBare s.gens
 base:Un X.fs X.ex X.H₀ H X.s₀.heap s.heap
 loc:∃m,s.heap.Ns X.env.locals m/\∀(i:Nat) (x:Str) (v:V),X.N[i]? =some x->σ[i]? =some (some v)->Vis X.env.scope x->∃u,RelV v u/\Look X.env s.heap m x u
 cell:∀x c,X.env.cells.lookup x=some c->∃v,s.heap.IsCell c v
 free:H X.env.locals=none
 lV:∀x c,X.env.cells.lookup x=some c->H c=none
 pin:∀p∈X.pn++pins,s.heap.get? p.1=some p.2/\H p.1=none/\p.1≠X.env.locals/\p.1∉X.fs/\∀v,p.2.data≠ .cell v
 bZ:qA X.prog X.w H s.heap
 len:σ.length=X.N.length
section
variable {X:Cx}{pins:List (Addr×Obj)}{σ:List (Option V)}{H H' :Hp}{s:Shared}{h' :Heap}
theorem Cx.Ok.aFd(ok:X.Ok){b:Addr}{o:Obj}(e:X.base.get? b=some o):b∉X.fs:=λhb=>by
 have:=(ok.uX.mem hb).1;rw[e]at this;cases this
theorem Inv.bs(I:Inv X pins σ H s):∀b o,X.base.get? b=some o->s.heap.get? b=some o/\H b=none:=λb o e=>
 ⟨I.base.keep b o (I.ok.bs b o e).1 (I.ok.bs b o e).2 (I.ok.aFd e) (I.ok.MN b o e),I.base.free b o (I.ok.bs b o e).1 (I.ok.bs b o e).2 (I.ok.MN b o e)⟩
theorem Inv.bk(I:Inv X pins σ H s):∀b o,X.base.get? b=some o->s.heap.get? b=some o:=λb o e=>(I.bs b o e).1
theorem Inv.mod(I:Inv X pins σ H s):Mod X.K X.mg X.base:=I.ok.mod
theorem Inv.YH(I:Inv X pins σ H s):X.K.In s.heap:=I.ok.mod.kin.keeps I.bk
theorem Inv.fr(I:Inv X pins σ H s):∃m,Fr X.base X.env.locals s.heap m:=
 let ⟨m,hn,_⟩:=I.loc
 ⟨m,hn,I.bk,aH5 I.ok.TF I.ok.above⟩
theorem Inv.lt(I:Inv X pins σ H s):X.env.locals<s.heap.objs.size:=let ⟨_,hn,_⟩:=I.loc;hn.lt
theorem Inv.sz(I:Inv X pins σ H s):X.s₀.heap.objs.size<=s.heap.objs.size:=aH5 I.ok.above (aIh I.lt)
theorem Inv.aFc(I:Inv X pins σ H s){a:Addr}(h:s.heap.objs.size<=a):a∉X.fs:=λhb=>by
 obtain⟨_,o,ho,_⟩:=I.ok.uX.mem hb;exact absurd (aGz (aGl ho) (aH5 I.sz h)) (aHx _)
theorem Inv.S7(I:Inv X pins σ H s):∀x c,X.env.cells.lookup x=some c->c≠X.env.locals:=λx c e z=>by
 obtain⟨v,o,ho,hd⟩:=I.cell x c e;obtain⟨m,⟨o',es,ep,ho',hd',_⟩,_⟩:=I.loc;rw[z,ho']at ho;cases ho;rw[hd']at hd;cases hd
theorem Inv.uX(I:Inv X pins σ H s):s.heap.FunFrames X.base X.outer:=by
 have all:∀(l:List Env),(∀b∈OF l,b∈X.fs)->X.s₀.heap.FunFrames X.base l->s.heap.FunFrames X.base l:=by
  intro l
  induction l with
  | nil=>intro _ _;trivial
  | cons env r ih=>
   intro hs hl;obtain⟨hk,⟨L,o,hf,hn,ho,hd⟩,hr⟩:=hl;have hL:L∈X.fs:=hs L (by unfold OF;rw[List.filterMap_cons,hf];exact aGf);obtain⟨sl,e⟩:=I.base.slot L o ho (I.ok.Z7 L hL) hL λz=>I.ok.OI L z hL;exact⟨hk,⟨L,_,hf,hn,e,hd⟩,ih (λb hb=>hs b (by unfold OF;rw[List.filterMap_cons,hf];exact aGg _ hb)) hr⟩
 exact all X.outer (λ_ hb=>hb) I.ok.uX
theorem Inv.stack(I:Inv X pins σ H s):s.heap.FunFrames X.base X.stack:=by
 rcases I.ok.stk with e | ⟨e,hf⟩
 ·rw[e];exact I.uX
 ·rw[e];obtain⟨m,hn,_⟩:=I.loc;refine .cons (by rw[I.ok.kind];decide) hf hn ?_ I.uX;exact Heap.get?_none_of_le (aH5 I.ok.TF I.ok.above)
theorem Inv.D0(I:Inv X pins σ H s):∀b∈OF X.stack,b∈X.env.locals::X.fs:=λb hb=>by
 rcases I.ok.stk with e | ⟨e,hf⟩
 ·rw[e]at hb;exact aGg _ hb
 ·rw[e]at hb;unfold OF at hb;rw[List.filterMap_cons,hf]at hb;exact hb
theorem Inv.GI(I:Inv X pins σ H s):∀b∈OF X.stack,H b=none:=λb hb=>by
 rcases aGk.mp (I.D0 b hb) with e | hb
 ·rw[e];exact I.free
 ·obtain⟨_,o,ho,_⟩:=I.ok.uX.mem hb;exact I.base.free b o ho (I.ok.Z7 b hb) λz=>I.ok.OI b z hb
theorem Inv.step{g' :Array GenState}{t' :Nat}{d' :Drawn}{ch:List Addr}(I:Inv X pins σ H s)
  (hch:∀b∈ch,(b∈X.ex\/X.s₀.heap.objs.size<=b)/\b≠X.env.locals/\(∀x c,X.env.cells.lookup x=some c->c≠b)/\∀p∈X.pn++pins,p.1≠b)
  (keep:∀b o,b≠X.env.locals->b∉X.fs->b∉ch->s.heap.get? b=some o->H b=none->h'.get? b=some o)
  (slot:∀b o,b≠X.env.locals->b∈X.fs->b∉ch->s.heap.get? b=some o->H b=none->∃sl,h'.get? b=some {o with slots:=sl}) (free:∀b o,b∉ch->s.heap.get? b=some o->H b=none->H' b=none)
  (there:∀b o,b∉ch->s.heap.get? b=some o->∃o',h'.get? b=some o')
  (BB:∀b xs,H b=some (.tup xs)->H' b=some (.tup xs)) (zY:∀b o u,H b=some (.frz o u)->H' b=some (.frz o u)) (BD:∀b ps,H b=some (.tbl ps)->∃more,H' b=some (.tbl (ps++more)))
  (ns:∀m,s.heap.Ns X.env.locals m->h'.Ns X.env.locals m) (bZ:qA X.prog X.w H' h') (hg:AllBare g'):
  Inv X pins σ H' {s with heap:=h',gens:=g',drawn:=d',toks:=t'}:=by
 have neL:∀b o,X.s₀.heap.get? b=some o->b≠X.env.locals:=λb o e=>aGu (aGz (aGl e) I.ok.above)
 have neC:∀b o,X.s₀.heap.get? b=some o->b∉X.ex->b∉ch:=λb o e hx hb=>by
  rcases(hch b hb).1 with z | z
  ·exact hx z
  ·exact absurd (aGz (aGl e) z) (aHx _)
 have cellK:∀x c,X.env.cells.lookup x=some c->∀v,s.heap.IsCell c v->h'.IsCell c v:=λx c e v zz0=>by
  obtain⟨o,ho,hd⟩:=zz0;have nch:c∉ch:=λz=>(hch c z).2.2.1 x c e rfl;by_cases hc:c∈X.fs
  ·obtain⟨sl,q⟩:=slot c o (I.S7 x c e) hc nch ho (I.lV x c e);exact⟨_,q,hd⟩
  ·exact⟨o,keep c o (I.S7 x c e) hc nch ho (I.lV x c e),hd⟩
 refine⟨I.ok,I.os,hg,⟨λb o e n hb hx=>?_,λb o e n hb hx=>?_,λb o e n hx=>?_,λb o e hx=>?_,λb xs e=>BB b xs (I.base.BB b xs e),λb o xs e=>zY b o xs (I.base.zY b o xs e),λb ps e=>?_⟩,?_,λx c e=>?_,?_,λx c e=>?_,λp hp=>?_,bZ,I.len⟩
 ·exact keep b o (neL b o e) hb (neC b o e hx) (I.base.keep b o e n hb hx) (I.base.free b o e n hx)
 ·obtain⟨sl,e1⟩:=I.base.slot b o e n hb hx;obtain⟨sl',e2⟩:=slot b _ (neL b o e) hb (neC b o e hx) e1 (I.base.free b o e n hx);exact⟨sl',e2⟩
 ·obtain⟨o',e1⟩:=I.base.there b o e hx;exact free b o' (neC b o e hx) e1 (I.base.free b o e n hx)
 ·obtain⟨o',e1⟩:=I.base.there b o e hx;exact there b o' (neC b o e hx) e1
 ·obtain⟨m1,e1⟩:=I.base.BD b ps e;obtain⟨m2,e2⟩:=BD b _ e1;exact⟨m1++m2,by rw[e2,Array.append_assoc]⟩
 ·obtain⟨m,hn,hl⟩:=I.loc;refine⟨m,ns m hn,λi x v e1 e2 e3=>?_⟩;obtain⟨u,r,l⟩:=hl i x v e1 e2 e3;refine⟨u,r,?_⟩;rcases l with l | ⟨k,c,e,z⟩
  ·exact .inl l
  ·exact .inr ⟨k,c,e,cellK x c e _ z⟩
 ·obtain⟨v,z⟩:=I.cell x c e;exact⟨v,cellK x c e v z⟩
 ·obtain⟨m,⟨o,_,_,ho,_⟩,_⟩:=I.loc;exact free _ o (λz=>(hch _ z).2.1 rfl) ho I.free
 ·obtain⟨v,o,ho,hd⟩:=I.cell x c e;exact free c o (λz=>(hch c z).2.2.1 x c e rfl) ho (I.lV x c e)
 ·obtain⟨e,n,ne,nf,d⟩:=I.pin p hp;have nch:p.1∉ch:=λz=>(hch p.1 z).2.2.2 p hp rfl;exact⟨keep p.1 p.2 ne nf nch e n,free p.1 p.2 nch e n,ne,nf,d⟩
theorem Inv.un{t' :Nat}(I:Inv X pins σ H s)(u:Un X.fs [] H H' s.heap h')(bZ:qA X.prog X.w H' h'):Inv X pins σ H' {s with heap:=h',toks:=t'}:=by
 obtain⟨m,⟨o,es,ep,ho,r⟩,_⟩:=id I.loc;obtain⟨sl,hL⟩:=u.any ho I.free (by simp)
 exact I.step (g' :=s.gens) (d' :=s.drawn) (ch:=[]) (λ_ z=>nomatch z) (λb o _ hb _ e n=>u.keep b o e n hb (by simp)) (λb o _ hb _ e n=>u.slot b o e n hb (by simp)) (λb o _ e n=>u.free b o e n (by simp)) (λb o _ e=>u.there b o e (by simp)) u.BB u.zY u.BD (λm' hm=>by
  obtain⟨o',es',ep',ho',r'⟩:=hm;rw[ho]at ho';cases ho'
  exact⟨_,es',ep',hL,r'⟩) bZ I.bare
theorem Inv.call{g' :Array GenState}{t' :Nat}{d' :Drawn}{ch:List Addr}(I:Inv X pins σ H s)(u:Un (OF X.stack) ch H H' s.heap h')(bZ:qA X.prog X.w H' h')(hg:AllBare g')
  (hch:∀b∈ch,(b∈X.ex\/X.s₀.heap.objs.size<=b)/\b≠X.env.locals/\(∀x c,X.env.cells.lookup x=some c->c≠b)/\∀p∈X.pn++pins,p.1≠b):
  Inv X pins σ H' {s with heap:=h',gens:=g',drawn:=d',toks:=t'}:=by
 obtain⟨m,⟨o,es,ep,ho,r⟩,_⟩:=id I.loc;obtain⟨sl,hL⟩:=u.any ho I.free λz=>(hch _ z).2.1 rfl
 exact I.step (ch:=ch) hch (λb o hL hb hc e n=>u.keep b o e n (λz=>(aGk.mp (I.D0 b z)).elim hL hb) hc) (λb o _ _ hc e n=>u.any e n hc) (λb o hc e n=>u.free b o e n hc) (λb o hc e=>u.there b o e hc) u.BB u.zY u.BD (λm' hm=>by
  obtain⟨o',es',ep',ho',r'⟩:=hm;rw[ho]at ho';cases ho'
  exact⟨_,es',ep',hL,r'⟩) bZ hg
theorem Inv.turned{t' :Nat}{it:Addr}(I:Inv X pins σ H s)(k:∀b o,b≠it->s.heap.get? b=some o->h'.get? b=some o)(hn:H it=none)(hL:it≠X.env.locals)
  (h1:it∈X.ex\/X.s₀.heap.objs.size<=it) (h2:∀x c,X.env.cells.lookup x=some c->c≠it) (h3:∀p∈X.pn++pins,p.1≠it):Inv X pins σ H {s with heap:=h',toks:=t'}:=by
 have nit:∀b u,H b=some u->b≠it:=λb u e z=>by rw[z,hn]at e;cases e
 refine I.step (g' :=s.gens) (d' :=s.drawn) (ch:=[it]) (λb hb=>?_) (λb o _ _ hc e _=>k b o (λz=>hc (by simp[z])) e) (λb o _ _ hc e _=>⟨o.slots,k b o (λz=>hc (by simp[z])) e⟩) (λ_ _ _ _ n=>n)
  (λb o hc e=>⟨o,k b o (λz=>hc (by simp[z])) e⟩) (λ_ _ e=>e) (λ_ _ _ e=>e) (λb ps e=>⟨#[],by rw[e];simp⟩) (λm hm=>?_) (λb u e=>?_) I.bare
 ·have e:b=it:=by simpa using hb
  subst e;exact⟨h1,hL,h2,h3⟩
 ·obtain⟨o,es,ep,ho,r⟩:=hm;exact⟨o,es,ep,k _ o (aHh hL) ho,r⟩
 ·refine(I.bZ b u e).sA (λc v hc q=>k c v ?_ q) (λ_ q=>q) λ_ _ q=>q;rcases hc with z | z
  ·rw[z];exact nit b u e
  ·exact nit c _ z
theorem Inv.tok(I:Inv X pins σ H s)(t:Nat):Inv X pins σ H {s with toks:=t}:=I.un (h' :=s.heap) (t' :=t) Un.refl I.bZ
theorem Inv.kept{t' :Nat}(I:Inv X pins σ H s)(k:∀b u,s.heap.get? b=some u->h'.get? b=some u):Inv X pins σ H {s with heap:=h',toks:=t'}:=I.un (Un.kept k) (I.bZ.kept k)
theorem Inv.laid{a:Addr}{o:HO}{t' :Nat}(I:Inv X pins σ H s)(k:∀b u,s.heap.get? b=some u->h'.get? b=some u)(hp:s.heap.objs.size<=a)(new:dA X.prog X.w (upd H a o) h' a o):
  Inv X pins σ (upd H a o) {s with heap:=h',toks:=t'}:=I.un (Un.laid k hp (I.bZ.fresh hp)) (I.bZ.laid k hp new)
theorem Inv.write{x e:Addr}{o:HO}{t' :Nat}(I:Inv X pins σ H s)(mu:KO (H x))(he:e=x\/H e=some (.own x))(k:∀b u,b≠e->s.heap.get? b=some u->h'.get? b=some u)(heo:∃u,h'.get? e=some u)
  (new:dA X.prog X.w (upd H x o) h' x o):Inv X pins σ (upd H x o) {s with heap:=h',toks:=t'}:=I.un (Un.write mu he k heo) (I.bZ.write mu he k heo new)
theorem Inv.weak{σ' :List (Option V)}(I:Inv X pins σ H s)(hl:σ'.length=σ.length)(w:∀(i:Nat) v,σ'[i]? =some (some v)->σ[i]? =some (some v)):Inv X pins σ' H s:=
 ⟨I.ok,I.os,I.bare,I.base,let ⟨m,hn,hl'⟩:=I.loc;⟨m,hn,λi x v e1 e2 e3=>hl' i x v e1 (w i v e2) e3⟩,I.cell,I.free,I.lV,I.pin,I.bZ,hl.trans I.len⟩
theorem Inv.GP{pins' :List (Addr×Obj)}(I:Inv X pins σ H s)(h:∀p∈pins',s.heap.get? p.1=some p.2/\H p.1=none/\p.1≠X.env.locals/\p.1∉X.fs/\∀v,p.2.data≠ .cell v):Inv X pins' σ H s:=
 ⟨I.ok,I.os,I.bare,I.base,I.loc,I.cell,I.free,I.lV,λp hp=>(aGh.mp hp).elim (λz=>I.pin p (aHj _ z)) (h p),I.bZ,I.len⟩
theorem BV{N:List Str}(hN:N.Nodup){i j:Nat}{x:Str}(a:N[i]? =some x)(b:N[j]? =some x):i=j:=by
 obtain⟨h1,e1⟩:=aGc.mp a;obtain⟨h2,e2⟩:=aGc.mp b;exact(List.getElem_inj hN).mp (e1.trans e2.symm)
theorem wU{M:Model}{A:Around}{E:aKe}{i:Nat}{x:Str}{v:V}{u:Value}{Q:Unit->Shared->Prop}(I:Inv X pins σ H s)(hN:X.N.Nodup)(hi:X.N[i]? =some x)(hx:Loc X.env.scope x)(r:RelV v u)
  (h:∀s',Inv X pins (σ.set i (some v)) H s' ->(∃a,Heap.SameBut a s.heap s'.heap/\(a=X.env.locals\/X.env.cells.lookup x=some a))->Q () s') (hf:X.fn x=true\/X.env.scope.names.lookup x=some .local:=by first | exact .inl rfl | exact .inr rfl | assumption):wpAny M A (storeName X.env x u) Q E s:=by
 obtain⟨m,hn,hl⟩:=id I.loc;have hcls:(X.env.scope.kind== .class || (X.env.scope.kind== .module && X.env.locals !=X.env.globals))=false:=by rw[I.ok.kind];rfl
 have hiσ:i<σ.length:=by rw[I.len];exact(aGc.mp hi).1
 have S7:=I.S7
 have tracked:∀{a:Addr} {h' :Heap},(∃o,s.heap.get? a=some o/\H a=none)->Heap.SameBut a s.heap h' ->qA X.prog X.w H h' :=λ{a h'} ha hs b ob e=>by
  obtain⟨_,_,hfree⟩:=ha;refine(I.bZ b ob e).sA (λc w' hc q=>(hs.2 c ?_).trans q) (λ_ q=>q) λ_ _ q=>q;rintro rfl;rcases hc with rfl | hc
  ·rw[hfree]at e;cases e
  ·rw[hfree]at hc;cases hc
 rcases hx with hk | hk
 ·refine wpAny_storeName_local hk hn (λh' hn' hs=>?_) hcls;obtain⟨oL,_,_,hoL,_⟩:=id hn;refine h _ ⟨I.ok,I.os,I.bare,⟨λb o e n hb hx=>?_,λb o e n hb hx=>?_,I.base.free,λb o e hx=>?_,I.base.BB,I.base.zY,I.base.BD⟩,⟨_,hn',λj y v' e1 e2 e3=>?_⟩,λy c e=>?_,I.free,I.lV,λp hp=>?_,tracked ⟨oL,hoL,I.free⟩ hs,by simpa using I.len⟩ ⟨_,hs,.inl rfl⟩
  ·exact(hs.2 b (aGu (aGz (aGl e) I.ok.above))).trans (I.base.keep b o e n hb hx)
  ·obtain⟨sl,e1⟩:=I.base.slot b o e n hb hx;exact⟨sl,(hs.2 b (aGu (aGz (aGl e) I.ok.above))).trans e1⟩
  ·obtain⟨o',e1⟩:=I.base.there b o e hx;exact⟨o',(hs.2 b (aGu (aGz (aGl e) I.ok.above))).trans e1⟩
  ·by_cases hj:j=i
   ·subst hj;rw[hi]at e1;cases e1;rw[List.getElem?_set_self hiσ]at e2;cases e2;exact⟨u,r,.inl ⟨hk,by simp⟩⟩
   ·rw[List.getElem?_set_ne (Ne.symm hj)]at e2;obtain⟨u',r',q⟩:=hl j y v' e1 e2 e3;refine⟨u',r',?_⟩
    rcases q with ⟨k,e⟩ | ⟨k,c,e,z⟩
    ·refine .inl ⟨k,?_⟩;have:y≠x:=λe=>hj (BV hN e1 (e▸hi));simp[this,e]
    ·exact .inr ⟨k,c,e,z.sameBut hs (S7 y c e)⟩
  ·obtain⟨w',z⟩:=I.cell y c e;exact⟨w',z.sameBut hs (S7 y c e)⟩
  ·obtain⟨e,n,ne,nf,d⟩:=I.pin p hp;exact⟨(hs.2 p.1 ne).trans e,n,ne,nf,d⟩
 ·have hfn:X.fn x=true:=by
   rcases hf with z | z
   ·exact z
   ·rw[z]at hk;cases hk
  obtain⟨c,hc⟩:=I.ok.has x (.inl hk);obtain⟨w',z⟩:=I.cell x c hc;refine wpAny_storeName_cell I.ok.kind hk hc z (λh' hc' hs=>?_);obtain⟨oc,hoc,hocd⟩:=id z;refine h {s with heap:=h'} ⟨I.ok,I.os,I.bare,⟨λb o e n hb hx=>?_,λb o e n hb hx=>?_,I.base.free,λb o e hx=>?_,I.base.BB,I.base.zY,I.base.BD⟩,⟨m,hn.sameBut hs (aHh (S7 x c hc)),λj y v' e1 e2 e3=>?_⟩,λy c' e=>?_,I.free,I.lV,λp hp=>?_,tracked ⟨oc,hoc,I.lV x c hc⟩ hs,by simpa using I.len⟩ ⟨c,hs,.inr hc⟩
  ·exact(hs.2 b (aGu (aGz (aGl e) (I.ok.cab x c hfn hc)))).trans (I.base.keep b o e n hb hx)
  ·obtain⟨sl,e1⟩:=I.base.slot b o e n hb hx;exact⟨sl,(hs.2 b (aGu (aGz (aGl e) (I.ok.cab x c hfn hc)))).trans e1⟩
  ·obtain⟨o',e1⟩:=I.base.there b o e hx;exact⟨o',(hs.2 b (aGu (aGz (aGl e) (I.ok.cab x c hfn hc)))).trans e1⟩
  ·by_cases hj:j=i
   ·subst hj;rw[hi]at e1;cases e1;rw[List.getElem?_set_self hiσ]at e2;cases e2;exact⟨u,r,.inr ⟨.inl hk,c,hc,hc'⟩⟩
   ·rw[List.getElem?_set_ne (Ne.symm hj)]at e2;obtain⟨u',r',q⟩:=hl j y v' e1 e2 e3;refine⟨u',r',?_⟩;rcases q with q | ⟨k,c',e,z'⟩
    ·exact .inl q
    ·refine .inr ⟨k,c',e,z'.sameBut hs ?_⟩;rintro rfl;exact hj (BV hN e1 (I.ok.inj _ _ _ e hc▸hi))
  ·by_cases hcc:c' =c
   ·subst hcc;exact⟨_,hc'⟩
   ·obtain⟨w2,z2⟩:=I.cell y c' e;exact⟨w2,z2.sameBut hs hcc⟩
  ·obtain⟨e,n,ne,nf,d⟩:=I.pin p hp;refine⟨(hs.2 p.1 ?_).trans e,n,ne,nf,d⟩;intro q;rw[q,hoc]at e;have q' :oc=p.2:=aGv e;exact d w' (by rw[<-q'];exact hocd)
theorem lE{M:Model}{A:Around}{E:aKe}{i:Nat}{x:Str}{v:V}{u:Value}{Q:Unit->Shared->Prop}(I:Inv X pins σ H s)(hN:X.N.Nodup)(hi:X.N[i]? =some x)(hx:Loc X.env.scope x)(r:RelV v u)
  (h:∀s',Inv X pins (σ.set i (some v)) H s' ->Q () s') (hf:X.fn x=true\/X.env.scope.names.lookup x=some .local:=by first | exact .inl rfl | exact .inr rfl | assumption):wpAny M A (storeName X.env x u) Q E s:=
 wU I hN hi hx r (λs' I' _=>h s' I') hf
theorem Inv.aCt{s' :Shared}{ch:List Addr}(I:Inv X pins σ H s)(ho:s'.os=s.os)(u:Un (OF X.stack) ch H H' s.heap s'.heap)(bZ:qA X.prog X.w H' s'.heap)(hg:AllBare s'.gens)
  (hch:∀b∈ch,(b∈X.ex\/X.s₀.heap.objs.size<=b)/\b≠X.env.locals/\(∀x c,X.env.cells.lookup x=some c->c≠b)/\∀p∈X.pn++pins,p.1≠b):Inv X pins σ H' s' :=by
 obtain⟨h',g',d',t',o'⟩:=s';have e:o' =s.os:=ho;subst e;exact I.call (g' :=g') (t' :=t') (d' :=d') u bZ hg hch
end
abbrev XK:=Value->Option Addr->Hp->Prop
abbrev St:=List (Option V)
abbrev VK:=V->Hp->Prop
abbrev TE:=St->Hp->VK->Prop
abbrev TT:=St->Hp->(Bool->Hp->Prop)->Prop
abbrev TA:=St->Hp->(List V->Hp->Prop)->Prop
structure Ends where
 nx:St->Hp->Prop
 rt:VK
 bk:St->Hp->Prop:=λ_ _=>False
 ct:St->Hp->Prop:=λ_ _=>False
abbrev TS:=Ends->St->Hp->Prop
def EP(X:Cx)(pins:List (Addr×Obj))(σ:St)(Q:VK)(u:Value)(s' :Shared):Prop:=∃v H',Inv X pins σ H' s' /\RelV v u/\Q v H'
def TP(X:Cx)(pins:List (Addr×Obj))(σ:St)(Q:Bool->Hp->Prop)(b:Bool)(s' :Shared):Prop:=∃H',Inv X pins σ H' s' /\Q b H'
def AP(X:Cx)(pins:List (Addr×Obj))(σ:St)(Q:List V->Hp->Prop)(us:List Value)(s' :Shared):Prop:=∃vs H',Inv X pins σ H' s' /\Vals vs us/\Q vs H'
def SP(X:Cx)(pins:List (Addr×Obj))(D:Ends)(f:Flow)(s' :Shared):Prop:=
 match f with
 | .next=>∃σ' H',Inv X pins σ' H' s' /\D.nx σ' H'
 | .brk=>∃σ' H',Inv X pins σ' H' s' /\D.bk σ' H'
 | .cont=>∃σ' H',Inv X pins σ' H' s' /\D.ct σ' H'
 | .ret u=>∃v σ' H',Inv X pins σ' H' s' /\RelV v u/\D.rt v H'
def PE(X:Cx)(e:Expr)(t:TE):Prop:=
 ∀(pins:List (Addr×Obj)) (s:Shared) (σ:St) (H:Hp) (Q:VK),Inv X pins σ H s->t σ H Q->wpAny (model X.prog X.w) X.A (eval e X.env) (EP X pins σ Q) X.xe s
def PT(X:Cx)(e:Expr)(t:TT):Prop:=
 ∀(pins:List (Addr×Obj)) (s:Shared) (σ:St) (H:Hp) (Q:Bool->Hp->Prop),Inv X pins σ H s->t σ H Q->wpAny (model X.prog X.w) X.A (isTrue e X.env (eval e X.env)) (TP X pins σ Q) X.xe s
def PW(X:Cx)(e:Expr)(t:TT):Prop:=
 ∀(whole:Sem Value) (pins:List (Addr×Obj)) (s:Shared) (σ:St) (H:Hp) (Q:Bool->Hp->Prop),Inv X pins σ H s->t σ H Q->wpAny (model X.prog X.w) X.A (isTrue e X.env whole) (TP X pins σ Q) X.xe s
theorem PW.pt{X:Cx}{e:Expr}{t:TT}(h:PW X e t):PT X e t:=h _
def PA(X:Cx)(es:List Expr)(t:TA):Prop:=
 ∀(pos:Pos) (pins:List (Addr×Obj)) (s:Shared) (σ:St) (H:Hp) (Q:List V->Hp->Prop),Inv X pins σ H s->t σ H Q->wpAny (model X.prog X.w) X.A (spliced (backTo pos (starEach es X.env))) (AP X pins σ Q) X.xe s
def PS(X:Cx)(st:Stmt)(t:TS):Prop:=
 ∀(pins:List (Addr×Obj)) (s:Shared) (σ:St) (H:Hp) (D:Ends),Inv X pins σ H s->t D σ H->wpAny (model X.prog X.w) X.A (exec st X.env) (SP X pins D) X.xe s
def AW(X:Cx)(st:List Stmt)(t:TS):Prop:=
 ∀(pins:List (Addr×Obj)) (s:Shared) (σ:St) (H:Hp) (D:Ends),Inv X pins σ H s->t D σ H->wpAny (model X.prog X.w) X.A (execs st X.env) (SP X pins D) X.xe s
theorem cD{α:Type}{t:Sem α}{Q Q' :α->Shared->Prop}{M:Model}{A:Around}{E:aKe}{s:Shared}(h:wpAny M A t Q E s)(hQ:∀a s,Q a s->Q' a s):wpAny M A t Q' E s:=aH6 h hQ λ_ _ x=>x
section
variable {X:Cx}
def aE1(i:Nat):TE:=λσ H Q=>∃v,σ[i]? =some (some v)/\Q v H
def tC(v:V):TE:=λ_ H Q=>Q v H
theorem V7{i:Nat}{x:Str}{pos:Pos}(hN:X.N[i]? =some x)(hv:Vis X.env.scope x)(hd:(x==("__debug__":Str))=false:=by decide)(hcd:(x==("__classdict__":Str))=false:=by decide):PE X (.Name x pos) (aE1 i):=by
 intro pins s σ H Q I h;obtain⟨v,e,h⟩:=h;obtain⟨m,hn,hl⟩:=I.loc;obtain⟨u,r,l⟩:=hl i x v hN e hv
 have fin:EP X pins σ Q u s:=⟨v,H,I,r,h⟩
 rcases l with ⟨hk,hm⟩ | ⟨hk,c,hc,hcell⟩
 ·exact wpAny_Name (wpAny_loadName_local I.ok.kind hk hn hm fin) hd
 ·rcases hk with hk | hk
  ·exact wpAny_Name (wpAny_loadName_cell I.ok.kind hk hc hcell fin) hd
  ·exact wpAny_Name (wpAny_loadName_free I.ok.kind hk hc hcell fin hcd) hd
theorem WH{i j pos}:PE X (.Constant (.int i) j pos) (tC (.int i)):=λ_ _ _ H _ I h=>wpAny_Constant_int ⟨.int i,H,I.tok _,⟨_,rfl⟩,h⟩
theorem aBk{b j pos}:PE X (.Constant (.bool b) j pos) (tC (.bl b)):=λ_ _ _ H _ I h=>Constant_bool ⟨.bl b,H,I,rfl,h⟩
def Gl(X:Cx)(x:Str):Prop:=X.env.kindOf x=some .globalImplicit
theorem G2{E:aKe}{pins:List (Addr×Obj)}{s:Shared}{σ:St}{H:Hp}{x:Str}{u:Value}{pos:Pos}{Q:aKe}(I:Inv X pins σ H s)(hg:Gl X x)(hm:X.mg x=some u)(h:Q u s)
  (hd:(x==("__debug__":Str))=false:=by decide):wpAny (model X.prog X.w) X.A (eval (.Name x pos) X.env) Q E s:=
 Calls.Name_function_global I.ok.kind hg (Calls.loadGlobal_global (by rw[I.ok.glob];exact I.mod.glob.keeps I.bk) hm h) hd
theorem nZ{E:aKe}{pins:List (Addr×Obj)}{s:Shared}{σ:St}{H:Hp}{x:Str}{u:Value}{pos:Pos}{Q:aKe}(I:Inv X pins σ H s)(hg:Gl X x)(hm:X.mg x=none)(hv:bootBuiltins x=some u)(h:Q u s)
  (hn:x≠ "__name__":=by decide) (hd:(x==("__debug__":Str))=false:=by decide):wpAny (model X.prog X.w) X.A (eval (.Name x pos) X.env) Q E s:=by
 obtain⟨mb,h1,h2⟩:=I.mod.blt;exact Calls.Name_function_global I.ok.kind hg (Calls.loadGlobal_builtin (by rw[I.ok.glob];exact I.mod.glob.keeps I.bk) hm (by rw[I.ok.blt];exact h1.keeps I.bk) ((h2 x hn).trans hv) h) hd
theorem Q6{x:Str}{v:V}{u:Value}{pos:Pos}(hg:Gl X x)(hm:X.mg x=some u)(r:RelV v u)(hd:(x==("__debug__":Str))=false:=by decide):PE X (.Name x pos) (tC v):=
 λ_ _ _ H _ I h=>G2 I hg hm ⟨v,H,I,r,h⟩ hd
theorem Q9{x:Str}{v:V}{u:Value}{pos:Pos}(hg:Gl X x)(hm:X.mg x=none)(hv:bootBuiltins x=some u)(r:RelV v u)(hn:x≠ "__name__":=by decide)(hd:(x==("__debug__":Str))=false:=by decide):PE X (.Name x pos) (tC v):=
 λ_ _ _ H _ I h=>nZ I hg hm hv ⟨v,H,I,r,h⟩ hn hd
variable {a b:Expr}{ta tb:TE}{pos:Pos}
theorem MQ(b:Expr){op:CmpOp}(h:op≠ .In)(h2:op≠ .NotIn):behindInMarks op b=false:=by
 have e1:(op==CmpOp.In)=false:=by cases op <;> first | rfl | exact absurd rfl h
 have e2:(op==CmpOp.NotIn)=false:=by cases op <;> first | rfl | exact absurd rfl h2
 cases b <;> simp[behindInMarks,e1,e2]
variable {tA tB' :TT}{rest:List Expr}
def aEd(t u:TT):TT:=λσ H Q=>t σ H λc H1=>if c=true then u σ H1 Q else Q false H1
def tOr(t u:TT):TT:=λσ H Q=>t σ H λc H1=>if c=true then Q true H1 else u σ H1 Q
def aE7(t:TT):TT:=λσ H Q=>t σ H λc H1=>Q (!c) H1
theorem QP(ha:PT X a tA):PW X (.BoolOp .And [a] pos) tA:=by
 intro wh pins s σ H Q I h;refine isTrue_and (cD (ha pins s σ H Q I h) λc s1 e=>?_)
 cases c with
 | true=>exact isTrue_and_nil e
 | false=>exact e
theorem VW(ha:PT X a tA):PW X (.BoolOp .Or [a] pos) tA:=by
 intro wh pins s σ H Q I h;refine isTrue_or (cD (ha pins s σ H Q I h) λc s1 e=>?_)
 cases c with
 | false=>exact isTrue_or_nil e
 | true=>exact e
theorem VX(ha:PT X a tA)(hb:PW X (.BoolOp .And (b::rest) pos) tB'):PW X (.BoolOp .And (a::b::rest) pos) (aEd tA tB'):=by
 intro wh pins s σ H Q I h;refine isTrue_and (cD (ha pins s σ H _ I h) λc s1 zz5=>?_);obtain⟨H1,I1,q1⟩:=zz5
 cases c with
 | true=>exact hb wh pins s1 σ H1 Q I1 q1
 | false=>exact⟨H1,I1,q1⟩
theorem aBc(ha:PT X a tA)(hb:PW X (.BoolOp .Or (b::rest) pos) tB'):PW X (.BoolOp .Or (a::b::rest) pos) (tOr tA tB'):=by
 intro wh pins s σ H Q I h;refine isTrue_or (cD (ha pins s σ H _ I h) λc s1 zz6=>?_);obtain⟨H1,I1,q1⟩:=zz6
 cases c with
 | true=>exact⟨H1,I1,q1⟩
 | false=>exact hb wh pins s1 σ H1 Q I1 q1
theorem VY(ha:PT X a tA):PT X (.UnaryOp .Not a pos) (aE7 tA):=by
 intro pins s σ H Q I h;exact isTrue_not (ha pins s σ H (λc H1=>Q (!c) H1) I h)
def aAv(ta tb:TE):TE:=λσ H Q=>ta σ H λx H1=>∃c,x= .bl c/\if c=true then tb σ H1 Q else Q (.bl false) H1
def aAp(ta:TE):TE:=λσ H Q=>ta σ H λx H1=>∃c,x= .bl c/\Q (.bl (!c)) H1
theorem V9{op}{t:TE}(h:PE X a t):PE X (.BoolOp op [a] pos) t:=λpins s σ H Q I hw=>BoolOp_one (h pins s σ H Q I hw)
theorem WJ(ha:PE X a ta)(hb:PE X (.BoolOp .And (b::rest) pos) tb):PE X (.BoolOp .And (a::b::rest) pos) (aAv ta tb):=by
 intro pins s σ H Q I h;refine BoolOp_and (cD (ha pins s σ H _ I h) λv s1 zz7=>?_);obtain⟨x,H1,I1,r1,q1⟩:=zz7;obtain⟨c,rfl,q1⟩:=q1;cases r1;refine aJa ?_
 cases c with
 | true=>exact hb pins s1 σ H1 Q I1 q1
 | false=>exact⟨.bl false,H1,I1,rfl,q1⟩
theorem WB(ha:PE X a ta):PE X (.UnaryOp .Not a pos) (aAp ta):=by
 intro pins s σ H Q I h;refine UnaryOp_ (cD (ha pins s σ H _ I h) λv s1 zz9=>?_);obtain⟨x,H1,I1,r1,q1⟩:=zz9;obtain⟨c,rfl,q1⟩:=q1;cases r1;exact not_of (aJa ⟨.bl (!c),H1,I1,rfl,q1⟩)
def tIf(t:TT)(ta tb:TE):TE:=λσ H Q=>t σ H λc H1=>if c=true then ta σ H1 Q else tb σ H1 Q
theorem MG{c:Expr}(hc:PT X c tA)(ha:PE X a ta)(hb:PE X b tb):PE X (.IfExp c a b pos) (tIf tA ta tb):=by
 intro pins s σ H Q I h;refine wpAny_IfExp (cD (hc pins s σ H _ I h) λd s1 zz10=>?_);obtain⟨H1,I1,q1⟩:=zz10
 cases d with
 | true=>exact ha pins s1 σ H1 Q I1 q1
 | false=>exact hb pins s1 σ H1 Q I1 q1
end
def oH(K:aKd)(H:Hp)(a:Addr)(xs:List V):Prop:=
 Rd H a (.lst xs)\/
  ∃(o:Obj) (aI:Array Value) (n:Nat),K.lookup a=some o/\o.cls= .type "list"/\o.dict=none/\o.data= .seq aI n/\aI.size<=sizeLine/\Vals xs aI.toList
def oG(K:aKd)(H:Hp)(a:Addr)(xs:List V):Prop:=
 Rd H a (.tup xs)\/
  ∃(o:Obj) (aI:Array Value) (n:Nat),K.lookup a=some o/\o.cls= .type "tuple"/\o.dict=none/\o.data= .seq aI n/\aI.size<=sizeLine/\Vals xs aI.toList
def aG5:Value->Option V
 | .none=>some .b6
 | .bool b=>some (.bl b)
 | .int i _=>some (.int i)
 | .str x _=>some (.str x)
 | .bytes b _=>some (.byt b)
 | .float b _=>some (.flt b)
 | .ref a=>some (.ref a)
 | .type n=>some (.ty n)
 | _=>none
theorem RelV.abs{x:V}{u:Value}(r:RelV x u):aG5 u=some x:=by
 cases x with
 | b6=>cases r;rfl
 | bl _=>cases r;rfl
 | int _=>obtain⟨t,rfl⟩:=r;rfl
 | str _=>obtain⟨t,rfl⟩:=r;rfl
 | byt _=>obtain⟨t,rfl⟩:=r;rfl
 | flt _=>obtain⟨t,rfl⟩:=r;rfl
 | ref _=>cases r;rfl
 | ty _=>cases r;rfl
theorem RelV.inj{x y:V}{u:Value}(r:RelV x u)(q:RelV y u):x=y:=aGv (r.abs.symm.trans q.abs)
theorem Vals.inj:∀{xs ys:List V} {us:List Value},Vals xs us->Vals ys us->xs=ys
 | _,_,_,.nil,.nil=>rfl
 | _,_,_,.cons r t,.cons r' t' =>by rw[r.inj r',Vals.inj t t']
section
variable {X:Cx}{pins:List (Addr×Obj)}{σ:St}{H:Hp}{s:Shared}{a:Addr}{xs ys:List V}
theorem oH.of{K:aKd}(h:H a=some (.lst xs)):oH K H a xs:= .inl (.inl h)
theorem oG.of{K:aKd}(h:H a=some (.tup xs)):oG K H a xs:= .inl (.inl h)
theorem Inv.list(I:Inv X pins σ H s)(h:oH X.K H a xs):∃aI:List Value,Vals xs aI/\PlainL s.heap a aI.toArray/\xs.length<=sizeLine:=by
 rcases h with h | ⟨o,aI,n,hk,hc,hd,hs,hz,r⟩
 ·obtain⟨z,aI,n,r,e⟩:=h.ok I.bZ;exact⟨aI,r,⟨_,n,e,rfl,rfl,rfl⟩,z⟩
 ·refine⟨aI.toList,r,⟨o,n,I.YH a o hk,hc,hd,by simpa using hs⟩,?_⟩;have e:=r.length;simp only[Array.length_toList]at e
  lia
theorem Inv.tuple(I:Inv X pins σ H s)(h:oG X.K H a xs):∃aI:List Value,Vals xs aI/\IsTup s.heap a aI.toArray/\xs.length<=sizeLine:=by
 rcases h with h | ⟨o,aI,n,hk,hc,_,hs,hz,r⟩
 ·obtain⟨z,aI,r,p,_⟩:=h.ok I.bZ;exact⟨aI,r,p,z⟩
 ·refine⟨aI.toList,r,⟨o,I.YH a o hk,hc,n,by simpa using hs⟩,?_⟩;have e:=r.length;simp only[Array.length_toList]at e
  lia
theorem Inv.VB(I:Inv X pins σ H s)(h:oG X.K H a xs):∃ob,s.heap.get? a=some ob/\ob.cls= .type "tuple"/\ob.dict=none:=by
 rcases h with h | ⟨o,aI,n,hk,hc,hd,hs,hz,r⟩
 ·obtain⟨z,aI,r,⟨o,e,c,_⟩,nd⟩:=h.ok I.bZ;exact⟨o,e,c,nd o e⟩
 ·exact⟨o,I.YH a o hk,hc,hd⟩
theorem Inv.B7(I:Inv X pins σ H s)(h:oH X.K H a xs)(h' :oH X.K H a ys):xs=ys:=by
 obtain⟨aI,r,⟨o,n,e,_,_,d⟩,_⟩:=I.list h;obtain⟨its',r',⟨o',n',e',_,_,d'⟩,_⟩:=I.list h';rw[e]at e';cases e';rw[d]at d';injection d' with d1 _;have:aI=its' :=by simpa using aHk Array.toList d1
 subst this;exact r.inj r'
theorem Inv.wR(I:Inv X pins σ H s)(h:oG X.K H a xs)(h' :oG X.K H a ys):xs=ys:=by
 obtain⟨aI,r,⟨o,e,_,n,d⟩,_⟩:=I.tuple h;obtain⟨its',r',⟨o',e',_,n',d'⟩,_⟩:=I.tuple h';rw[e]at e';cases e';rw[d]at d';injection d' with d1 _;have:aI=its' :=by simpa using aHk Array.toList d1
 subst this;exact r.inj r'
end
abbrev Cx.vP(X:Cx)(E:aKe):Cx:={X with xe:=E}
abbrev Cx.PB(X:Cx):Cx:=X.vP λ_ _=>False
theorem Cx.Ok.vP{X:Cx}(ok:X.Ok)(E:aKe):(X.vP E).Ok:=
 ⟨ok.mod,ok.kind,ok.glob,ok.blt,ok.above,ok.inj,ok.has,ok.cab,ok.hd,ok.frames,ok.stk,ok.exf,ok.bs,ok.TF,ok.MN,ok.OI,ok.uX,ok.Z7⟩
theorem Cx.Ok.lB{X:Cx}{E:aKe}(ok:(X.vP E).Ok):X.Ok:=
 ⟨ok.mod,ok.kind,ok.glob,ok.blt,ok.above,ok.inj,ok.has,ok.cab,ok.hd,ok.frames,ok.stk,ok.exf,ok.bs,ok.TF,ok.MN,ok.OI,ok.uX,ok.Z7⟩
section
variable {X:Cx}{pins:List (Addr×Obj)}{σ:St}{H:Hp}{s:Shared}{E:aKe}
theorem Inv.vP(I:Inv X pins σ H s)(E:aKe):Inv (X.vP E) pins σ H s:=⟨I.ok.vP E,I.os,I.bare,I.base,I.loc,I.cell,I.free,I.lV,I.pin,I.bZ,I.len⟩
theorem Inv.lB(I:Inv (X.vP E) pins σ H s):Inv X pins σ H s:=⟨I.ok.lB,I.os,I.bare,I.base,I.loc,I.cell,I.free,I.lV,I.pin,I.bZ,I.len⟩
theorem SP.lB{D:Ends}{f:Flow}{s' :Shared}(h:SP (X.vP E) pins D f s'):SP X pins D f s' :=by
 cases f with
 | next=>obtain⟨σ',H',I,q⟩:=h;exact⟨σ',H',I.lB,q⟩
 | brk=>obtain⟨σ',H',I,q⟩:=h;exact⟨σ',H',I.lB,q⟩
 | cont=>obtain⟨σ',H',I,q⟩:=h;exact⟨σ',H',I.lB,q⟩
 | ret u=>obtain⟨v,σ',H',I,r,q⟩:=h;exact⟨v,σ',H',I.lB,r,q⟩
theorem AW.PB{st:List Stmt}{t:TS}(h:AW X.PB st t):AW X st t:=λpins s σ H D I hw=>
 aH6 (h pins s σ H D (I.vP _) hw) (λ_ _ q=>q.lB) λ_ _ z=>False.elim z
end
section
variable {X:Cx}{st:Stmt}{rest:List Stmt}{t u:TS}{e:Expr}{te:TE}{pos:Pos}
def aAr:TS:=λD σ H=>D.nx σ H
def aE4(t u:TS):TS:=λD σ H=>t {D with nx:=u D} σ H
theorem QW:AW X [] aAr:=λ_ _ σ H _ I h=>aJr ⟨σ,H,I,h⟩
theorem L6(h1:PS X st t)(h2:AW X rest u):AW X (st::rest) (aE4 t u):=by
 intro pins s σ H D I h;refine wpAny_execs_cons (cD (h1 pins s σ H {D with nx:=u D} I h) λf s1 q=>?_)
 cases f with
 | next=>
  obtain⟨σ',H',I',q⟩:=q;exact h2 pins s1 σ' H' D I' q
 | ret v=>exact q
 | brk=>exact q
 | cont=>exact q
theorem QV(h1:PS X st t):AW X [st] t:=by
 intro pins s σ H D I h;refine wpAny_execs_cons (cD (h1 pins s σ H D I h) λf s1 q=>?_)
 cases f with
 | next=>exact aJr q
 | ret v=>exact q
 | brk=>exact q
 | cont=>exact q
def aAt:TS:=λD σ H=>D.ct σ H
theorem BO:PS X (.Continue pos) aAt:=λ_ _ σ H _ I h=>wpAny_Continue ⟨σ,H,I,h⟩
theorem Inv.quiet{pins:List (Addr×Obj)}{σ:St}{H:Hp}{s:Shared}(I:Inv X pins σ H s):interactive X.env=false:=by simp[interactive,I.ok.kind]
def aAs(te:TE):TS:=λD σ H=>te σ H λ_ H1=>D.nx σ H1
theorem QX(he:PE X e te)(hs:swapsWith e none pos.line X.env=pure false:=by rfl):PS X (.Expr e pos) (aAs te):=by
 intro pins s σ H D I h;exact wpAny_Expr_any (cD (he pins s σ H _ I h) λv s1 zz13=>by obtain⟨x,H1,I1,r1,q1⟩:=zz13;exact⟨σ,H1,I1,q1⟩) I.quiet hs
def aE5(te:TE):TS:=λD σ H=>te σ H D.rt
theorem V0(he:PE X e te):PS X (.Return (some e) pos) (aE5 te):=by
 intro pins s σ H D I h;exact wpAny_Return_some (cD (he pins s σ H _ I h) λv s1 zz14=>by obtain⟨x,H1,I1,r1,q1⟩:=zz14;exact⟨x,σ,H1,I1,r1,q1⟩)
def aEa(c:TT)(t u:TS):TS:=λD σ H=>c σ H λb H1=>if b=true then t D σ H1 else u D σ H1
theorem aBd{c:Expr}{a b:List Stmt}{tc:TT}(hc:PT X c tc)(ha:AW X a t)(hb:AW X b u):PS X (.If c a b pos) (aEa tc t u):=by
 intro pins s σ H D I h;refine wpAny_If (cD (hc pins s σ H _ I h) λd s1 zz15=>?_);obtain⟨H1,I1,q1⟩:=zz15
 cases d with
 | true=>exact ha pins s1 σ H1 D I1 q1
 | false=>exact hb pins s1 σ H1 D I1 q1
end
abbrev TG:=V->St->Hp->(St->Hp->Prop)->Prop
abbrev DQ:=List V->St->Hp->(St->Hp->Prop)->Prop
def PG(X:Cx)(target:Expr)(t:TG):Prop:=
 ∀(pins:List (Addr×Obj)) (s:Shared) (σ:St) (H:Hp) (v:V) (u:Value) (Q:St->Hp->Prop),Inv X pins σ H s->RelV v u->t v σ H Q->
  wpAny (model X.prog X.w) X.A (assign target X.env u) (λ_ s' =>∃σ' H',Inv X pins σ' H' s' /\Q σ' H') X.xe s
def ZT(X:Cx)(ts:List Expr)(t:DQ):Prop:=
 ∀(pins:List (Addr×Obj)) (s:Shared) (σ:St) (H:Hp) (vs:List V) (us:List Value) (Q:St->Hp->Prop),Inv X pins σ H s->Vals vs us->t vs σ H Q->
  wpAny (model X.prog X.w) X.A (assignInOrder ((assignEach ts X.env).map (·.2)) us) (λ_ s' =>∃σ' H',Inv X pins σ' H' s' /\Q σ' H') X.xe s
abbrev ZS:=V->V->V->Hp->(Hp->Prop)->Prop
def aD0(X:Cx)(t:ZS):Prop:=
 ∀(pins:List (Addr×Obj)) (s:Shared) (σ:St) (H:Hp) (o i v:V) (ov iv u:Value) (Q:Hp->Prop),Inv X pins σ H s->RelV o ov->RelV i iv->RelV v u->t o i v H Q->
  wpAny (model X.prog X.w) X.A (setItem ov iv u) (λ_ s' =>∃H',Inv X pins σ H' s' /\Q H') X.xe s
abbrev TIp:=V->V->Hp->VK->Prop
def PIp(X:Cx)(op:Operator)(t:TIp):Prop:=
 ∀(pins:List (Addr×Obj)) (s:Shared) (σ:St) (H:Hp) (x y:V) (v u:Value) (Q:VK),Inv X pins σ H s->RelV x v->RelV y u->t x y H Q->
  wpAny (model X.prog X.w) X.A (inplaceOp op v u) (EP X pins σ Q) X.xe s
section
variable {X:Cx}{pos:Pos}
def pR(i:Nat):TG:=λv σ H Q=>Q (σ.set i (some v)) H
theorem Q4{i:Nat}{x:Str}(hN:X.N.Nodup)(hi:X.N[i]? =some x)(hx:Loc X.env.scope x)(hf:X.fn x=true\/X.env.scope.names.lookup x=some .local:=by first | exact .inl rfl | exact .inr rfl | assumption):PG X (.Name x pos) (pR i):=by
 intro pins s σ H v u Q I r h;exact wpAny_assign_Name (lE I hN hi hx r (λs' I' =>⟨_,H,I',h⟩) hf)
def JP:DQ:=λvs σ H Q=>vs=[]/\Q σ H
def xT(t:TG)(u:DQ):DQ:=λvs σ H Q=>∃v r,vs=v::r/\t v σ H λσ' H' =>u r σ' H' Q
theorem Q3:ZT X [] JP:=by
 intro pins s σ H vs us Q I r h;obtain⟨e,h⟩:=h;subst e;cases r;exact assignInOrder_nil ⟨σ,H,I,h⟩
theorem MD{e:Expr}{es:List Expr}{t:TG}{u:DQ}(h1:PG X e t)(h2:ZT X es u)
  (hs:(assignEach (e::es) X.env).map (·.2)=assign e X.env::(assignEach es X.env).map (·.2):=by rfl):ZT X (e::es) (xT t u):=by
 intro pins s σ H vs us Q I r h;obtain⟨v,vr,e1,h⟩:=h;subst e1
 cases r with
 | cons r rr=>
  rw[hs];refine assignInOrder_cons (cD (h1 pins s σ H _ _ _ I r h) λ_ s1 zz16=>?_);obtain⟨σ1,H1,I1,q1⟩:=zz16;exact h2 pins s1 σ1 H1 _ _ Q I1 rr q1
def S2(K:aKd)(n:Nat)(t:DQ):TG:=λv σ H Q=>∃a xs,v= .ref a/\oG K H a xs/\xs.length=n/\t xs σ H Q
theorem V5{es:List Expr}{k:Nat}{t:DQ}{n:Nat}(hc:X.calm=true)(h:ZT X es t)
  (hn:(assignEach es X.env).length=n:=by rfl) (hst:(assignEach es X.env).findIdx? (·.1)=none:=by rfl):PG X (.Tuple es k pos) (S2 X.K n t):=by
 intro pins s σ H v u Q I r hw;obtain⟨a,xs,e1,hq,hl,hw⟩:=hw;subst e1;cases r;obtain⟨aI,rv,ht,hz⟩:=I.tuple hq;refine assign_Tuple_tuple (I.ok.hd hc) ht (by simp[hn,<-hl,rv.length]) hst λh' hx=>?_;have I1:Inv X pins σ H {s with heap:=h'}:=I.kept (t' :=s.toks) λb o e=>hx b o (aGu (aGl e)) e;exact h pins _ σ H xs _ Q I1 (by simpa using rv) hw
def aFt(to ti:TE)(t:ZS):TG:=λv σ H Q=>to σ H λo H1=>ti σ H1 λi H2=>t o i v H2 λH3=>Q σ H3
theorem V6{o i:Expr}{to ti:TE}{t:ZS}(ho:PE X o to)(hi:PE X i ti)(hs:aD0 X t)
  (ha:∀v,assign (.Subscript o i pos) X.env v=(do
   let ov<-holding [v] (eval o X.env)
   let iv<-holding [v,ov] (eval i X.env)
   standAt pos
   holding [v,ov,iv] (setItem ov iv v)
   release [v,ov,iv] []):=by intro _;rfl):PG X (.Subscript o i pos) (aFt to ti t):=by
 intro pins s σ H v u Q I r h;rw[ha];refine aGb (aH7 (cD (ho pins s σ H _ I h) λov s1 zz17=>?_));obtain⟨x,H1,I1,r1,q1⟩:=zz17;refine aGb (aH7 (cD (hi pins s1 σ H1 _ I1 q1) λiv s2 zz18=>?_));obtain⟨y,H2,I2,r2,q2⟩:=zz18;refine aGb (aI8 (aGb (aH7 (cD (hs pins s2 σ H2 x y v ov iv u _ I2 r1 r2 r q2) λ_ s3 zz19=>?_))));obtain⟨H3,I3,q3⟩:=zz19;exact wpAny_release ⟨σ,H3,I3,q3⟩
def QB(te:TE)(g:TG):TS:=λD σ H=>te σ H λx H1=>g x σ H1 D.nx
theorem L9{tg e:Expr}{te:TE}{g:TG}(he:PE X e te)(hg:PG X tg g)(hs:swapsWithSole [tg] e pos.line X.env=pure false:=by rfl)(hw:swappedStores [tg] e X.env=pure none:=by rfl)
  (h1:(assignEach [tg] X.env).map (·.2)=[assign tg X.env]:=by rfl):PS X (.Assign [tg] e pos) (QB te g):=by
 intro pins s σ H D I h;refine wpAny_Assign_stores (cD (he pins s σ H _ I h) λv s1 ⟨x,H1,I1,r1,q1⟩=>?_) hs hw;rw[h1];exact cD (hg pins s1 σ H1 x v _ I1 r1 q1) λ_ s2 q=>q
theorem VZ{i:Nat}{x:Str}{e:Expr}{te:TE}{pos' :Pos}(hN:X.N.Nodup)(hi:X.N[i]? =some x)(hx:Loc X.env.scope x)(he:PE X e te)(hs:swapsWith e (some (.Name x pos')) pos.line X.env=pure false:=by rfl)(hf:X.fn x=true\/X.env.scope.names.lookup x=some .local:=by first | exact .inl rfl | exact .inr rfl | assumption):
  PS X (.Assign [.Name x pos'] e pos) (QB te (pR i)):=by
 intro pins s σ H D I h;refine wpAny_Assign_Name (cD (he pins s σ H _ I h) λv s1 ⟨y,H1,I1,r1,q1⟩=>?_) hs;exact lE I1 hN hi hx r1 (λs2 I2=>⟨_,H1,I2,q1⟩) hf
def aE6(i j:Nat)(ta:TA):TS:=λD σ H=>ta σ H λvs H1=>∃v w,vs=[v,w]/\D.nx ((σ.set i (some v)).set j (some w)) H1
theorem V1{i j:Nat}{x y:Str}{a b:Expr}{ta:TA}{px py pt:Pos}{kt k2 pt2}(hc:X.calm=true)(hN:X.N.Nodup)(hi:X.N[i]? =some x)(hj:X.N[j]? =some y)(hij:i≠j)
  (hx:X.env.scope.names.lookup x=some .local) (hy:X.env.scope.names.lookup y=some .local) (ha:PA X [a,b] ta)
  (hw:swappedStores [.Tuple [.Name x px,.Name y py] kt pt] (.Tuple [a,b] k2 pt2) X.env=pure (some [x,y]))
  (hs:swapsWithSole [.Tuple [.Name x px,.Name y py] kt pt] (.Tuple [a,b] k2 pt2) pos.line X.env=pure false:=by rfl):
  PS X (.Assign [.Tuple [.Name x px,.Name y py] kt pt] (.Tuple [a,b] k2 pt2) pos) (aE6 i j ta):=by
 intro pins s σ H D I h;rw[exec_Assign_arm];refine aGb (aI8 ?_);rw[hs];refine aGb (aGd ?_);rw[if_neg (by decide)];refine aGb (Tuple_ (cD (ha _ pins s σ H _ I h) λus s1 zz20=>?_));obtain⟨vs,H1,I1,r1,q1⟩:=zz20;obtain⟨v,w,e1,q1⟩:=q1;subst e1
 obtain⟨u1,u2,rfl,rv,rw'⟩:∃u1 u2,us=[u1,u2]/\RelV v u1/\RelV w u2:=by
  cases r1 with
  | cons p q=>
   cases q with
   | cons p' q' =>
    cases q';exact⟨_,_,rfl,p,p'⟩
 refine aH3 ?_ (by show 2<=sizeLine;decide);have I2:Inv X pins σ H1 {s1 with heap:=s1.heap.push {cls:= .type "tuple",data:= .seq [u1,u2].toArray}}:=I1.kept (t' :=s1.toks) λb o e=>aGe _ e;rw[hw];refine aGb (aGd ?_);show wpAny (model X.prog X.w) X.A (do rule "assign.swapped-stores";let items<-unpackItems (.ref s1.heap.objs.size) 2 none;assignInOrder [λv=>bindName X.env y v,λv=>bindName X.env x v] items.reverse;pure Flow.next) _ _ _;refine aGb (aHg (aGb (unpackItems_tuple (items:= #[u1,u2]) (I.ok.hd hc) (IsTup.new s1.heap _) λh' hx' =>?_)));have I3:=I2.kept (h' :=h') (t' :=s1.toks) λb o e=>hx' b o (aGu (aGl e)) e;show wpAny _ _ (assignInOrder [λv=>bindName X.env y v,λv=>bindName X.env x v] [u2,u1] >>=λ_=>pure Flow.next) _ _ _;refine aGb (assignInOrder_cons (wpAny_bindName (lE I3 hN hj (.inl hy) rw' (λs2 I4=>?_) (.inr hy))));refine assignInOrder_cons (wpAny_bindName (lE I4 hN hi (.inl hx) rv (λs3 I5=>assignInOrder_nil (aGd ?_)) (.inr hx)));rw[List.set_comm _ _ (Ne.symm hij)]at I5;exact⟨_,H1,I5,q1⟩
def aEc(i:Nat)(te:TE)(ti:TIp):TS:=λD σ H=>∃x,σ[i]? =some (some x)/\te σ H λy H1=>ti x y H1 λz H2=>D.nx (σ.set i (some z)) H2
theorem V3{i:Nat}{x:Str}{e:Expr}{te:TE}{op:Operator}{ti:TIp}{pos' :Pos}(hN:X.N.Nodup)(hi:X.N[i]? =some x)(hx:Loc X.env.scope x)(he:PE X e te)(ho:PIp X op ti)(hf:X.fn x=true\/X.env.scope.names.lookup x=some .local:=by first | exact .inl rfl | exact .inr rfl | assumption):
  PS X (.AugAssign (.Name x pos') op e pos) (aEc i te ti):=by
 intro pins s σ H D I h;obtain⟨v,e1,h⟩:=h;obtain⟨m,hn,hl⟩:=I.loc;have vis:Vis X.env.scope x:=by rcases hx with k | k;exact .inl k;exact .inr (.inl k)
 obtain⟨u,r,l⟩:=hl i x v hi e1 vis;refine wpAny_AugAssign_Name ?_
 have go:wpAny (model X.prog X.w) X.A (eval e X.env) (λw s₂=>wpAny (model X.prog X.w) X.A (inplaceOp op u w) (λr s₃=>wpAny (model X.prog X.w) X.A (storeName X.env x r) (λ_=>SP X pins D .next) X.xe s₃) X.xe s₂) X.xe s:=by
  refine cD (he pins s σ H _ I h) λw s1 zz21=>?_;obtain⟨y,H1,I1,r1,q1⟩:=zz21;refine cD (ho pins s1 σ H1 v y u w _ I1 r r1 q1) λz s2 zz22=>?_;obtain⟨zv,H2,I2,r2,q2⟩:=zz22;exact lE I2 hN hi hx r2 (λs3 I3=>⟨_,H2,I3,q2⟩) hf
 rcases l with ⟨hk,hm⟩ | ⟨hk,c,hc,hcell⟩
 ·exact wpAny_loadName_local I.ok.kind hk hn hm go
 ·rcases hk with hk | hk
  ·exact wpAny_loadName_cell I.ok.kind hk hc hcell go
  ·rcases hx with k | k
   ·have:X.env.scope.names.lookup x=some .free:=hk;rw[k]at this;cases this
   ·have:X.env.scope.names.lookup x=some .free:=hk;rw[k]at this;cases this
end
section
variable {X:Cx}{pos:Pos}
def VH(c:TT)(tb:TS):TS:=λD σ H=>∃W:Nat->St->Hp->Prop,(∃m,W m σ H)/\∀m σ H,W m σ H->
 c σ H λb H1=>if b=true then ∃N:St->Hp->Prop,(∀σ' H',N σ' H' ->∃m',m'<m/\W m' σ' H')/\tb {D with nx:=N,ct:=N,bk:=D.nx} σ H1 else D.nx σ H1
theorem L7{c:Expr}{body:List Stmt}{tc:TT}{tb:TS}(hp:PassesOwn (model X.prog X.w) X.A X.env X.xe)(hc:PT X c tc)(hb:AW X body tb):PS X (.While c body [] pos) (VH tc tb):=by
 intro pins s σ H D I h;obtain⟨W,⟨m0,w0⟩,turn⟩:=h;refine wpAny_While (codeAny_whileLoop (λn s' =>∃σ' H',Inv X pins σ' H' s' /\W n σ' H') ?_ m0 ⟨σ,H,I,w0⟩);rintro n s1 ⟨σ1,H1,I1,w1⟩;refine aIg hp (cD (hc pins s1 σ1 H1 _ I1 (turn n σ1 H1 w1)) λb s2 zz28=>?_);obtain⟨H2,I2,q2⟩:=zz28
 cases b with
 | true=>
  obtain⟨N,hN,q2⟩:=q2;rw[if_pos rfl];refine aIg hp (cD (hb pins s2 σ1 H2 _ I2 q2) λf s3 q3=>?_)
  cases f with
  | next=>
   obtain⟨σ3,H3,I3,n3⟩:=q3;obtain⟨m',hm,w3⟩:=hN σ3 H3 n3;exact⟨m',hm,σ3,H3,I3,w3⟩
  | cont=>
   obtain⟨σ3,H3,I3,n3⟩:=q3;obtain⟨m',hm,w3⟩:=hN σ3 H3 n3;exact⟨m',hm,σ3,H3,I3,w3⟩
  | brk=>exact q3
  | ret v=>exact q3
 | false=>
  rw[if_neg Bool.false_ne_true];exact aJr ⟨σ1,H2,I2,q2⟩
end
structure It where
 go:Nat->Hp->Prop
 ZX:Nat->Hp->V->Hp->Prop
 stop:Nat->Hp->Prop
def mZ(X:Cx)(pins:List (Addr×Obj))(H:Hp)(b:Addr):Prop:=
 H b=none/\b≠X.env.locals/\b∉X.fs/\(b∈X.ex\/X.s₀.heap.objs.size<=b)/\(∀x c,X.env.cells.lookup x=some c->c≠b)/\∀p∈X.pn++pins,p.1≠b
theorem Inv.OG{X:Cx}{pins:List (Addr×Obj)}{σ:St}{H H' :Hp}{s:Shared}{b:Addr}(I:Inv X pins σ H s)(hb:s.heap.objs.size<=b)(hn:H' b=none):mZ X pins H' b:=by
 refine⟨hn,aIz (aGz I.lt hb),I.aFc hb,.inr (aH5 I.sz hb),λx c e z=>?_,λp hp z=>?_⟩
 ·obtain⟨v,q⟩:=I.cell x c e;exact absurd (aGz q.lt (by rw[z];exact hb)) (aHx _)
 ·exact absurd (aGz (aGl (I.pin p hp).1) (by rw[z];exact hb)) (aHx _)
structure Turn(P:Program)(w:World)(K:aKd)(tg:Expr)(J:It)(fp:List Addr)(it:Addr)(tn:Nat->Heap->Prop):Prop where
 mem:it∈fp
 obj:∀i h,tn i h->∀b∈fp,∃o,h.get? b=some o/\∀v,o.data≠ .cell v
 keep:∀i h h',tn i h->(∀b∈fp,∀o,h.get? b=some o->h'.get? b=some o)->tn i h'
 item:∀(X:Cx),X.prog=P->X.w=w->X.K=K->X.calm=true->∀(i:Nat) (pins:List (Addr×Obj)) (s:Shared) (σ:St) (H:Hp) (E:aKe),Inv X pins σ H s->(∀b∈fp,mZ X pins H b)->tn i s.heap->J.go i H->
  wpAny (model P w) X.A (pyNext (.ref it)) (λr s1=>∃u,r=some u/\
   wpAny (model P w) X.A (letOwnedTupleGo tg (.ref it) u) (λ_ s2=>∃x H',Inv X pins σ H' s2/\RelV x u/\J.ZX i H x H' /\tn (i+1) s2.heap/\∀b∈fp,H' b=none) E s1) E s
 done:∀(X:Cx),X.prog=P->X.w=w->X.K=K->X.calm=true->∀(i:Nat) (pins:List (Addr×Obj)) (s:Shared) (σ:St) (H:Hp) (E:aKe),Inv X pins σ H s->(∀b∈fp,mZ X pins H b)->tn i s.heap->J.stop i H->
  wpAny (model P w) X.A (pyNext (.ref it)) (λr s1=>r=none/\Inv X pins σ H s1) E s
 self:∀(A:Around) (i:Nat) (s:Shared) (Q:aKe) (E:aKe),tn i s.heap->Q (.ref it) s->wpAny (model P w) A (pyIter (.ref it)) Q E s
abbrev TI:=St->Hp->(It->Hp->Prop)->Prop
def PIE(X:Cx)(pins:List (Addr×Obj))(σ:St)(tg:Expr)(R:It->Hp->Prop)(itv:Value)(s2:Shared):Prop:=
 ∃(it:Addr) (fp:List Addr) (tn:Nat->Heap->Prop) (J:It) (H' :Hp),itv= .ref it/\Inv X pins σ H' s2/\Turn X.prog X.w X.K tg J fp it tn/\tn 0 s2.heap/\(∀b∈fp,mZ X pins H' b)/\R J H'
def PI(X:Cx)(tg iter:Expr)(wi:TI):Prop:=
 ∀(pins:List (Addr×Obj)) (s:Shared) (σ:St) (H:Hp) (R:It->Hp->Prop),Inv X pins σ H s->wi σ H R->
  wpAny (model X.prog X.w) X.A (eval iter X.env) (λv s1=>wpAny (model X.prog X.w) X.A (pyIter v) (PIE X pins σ tg R) X.xe s1) X.xe s
theorem OC{M:Model}{A:Around}{E:aKe}{s:Shared}{tg:Expr}{it:Addr}{u:Value}{o:Obj}{n:String}{vs:Array Value}{Q:Unit->Shared->Prop}(ho:s.heap.get? it=some o)(hc:o.cls= .type n)(hd:o.data= .fields vs)
    (hn:["enumerate","zip","dict_itemiterator","dict_reverseitemiterator","odict_iterator","itertools.zip_longest","itertools.pairwise"].contains n=false) (hQ:Q () s):wpAny M A (letOwnedTupleGo tg (.ref it) u) Q E s:=by
  unfold letOwnedTupleGo
  cases tg <;> first
    | exact aGd hQ
    | (cases u <;> first
        | exact aGd hQ
        | (refine aGb (aK0 ho ?_)
           rw[hc,hd];show wpAny M A (if (["enumerate","zip","dict_itemiterator","dict_reverseitemiterator","odict_iterator","itertools.zip_longest","itertools.pairwise"].contains n && vs[0]? ==some (rawInt _))=true then _ else _) Q E s;rw[if_neg (by intro h;rw[hn,Bool.false_and]at h;cases h)]
           exact aGd hQ))
def Itl(K:aKd)(a:Addr):It:=
 ⟨λi H=>∃xs x,oH K H a xs/\xs[i]? =some x,λi H x H' =>H' =H/\∀xs,oH K H a xs->xs[i]? =some x,λi H=>∃xs,oH K H a xs/\xs.length<=i⟩
def Itt(K:aKd)(a:Addr):It:=
 ⟨λi H=>∃xs x,oG K H a xs/\xs[i]? =some x,λi H x H' =>H' =H/\∀xs,oG K H a xs->xs[i]? =some x,λi H=>∃xs,oG K H a xs/\xs.length<=i⟩
def Itr(lo:Int)(n:Nat):It:=⟨λi _=>i<n,λi H x H' =>H' =H/\x= .int (lo+i),λi _=>n<=i⟩
theorem HV{P:Program}{w:World}{K:aKd}{tg:Expr}(a it:Addr):Turn P w K tg (Itl K a) [it] it (λi h=>h.IsListIter it a i) where
 mem:=by simp
 obj:=λi h st b hb=>by
  have e:b=it:=by simpa using hb
  subst e;obtain⟨o,e,c,d⟩:=st;exact⟨o,e,λv z=>by rw[d]at z;cases z⟩
 keep:=λi h h' st k=>st.at λo e=>k it (by simp) o e
 item:=by
  intro X hP hw hK hc i pins s σ H E I hf st hg;subst hP hw hK;obtain⟨xs,x,hq,hx⟩:=hg;obtain⟨aI,rv,p,hz⟩:=I.list hq;obtain⟨u,hu,ru⟩:=rv.get hx;obtain⟨f0,f1,f2,f3,f4,f5⟩:=hf it (by simp);refine wpAny_pyNext_list_item st p.isList (x:=u) (by simpa using hu) λh' st' sb=>?_;have I1:Inv X pins σ H {s with heap:=h'}:=I.turned (t' :=s.toks) (λb o hb e=>(sb.2 b hb).trans e) f0 f1 f3 f4 f5;obtain⟨o,e,c,d⟩:=id st';exact⟨u,rfl,OC (s:={s with heap:=h'}) e c d (by decide) ⟨x,H,I1,ru,⟨rfl,λys hy=>by rw[I.B7 hy hq];exact hx⟩,st',λb hb=>(hf b hb).1⟩⟩
 done:=by
  intro X hP hw hK hc i pins s σ H E I hf st hg;subst hP hw hK;obtain⟨xs,hq,hx⟩:=hg;obtain⟨aI,rv,p,hz⟩:=I.list hq;obtain⟨f0,f1,f2,f3,f4,f5⟩:=hf it (by simp);have hl:=rv.length
  exact wpAny_pyNext_list_end (I.ok.hd hc) st p.isList (by simp;lia) λh' eb=>⟨rfl,I.turned (t' :=s.toks) (λb o hb e=>eb b o hb e) f0 f1 f3 f4 f5⟩
 self:=λ_ _ _ _ _ st h=>wpAny_pyIter_listiter st h
theorem DX{P:Program}{w:World}{K:aKd}{tg:Expr}(a it:Addr):Turn P w K tg (Itt K a) [it] it (λi h=>h.IsTupleIter it a i) where
 mem:=by simp
 obj:=λi h st b hb=>by
  have e:b=it:=by simpa using hb
  subst e;obtain⟨o,e,c,d⟩:=st;exact⟨o,e,λv z=>by rw[d]at z;cases z⟩
 keep:=λi h h' st k=>st.at λo e=>k it (by simp) o e
 item:=by
  intro X hP hw hK hc i pins s σ H E I hf st hg;subst hP hw hK;obtain⟨xs,x,hq,hx⟩:=hg;obtain⟨aI,rv,p,hz⟩:=I.tuple hq;obtain⟨u,hu,ru⟩:=rv.get hx;obtain⟨f0,f1,f2,f3,f4,f5⟩:=hf it (by simp);refine wpAny_pyNext_tuple_item st (show s.heap.IsTuple a aI.toArray from p) (x:=u) (by simpa using hu) λh' st' sb=>?_;have I1:Inv X pins σ H {s with heap:=h'}:=I.turned (t' :=s.toks) (λb o hb e=>(sb.2 b hb).trans e) f0 f1 f3 f4 f5;obtain⟨o,e,c,d⟩:=id st';exact⟨u,rfl,OC (s:={s with heap:=h'}) e c d (by decide) ⟨x,H,I1,ru,⟨rfl,λys hy=>by rw[I.wR hy hq];exact hx⟩,st',λb hb=>(hf b hb).1⟩⟩
 done:=by
  intro X hP hw hK hc i pins s σ H E I hf st hg;subst hP hw hK;obtain⟨xs,hq,hx⟩:=hg;obtain⟨aI,rv,p,hz⟩:=I.tuple hq;obtain⟨f0,f1,f2,f3,f4,f5⟩:=hf it (by simp);have hl:=rv.length
  exact wpAny_pyNext_tuple_end (I.ok.hd hc) st (show s.heap.IsTuple a aI.toArray from p) (by simp;lia) λh' eb=>⟨rfl,I.turned (t' :=s.toks) (λb o hb e=>eb b o hb e) f0 f1 f3 f4 f5⟩
 self:=λ_ _ _ _ _ st h=>wpAny_pyIter_tupleiter st h
theorem DY{P:Program}{w:World}{K:aKd}{tg:Expr}(it:Addr)(lo:Int)(n:Nat):Turn P w K tg (Itr lo n) [it] it (λi h=>IsRangeIter h it (lo+(i:Nat)*1) ((n:Int)-(i:Nat)) 1) where
 mem:=by simp
 obj:=λi h st b hb=>by
  have e:b=it:=by simpa using hb
  subst e
  exact⟨_,st,λv z=>by
   have z' :Data.fields _=Data.cell v:=z
   cases z'⟩
 keep:=λi h h' st k=>k it (by simp) _ st
 item:=by
  intro X hP hw hK hc i pins s σ H E I hf st hg;subst hP hw hK;obtain⟨f0,f1,f2,f3,f4,f5⟩:=hf it (by simp);have W:=Walks.range (prog:=X.prog) (w:=X.w) (I.ok.hd hc) it lo 1 n;refine W.item i s _ _ hg st λv h' tk hv st' kk=>?_;obtain⟨t,rfl⟩:=hv;have I1:Inv X pins σ H {s with heap:=h',toks:=tk}:=I.turned (λb o hb e=>kk b o (by simpa using hb) e) f0 f1 f3 f4 f5;refine⟨_,rfl,OC (s:={s with heap:=h',toks:=tk}) (n:= "range_iterator") st' rfl rfl (by decide) ⟨.int (lo+i),H,I1,⟨t,?_⟩,⟨rfl,rfl⟩,st',λb hb=>(hf b hb).1⟩⟩;rw[Int.mul_one]
 done:=by
  intro X hP hw hK hc i pins s σ H E I hf st hg;subst hP hw hK;obtain⟨f0,f1,f2,f3,f4,f5⟩:=hf it (by simp)
  exact wpAny_pyNext_range_end (I.ok.hd hc) st (by have:n<=i:=hg;lia) λh' eb=>⟨rfl,I.turned (t' :=s.toks) (λb o hb e=>eb b o hb e) f0 f1 f3 f4 f5⟩
 self:=λ_ _ _ _ _ st h=>wpAny_pyIter_rangeiter st h
section
variable {X:Cx}{tg:Expr}
theorem L3{pins:List (Addr×Obj)}{σ:St}{H:Hp}{s:Shared}{R:It->Hp->Prop}{E:aKe}{lo hi:Int}{t u v:Tok}{tk:Nat}(I:Inv X pins σ H s)(h1: -(2^62)<=lo)(h2:lo<2^62)(h3: -(2^62)<=hi)(h4:hi<2^62)
  (q:R (Itr lo (hi-lo).toNat) H):wpAny (model X.prog X.w) X.A (pyIter (.ref s.heap.objs.size)) (PIE X pins σ tg R) E {s with heap:=s.heap.push {cls:= .type "range",data:= .fields #[.int lo t,.int hi u,.int 1 v]},toks:=tk}:=by
 refine wpAny_pyIter_range (IsRange.new ..) (small_one h1 h2 h3 h4) ?_;have I1:Inv X pins σ H {s with heap:=s.heap.push {cls:= .type "range",data:= .fields #[.int lo t,.int hi u,.int 1 v]},toks:=tk}:=I.kept λb o e=>aGe _ e
 refine⟨(s.heap.push {cls:= .type "range",data:= .fields #[.int lo t,.int hi u,.int 1 v]}).objs.size,[(s.heap.push {cls:= .type "range",data:= .fields #[.int lo t,.int hi u,.int 1 v]}).objs.size],_,_,H,rfl,
  I1.kept (t' :=tk) λb o e=>aGe _ e,DY _ lo (hi-lo).toNat,?_,λb hb=>?_,q⟩
 ·have e1:lo+((0:Nat):Int)*1=lo:=by simp
  have e2:(((hi-lo).toNat:Nat):Int)-((0:Nat):Int)=Builtin.Range.rangeSize lo hi 1:=by rw[rangeSize_one];split <;> lia
  show IsRangeIter _ _ (lo+((0:Nat):Int)*1) ((((hi-lo).toNat:Nat):Int)-((0:Nat):Int)) 1;rw[e1,e2];exact aGj _ rfl
 ·have e:b=(s.heap.push {cls:= .type "range",data:= .fields #[.int lo t,.int hi u,.int 1 v]}).objs.size:=by simpa using hb
  subst e;exact I1.OG (aGi _) (I1.bZ.fresh (aGi _))
def aCi(ta:TA):TI:=λσ H R=>ta σ H λvs H1=>∃j:Int,vs=[.int j]/\ -(2^62)<=j/\j<2^62/\R (Itr 0 j.toNat) H1
theorem IK{a:Expr}{ta:TA}{p pos:Pos}(hg:Gl X "range")(hm:X.mg "range"=none)(ha:PA X [a] ta)(hs:starEach [a] X.env=[(false,eval a X.env)]:=by rfl):PI X tg (.Call (.Name "range" p) [a] [] pos) (aCi ta):=by
 intro pins s σ H R I h;refine Call_ (nZ I hg hm boot_range (aHw (cD (ha pos pins s σ H _ I h) λus s1 ⟨vs,H1,I1,r1,q1⟩=>?_) hs rfl));obtain⟨j,e,q1,q2,q⟩:=q1;subst e
 cases r1 with
 | cons r rr=>
  cases rr;obtain⟨t,rfl⟩:=r;exact call_range_1 (L3 I1 (by lia) (by lia) q1 q2 (by simpa using q))
def aEb(wi:TI)(g:TG)(tb:TS):TS:=λD σ H=>wi σ H λJ H1=>∃W:Nat->Nat->St->Hp->Prop,(∃m,W 0 m σ H1)/\∀i m σ H,W i m σ H->
 (J.stop i H/\D.nx σ H)\/(J.go i H/\∃N:St->Hp->Prop,(∀σ' H',N σ' H' ->∃m',m'<m/\W (i+1) m' σ' H')/\∀x H',J.ZX i H x H' ->g x σ H' λσ2 H2=>tb {D with nx:=N,ct:=N,bk:=D.nx} σ2 H2)
def qH(fp:List Addr)(h:Heap):List (Addr×Obj):=fp.filterMap λb=>(h.get? b).map λo=>(b,o)
theorem eT{fp:List Addr}{h:Heap}{b:Addr}{o:Obj}(hb:b∈fp)(e:h.get? b=some o):(b,o)∈qH fp h:=List.mem_filterMap.mpr ⟨b,hb,by rw[e];rfl⟩
theorem IP{fp:List Addr}{h:Heap}{p:Addr×Obj}(hp:p∈qH fp h):p.1∈fp/\h.get? p.1=some p.2:=by
 obtain⟨b,hb,e⟩:=List.mem_filterMap.mp hp
 cases q:h.get? b with
 | none=>rw[q]at e;cases e
 | some o=>
  rw[q]at e;have e' :(b,o)=p:=aGv e;subst e';exact⟨hb,q⟩
theorem Inv.pinned{pins:List (Addr×Obj)}{σ:St}{H:Hp}{s:Shared}{fp:List Addr}(I:Inv X pins σ H s)(hf:∀b∈fp,mZ X pins H b)(ho:∀b∈fp,∃o,s.heap.get? b=some o/\∀v,o.data≠ .cell v):Inv X (pins++qH fp s.heap) σ H s:=
 I.GP λp hp=>(aGh.mp hp).elim (λz=>I.pin p (aGs _ z)) λz=>by
  obtain⟨hb,e⟩:=IP z;obtain⟨f0,f1,f2,_⟩:=hf p.1 hb;obtain⟨o,e',d⟩:=ho p.1 hb;rw[e]at e';cases e';exact⟨e,f0,f1,f2,d⟩
theorem Inv.lC{pins pl:List (Addr×Obj)}{σ:St}{H:Hp}{s:Shared}(I:Inv X (pins++pl) σ H s):Inv X pins σ H s:=I.GP λp hp=>I.pin p (aGs _ (aHj _ hp))
theorem V2{iter:Expr}{body:List Stmt}{wi:TI}{g:TG}{tb:TS}{pos:Pos}(hp:PassesOwn (model X.prog X.w) X.A X.env X.xe)(hc:X.calm=true)(hi:PI X tg iter wi)(hg:PG X tg g)(hb:AW X body tb)
  (hs:∀x,foldedSetIterable iter X.env x=pure x:=by intro _;rfl):PS X (.For tg iter body [] pos) (aEb wi g tb):=by
 intro pins s σ H D I h;refine wpAny_For (cD (hi pins s σ H _ I h) λv s1 h1=>cD h1 λitv s2 h2=>?_) hs;obtain⟨it,fp,tn,J,H2,e,I2,T,st2,f2,W,⟨m0,w0⟩,turn⟩:=h2;subst e
 have stat:∀{H' :Hp},(∀b∈fp,H' b=none)->∀b∈fp,mZ X pins H' b:=λhn b hb=>⟨hn b hb,(f2 b hb).2⟩
 refine codeAny_forLoop_any (λn s' =>∃i σ' H',Inv X pins σ' H' s' /\tn i s'.heap/\(∀b∈fp,H' b=none)/\W i n σ' H') ?_ m0 ⟨0,σ,H2,I2,st2,λb hb=>(f2 b hb).1,w0⟩;rintro n s3 ⟨i,σ3,H3,I3,st3,fr3,w3⟩
 rcases turn i n σ3 H3 w3 with ⟨stop,qn⟩ | ⟨go,N,hN,step⟩
 ·refine aIg hp (cD (T.done X rfl rfl rfl hc i pins s3 σ3 H3 X.xe I3 (stat fr3) st3 stop) λr s4 zz31=>?_);obtain⟨hr,I4⟩:=zz31;subst hr;exact aJr ⟨σ3,H3,I4,qn⟩
 ·refine aIg hp (cD (T.item X rfl rfl rfl hc i pins s3 σ3 H3 X.xe I3 (stat fr3) st3 go) λr s4 zz32=>?_);obtain⟨u,hr,h4⟩:=zz32;subst hr;refine aIg hp (cD h4 λ_ s5 zz33=>?_);obtain⟨x,H5,I5,r5,y5,st5,fr5⟩:=zz33;have I5' :=I5.pinned (stat fr5) (T.obj _ _ st5);refine aIg hp (cD (hg _ s5 σ3 H5 x u _ I5' r5 (step x H5 y5)) λ_ s6 zz34=>?_);obtain⟨σ6,H6,I6,q6⟩:=zz34;refine aIg hp (cD (hb _ s6 σ6 H6 _ I6 q6) λf s7 q7=>?_)
  have again:∀{σ7:St} {H7:Hp},Inv X (pins++qH fp s5.heap) σ7 H7 s7->N σ7 H7->∃m,m<n/\∃i σ' H',Inv X pins σ' H' s7/\tn i s7.heap/\(∀b∈fp,H' b=none)/\W i m σ' H' :=λ{σ7 H7} I7 n7=>by
   obtain⟨m',hm,w7⟩:=hN σ7 H7 n7;refine⟨m',hm,i+1,σ7,H7,I7.lC,T.keep _ _ _ st5 λb hb o e=>(I7.pin (b,o) (aGs _ (aGs _ (eT hb e)))).1,λb hb=>?_,w7⟩;obtain⟨o,e,d⟩:=T.obj _ _ st5 b hb;exact(I7.pin (b,o) (aGs _ (aGs _ (eT hb e)))).2.1
  cases f with
  | next=>obtain⟨σ7,H7,I7,n7⟩:=q7;exact again I7 n7
  | cont=>obtain⟨σ7,H7,I7,n7⟩:=q7;exact again I7 n7
  | brk=>obtain⟨σ7,H7,I7,q7⟩:=q7;exact⟨σ7,H7,I7.lC,q7⟩
  | ret v=>obtain⟨x7,σ7,H7,I7,r7,q7⟩:=q7;exact⟨x7,σ7,H7,I7.lC,r7,q7⟩
end
abbrev R2:=V->V->Hp->VK->Prop
def d8(X:Cx)(f:Value->Value->Sem Value)(r:R2):Prop:=
 ∀(pins:List (Addr×Obj)) (s:Shared) (σ:St) (H:Hp) (x y:V) (v u:Value) (Q:VK),Inv X pins σ H s->RelV x v->RelV y u->r x y H Q->
  wpAny (model X.prog X.w) X.A (f v u) (EP X pins σ Q) X.xe s
def UnR(X:Cx)(f:Value->Sem Value)(r:V->Hp->VK->Prop):Prop:=
 ∀(pins:List (Addr×Obj)) (s:Shared) (σ:St) (H:Hp) (x:V) (v:Value) (Q:VK),Inv X pins σ H s->RelV x v->r x H Q->
  wpAny (model X.prog X.w) X.A (f v) (EP X pins σ Q) X.xe s
def cS(X:Cx)(f:Value)(r:List V->Hp->VK->Prop):Prop:=
 ∀(pins:List (Addr×Obj)) (s:Shared) (σ:St) (H:Hp) (xs:List V) (us:List Value) (Q:VK),Inv X pins σ H s->Vals xs us->r xs H Q->
  wpAny (model X.prog X.w) X.A (call f us) (EP X pins σ Q) X.xe s
def aG6(X:Cx)(r:V->Hp->(Bool->Hp->Prop)->Prop):Prop:=
 ∀(pins:List (Addr×Obj)) (s:Shared) (σ:St) (H:Hp) (x:V) (v:Value) (Q:Bool->Hp->Prop),Inv X pins σ H s->RelV x v->r x H Q->
  wpAny (model X.prog X.w) X.A (truthy v) (TP X pins σ Q) X.xe s
def tOp(r:R2)(ta tb:TE):TE:=λσ H Q=>ta σ H λx H1=>tb σ H1 λy H2=>r x y H2 Q
def tUn(r:V->Hp->VK->Prop)(ta:TE):TE:=λσ H Q=>ta σ H λx H1=>r x H1 Q
def rI(C:Int->Int->Prop)(g:Int->Int->V):R2:=λx y H Q=>∃i j,x= .int i/\y= .int j/\C i j/\Q (g i j) H
def L4(g:Int->Int->V):R2:=λx y H Q=>∃i j,x= .int i/\y= .int j/\Q (g i j) H
def rU(g:Int->V):V->Hp->VK->Prop:=λx H Q=>∃i,x= .int i/\Q (g i) H
section
variable {X:Cx}{a b c:Expr}{ta tb tc:TE}{pos:Pos}
theorem ZJ(ha:PE X a ta)(hb:PE X b tb){pins:List (Addr×Obj)}{s:Shared}{σ:St}{H:Hp}{R:V->V->Hp->Prop}(I:Inv X pins σ H s)
  (h:ta σ H λx H1=>tb σ H1 λy H2=>R x y H2) {Q:aKe} {f:Value->Value->Sem Value}
  (hf:∀v u s2 x y H2,Inv X pins σ H2 s2->RelV x v->RelV y u->R x y H2->wpAny (model X.prog X.w) X.A (f v u) Q X.xe s2):
  wpAny (model X.prog X.w) X.A (eval a X.env) (λv s₁=>wpAny (model X.prog X.w) X.A (eval b X.env) (λu s₂=>wpAny (model X.prog X.w) X.A (f v u) Q X.xe s₂) X.xe s₁) X.xe s:=by
 refine cD (ha pins s σ H _ I h) λv s1 zz36=>?_;obtain⟨x,H1,I1,r1,q1⟩:=zz36;refine cD (hb pins s1 σ H1 _ I1 q1) λu s2 zz37=>?_;obtain⟨y,H2,I2,r2,q2⟩:=zz37;exact hf v u s2 x y H2 I2 r1 r2 q2
theorem aBg{op:Operator}{r:R2}(ho:d8 X (binaryOp op) r)(ha:PE X a ta)(hb:PE X b tb):PE X (.BinOp a op b pos) (tOp r ta tb):=by
 intro pins s σ H Q I h;exact wpAny_BinOp (ZJ ha hb I h λv u s2 x y H2 I2 rx ry q=>ho pins s2 σ H2 x y v u Q I2 rx ry q)
theorem aBf{op:UnaryOp}{r:V->Hp->VK->Prop}(ho:UnR X (unaryOp op) r)(ha:PE X a ta):PE X (.UnaryOp op a pos) (tUn r ta):=by
 intro pins s σ H Q I h;exact UnaryOp_ (cD (ha pins s σ H _ I h) λv s1 zz38=>by obtain⟨x,H1,I1,r1,q1⟩:=zz38;exact ho pins s1 σ H1 x v Q I1 r1 q1)
theorem opI{f:Value->Value->Sem Value}{C:Int->Int->Prop}{g:Int->Int->Int}
  (rule:∀(i j:Int) (t u:Tok) (s:Shared) (Q:aKe) (E:aKe),C i j->Q (.int (g i j) s.toks) {s with toks:=s.toks+1}->wpAny (model X.prog X.w) X.A (f (.int i t) (.int j u)) Q E s):
  d8 X f (rI C λi j=>.int (g i j)):=by
 intro pins s σ H x y v u Q I rx ry h;obtain⟨i,j,rfl,rfl,hc,q⟩:=h;obtain⟨t,rfl⟩:=rx;obtain⟨t',rfl⟩:=ry;exact rule i j t t' s _ _ hc ⟨.int (g i j),H,I.tok _,⟨_,rfl⟩,q⟩
theorem RE{f:Value->Value->Sem Value}{g:Int->Int->Int}
  (rule:∀(i j:Int) (t u:Tok) (s:Shared) (Q:aKe) (E:aKe),Q (.int (g i j) s.toks) {s with toks:=s.toks+1}->wpAny (model X.prog X.w) X.A (f (.int i t) (.int j u)) Q E s):
  d8 X f (L4 λi j=>.int (g i j)):=by
 intro pins s σ H x y v u Q I rx ry h;obtain⟨i,j,rfl,rfl,q⟩:=h;obtain⟨t,rfl⟩:=rx;obtain⟨t',rfl⟩:=ry;exact rule i j t t' s _ _ ⟨.int (g i j),H,I.tok _,⟨_,rfl⟩,q⟩
theorem RF{f:Value->Value->Sem Value}{g:Int->Int->Bool}
  (rule:∀(i j:Int) (t u:Tok) (s:Shared) (Q:aKe) (E:aKe),Q (.bool (g i j)) s->wpAny (model X.prog X.w) X.A (f (.int i t) (.int j u)) Q E s):
  d8 X f (L4 λi j=>.bl (g i j)):=by
 intro pins s σ H x y v u Q I rx ry h;obtain⟨i,j,rfl,rfl,q⟩:=h;obtain⟨t,rfl⟩:=rx;obtain⟨t',rfl⟩:=ry;exact rule i j t t' s _ _ ⟨.bl (g i j),H,I,rfl,q⟩
def aD2(i j:Int):Prop:=0<j/\j<1073741824
def ZW(i j:Int):Prop:=0<=j/\j<=1000000/\i.natAbs<2^64
def KL(i j:Int):Prop:=(-(2^64)<i/\i<2^64)\/(-(2^64)<j/\j<2^64)
theorem KL.ok{i j:Int}(h:KL i j):IntMulOk i j:=by
 rcases h with ⟨h1,h2⟩ | ⟨h1,h2⟩
 ·exact .of_left (intBits_le_64 h1 h2)
 ·exact .of_right (intBits_le_64 h1 h2)
theorem WW:d8 X (binaryOp .Add) (L4 λi j=>.int (i+j)):=RE λ_ _ _ _ _ _ _ q=>add_int q
theorem WM:d8 X (binaryOp .Sub) (L4 λi j=>.int (i-j)):=RE λ_ _ _ _ _ _ _ q=>sub_int q
theorem WQ:d8 X (binaryOp .Mult) (rI KL λi j=>.int (i*j)):=opI λ_ _ _ _ _ _ _ hc q=>mul_int q hc.ok
theorem RC:d8 X (binaryOp .FloorDiv) (rI aD2 λi j=>.int (i / j)):=opI λi j _ _ _ _ _ hc q=>by
 have h1:(0:Int)<j:=hc.1;have h2:j<1073741824:=hc.2;exact floordiv_int (by lia) (by rw[Int.fdiv_eq_ediv_of_nonneg i (by lia)];exact q) (.inl (PyProof.noPylong_small (by lia)))
theorem WR:d8 X (binaryOp .Mod) (rI (λ_ j=>0<j) λi j=>.int (i % j)):=opI λi j _ _ _ _ _ hc q=>by
 have h1:(0:Int)<j:=hc;exact mod_int' (by lia) (by rw[Int.fmod_eq_emod_of_nonneg i (by lia)];exact q)
theorem WN:d8 X (binaryOp .Pow) (rI ZW λi j=>.int (i^j.toNat)):=opI λ_ _ _ _ _ _ _ hc q=>pow_int_small hc.1 hc.2.1 hc.2.2 q
theorem WV:d8 X (binaryOp .BitAnd) (L4 λi j=>.int (Builtin.bitAnd i j)):=RE λ_ _ _ _ _ _ _ q=>and_int q
theorem SR:d8 X (inplaceOp .Add) (L4 λi j=>.int (i+j)):=RE λ_ _ _ _ _ _ _ q=>iadd_int q
theorem unI{f:Value->Sem Value}{g:Int->Int}
  (rule:∀(i:Int) (t:Tok) (s:Shared) (Q:aKe) (E:aKe),Q (.int (g i) s.toks) {s with toks:=s.toks+1}->wpAny (model X.prog X.w) X.A (f (.int i t)) Q E s):
  UnR X f (rU λi=>.int (g i)):=by
 intro pins s σ H x v Q I rx h;obtain⟨i,rfl,q⟩:=h;obtain⟨t,rfl⟩:=rx;exact rule i t s _ _ ⟨.int (g i),H,I.tok _,⟨_,rfl⟩,q⟩
theorem U8:UnR X (unaryOp .USub) (rU λi=>.int (-i)):=unI λ_ _ _ _ _ q=>neg_int q
end
section
variable {X:Cx}{a b c:Expr}{ta tb tc:TE}{pos:Pos}
theorem Y3{pins:List (Addr×Obj)}{σ:St}{H:Hp}{s:Shared}{Q:VK}{k k' :Bool}(I:Inv X pins σ H s)(q:Q (.bl k) H)(e:k=k'):EP X pins σ Q (.bool k') s:=by
 subst e;exact⟨.bl k,H,I,rfl,q⟩
theorem aBl:d8 X (compareOp .Lt) (L4 λi j=>.bl (decide (i<j))):=RF λ_ _ _ _ _ _ _ q=>lt_int q
theorem aBm:d8 X (compareOp .LtE) (L4 λi j=>.bl (decide (i<=j))):=RF λ_ _ _ _ _ _ _ q=>le_int q
theorem aBn:d8 X (compareOp .Gt) (L4 λi j=>.bl (decide (j<i))):=RF λ_ _ _ _ _ _ _ q=>gt_int q
theorem aBo:d8 X (compareOp .GtE) (L4 λi j=>.bl (decide (j<=i))):=RF λ_ _ _ _ _ _ _ q=>ge_int q
theorem IM:d8 X (compareOp .Lt) (λx y H Q=>∃i j,x= .str i/\y= .str j/\Q (.bl (decide (i.cps.toList<j.cps.toList))) H):=by
 intro pins s σ H x y v u Q I rx ry h;obtain⟨i,j,rfl,rfl,q⟩:=h;obtain⟨t,rfl⟩:=rx;obtain⟨t',rfl⟩:=ry;exact lt_str (Y3 I q rfl)
theorem Q8{op:CmpOp}{r:R2}(ho:d8 X (compareOp op) r)(ha:PE X a ta)(hb:PE X b tb)(hm:behindInMarks op b=false):PE X (.Compare a [op] [b] pos) (tOp r ta tb):=by
 intro pins s σ H Q I h;exact wpAny_Compare1 (ZJ ha hb I h λv u s2 x y H2 I2 rx ry q=>ho pins s2 σ H2 x y v u Q I2 rx ry q) hm
def T7(t:TE):TT:=λσ H Q=>t σ H λx H' =>∃k,x= .bl k/\Q k H'
theorem QU{op:CmpOp}{r:R2}(ho:d8 X (compareOp op) r)(ha:PE X a ta)(hb:PE X b tb)(hm:behindInMarks op b=false):PT X (.Compare a [op] [b] pos) (T7 (tOp r ta tb)):=by
 intro pins s σ H Q I h
 refine wpAny_isTrue_Compare1 (cD (ha pins s σ H _ I h) λv s1 ⟨x,H1,I1,r1,q1⟩=>cD (hb pins s1 σ H1 _ I1 q1) λu s2 ⟨y,H2,I2,r2,q2⟩=>
  cD (ho pins s2 σ H2 x y v u _ I2 r1 r2 q2) λc s3 ⟨z,H3,I3,r3,k,e,q3⟩=>?_) hm
 subst e;cases r3;exact aJa ⟨H3,I3,q3⟩
def ZQ(K:aKd)(x:V)(H:Hp)(k:Bool):Prop:=
 match x with
 | .b6=>k=false
 | .bl b=>k=b
 | .int i=>k=(i !=0)
 | .str y=>y.length<=sizeLine/\k=((y.length:Int) !=0)
 | .byt y=>y.size<=sizeLine/\k=((y.size:Int) !=0)
 | .ref p=>(∃xs,oH K H p xs/\k= !xs.isEmpty)\/(∃xs,oG K H p xs/\k= !xs.isEmpty)\/∃kvs,H p=some (.dK kvs)/\k= !kvs.isEmpty
 | _=>False
theorem E7{κ:Type}{kvs:List (κ×V)}{vs:List (κ×Value)}(r:KV kvs vs):(!vs.isEmpty)= !kvs.isEmpty:=by
 cases r <;> rfl
theorem uV{xs:List V}{aI:List Value}(r:Vals xs aI):(!aI.toArray.isEmpty)= !xs.isEmpty:=by
 cases r <;> simp
theorem lQ:(sizeLine:Nat)<2^63:=by rw[sizeLine_eq];decide
theorem VD:aG6 X (λx H Q=>∃k,ZQ X.K x H k/\Q k H):=by
 intro pins s σ H x v Q I rx h;obtain⟨k,e,q⟩:=h;have hl:=lQ;have hs:sizeLine=16777216:=aH1
 cases x with
 | b6=>
  cases rx;have e' :k=false:=e;subst e';exact truthy_none ⟨H,I,q⟩
 | bl b=>
  cases rx;have e' :k=b:=e;subst e';exact aJa ⟨H,I,q⟩
 | int i=>
  obtain⟨t,rfl⟩:=rx;have e' :k=(i !=0):=e;subst e';exact PySem.P.truthy_int ⟨H,I,q⟩
 | str y=>
  obtain⟨t,rfl⟩:=rx;obtain⟨hy,e'⟩:y.length<=sizeLine/\k=((y.length:Int) !=0):=e;subst e';exact PySem.P.truthy_str (by lia) ⟨H,I.tok _,q⟩
 | byt y=>
  obtain⟨t,rfl⟩:=rx;obtain⟨hy,e'⟩:y.size<=sizeLine/\k=((y.size:Int) !=0):=e;subst e';exact PySem.W.truthy_bytes (by lia) ⟨H,I.tok _,q⟩
 | ref p=>
  cases rx;have e' :(∃xs,oH X.K H p xs/\k= !xs.isEmpty)\/(∃xs,oG X.K H p xs/\k= !xs.isEmpty)\/∃kvs,H p=some (.dK kvs)/\k= !kvs.isEmpty:=e
  rcases e' with ⟨xs,hx,e'⟩ | ⟨xs,hx,e'⟩ | ⟨kvs,hx,e'⟩
  ·subst e';obtain⟨aI,r,pl,hz⟩:=I.list hx;have hlen:=r.length;exact wpAny_truthy_list pl.isList (by simp only[List.size_toArray];lia) ⟨H,I.tok _,by rw[uV r];exact q⟩
  ·subst e';obtain⟨aI,r,pl,hz⟩:=I.tuple hx;have hlen:=r.length;exact truthy_tuple pl (by simp only[List.size_toArray];lia) ⟨H,I.tok _,by rw[uV r];exact q⟩
  ·subst e';obtain⟨hz,hS,vs,r,m⟩:kvs.length<=sizeLine/\(p==sysModules)=false/\∃vs,KV kvs vs/\s.heap.DictOf (aV X.prog X.w) p vs:=I.bZ p _ hx;have hlen:kvs.length=vs.length:=Paired.length r;exact wpAny_truthy_dict hS m (by lia) ⟨H,I.tok _,by rw[E7 r];exact q⟩
 | _=>exact(show False from e).elim
theorem L5(ha:PE X a ta)(he:∀whole,isTrue a X.env whole=(do let v<-whole;standAt a.pos;holding [v] (truthy v))):
  PT X a (λσ H Q=>ta σ H λx H' =>∃k,ZQ X.K x H' k/\Q k H'):=by
 intro pins s σ H Q I h;exact isTrue_plain (cD (ha pins s σ H _ I h) λv s1 zz41=>by obtain⟨x,H1,I1,r1,q1⟩:=zz41;exact VD pins s1 σ H1 x v Q I1 r1 q1) (he _)
theorem EL:d8 X (binaryOp .Add) (λx y H Q=>∃i j,x= .str i/\y= .str j/\i.length+j.length<=sizeLine/\Q (.str (i++j)) H):=by
 intro pins s σ H x y v u Q I rx ry h;obtain⟨i,j,rfl,rfl,hz,q⟩:=h;obtain⟨t,rfl⟩:=rx;obtain⟨t',rfl⟩:=ry;exact add_str (λt' tk=>⟨.str (i++j),H,I.tok _,⟨_,rfl⟩,q⟩) hz
theorem CM:d8 X (inplaceOp .Add) (λx y H Q=>∃i j,x= .str i/\y= .str j/\i.length+j.length<=sizeLine/\Q (.str (i++j)) H):=by
 intro pins s σ H x y v u Q I rx ry h;obtain⟨i,j,rfl,rfl,hz,q⟩:=h;obtain⟨t,rfl⟩:=rx;obtain⟨t',rfl⟩:=ry;exact iadd_str (λt' tk=>⟨.str (i++j),H,I.tok _,⟨_,rfl⟩,q⟩) hz
theorem vals1{x:V}{us:List Value}(r:Vals [x] us):∃u,us=[u]/\RelV x u:=by
 cases r with
 | cons r1 r2=>cases r2;exact⟨_,rfl,r1⟩
theorem vals2{x y:V}{us:List Value}(r:Vals [x,y] us):∃u w',us=[u,w']/\RelV x u/\RelV y w' :=by
 cases r with
 | cons r1 r2=>
  cases r2 with
  | cons r3 r4=>cases r4;exact⟨_,_,rfl,r1,r3⟩
theorem O0:cS X (.builtin "abs") (λxs H Q=>∃i,xs=[.int i]/\Q (.int (if i<0 then -i else i)) H):=by
 intro pins s σ H xs us Q I r h;obtain⟨i,rfl,q⟩:=h;obtain⟨u,rfl,t,rfl⟩:=vals1 r
 exact call_abs_int λu tk=>⟨.int (if i<0 then -i else i),H,I.tok _,⟨_,rfl⟩,q⟩
theorem J3(hc:X.calm=true):cS X (.builtin "max") (λxs H Q=>∃i j,xs=[.int i,.int j]/\Q (.int (if j > i then j else i)) H):=by
 intro pins s σ H xs us Q I r h;obtain⟨i,j,rfl,q⟩:=h;obtain⟨u,w',rfl,⟨t,rfl⟩,⟨t',rfl⟩⟩:=vals2 r
 refine max_two_ints (I.ok.hd hc) λh' tk k=>⟨_,H,I.kept k,?_,q⟩
 by_cases hj:j > i
 ·rw[if_pos hj,if_pos hj];exact⟨_,rfl⟩
 ·rw[if_neg hj,if_neg hj];exact⟨_,rfl⟩
theorem J1(hc:X.calm=true):cS X (.builtin "min") (λxs H Q=>∃i j,xs=[.int i,.int j]/\Q (.int (if j<i then j else i)) H):=by
 intro pins s σ H xs us Q I r h;obtain⟨i,j,rfl,q⟩:=h;obtain⟨u,w',rfl,⟨t,rfl⟩,⟨t',rfl⟩⟩:=vals2 r
 refine min_two_ints (I.ok.hd hc) λh' tk k=>⟨_,H,I.kept k,?_,q⟩
 by_cases hj:j<i
 ·rw[if_pos hj,if_pos hj];exact⟨_,rfl⟩
 ·rw[if_neg hj,if_neg hj];exact⟨_,rfl⟩
end
theorem sF.some_of{v:V}{o:Option Value}(r:sF (some v) o):∃u,o=some u/\RelV v u:=by
 cases o with
 | none=>exact(show False from r).elim
 | some u=>exact⟨u,rfl,r⟩
structure fR(k:Nat)(A:Around):Prop where
 hd:A.handled=none
 dp:A.depth+3*k+5<recursionLimit
 un:A.units+16*k+200<cLine
theorem fR.mono{j k:Nat}{A:Around}(r:fR k A)(h:j<=k):fR j A:=⟨r.hd,by have:=r.dp;lia,by have:=r.un;lia⟩
theorem fR.deeper{k:Nat}{A:Around}(r:fR (k+1) A)(env:Env):fR k (A.deeper env):=
 ⟨r.hd,by have:=r.dp;show A.depth+1+3*k+5<_;lia,by have:=r.un;show A.units+3+16*k+200<_;lia⟩
theorem fR.depth{k:Nat}{A:Around}(r:fR k A):A.depth<recursionLimit:=by have:=r.dp;lia
theorem fR.units{k:Nat}{A:Around}(r:fR k A):A.units+64<cLine:=by have:=r.un;lia
def aAq:TA:=λ_ H Q=>Q [] H
def T9(ta:TE)(tr:TA):TA:=λσ H Q=>ta σ H λx H1=>tr σ H1 λxs H2=>Q (x::xs) H2
section
variable {X:Cx}{e:Expr}{es:List Expr}{te:TE}{t:TA}{pos:Pos}
theorem EK:PA X [] aAq:=λ_ _ _ _ H Q I h=>aJb ⟨[],H,I,.nil,h⟩
theorem zA(ha:PE X e te)(hr:PA X es t)(hs:starEach (e::es) X.env=(false,eval e X.env)::starEach es X.env:=by rfl):PA X (e::es) (T9 te t):=by
 intro pos pins s σ H Q I h;rw[hs];show wpAny _ _ (spliced ((false,eval e X.env)::backTo pos (starEach es X.env))) _ _ s;refine aI9 (cD (ha pins s σ H _ I h) λu s1 zz46=>?_);obtain⟨x,H1,I1,r1,q1⟩:=zz46;exact cD (hr pos pins s1 σ H1 _ I1 q1) λus s2 zz47=>by obtain⟨xs,H2,I2,r2,q2⟩:=zz47;exact⟨x::xs,H2,I2,.cons r1 r2,q2⟩
def aE2(t:TA):TE:=λσ H Q=>t σ H λxs H1=>xs.length<=sizeLine/\∀p,H1 p=none->Q (.ref p) (upd H1 p (.tup xs))
def aE8(t:TA):TE:=λσ H Q=>t σ H λxs H1=>xs.length<=sizeLine/\∀p,H1 p=none->Q (.ref p) (upd H1 p (.lst xs))
theorem V8{x1}(h:PA X es t):PE X (.Tuple es x1 pos) (aE2 t):=by
 intro pins s σ H Q I hq;refine wpAny_Tuple_spliced (cD (h pos pins s σ H _ I hq) λus s1 ⟨xs,H1,I1,r,z,q⟩=>⟨by rw[<-r.length];exact z,?_⟩);have hf:H1 s1.heap.objs.size=none:=I1.bZ.fresh (aGi _);refine⟨.ref s1.heap.objs.size,upd H1 s1.heap.objs.size (.tup xs),I1.laid (t' :=s1.toks) (λb u e=>aGe _ e) (aGi _) ?_,rfl,q _ hf⟩;exact⟨z,us,r,⟨_,aGj _ rfl,rfl,_,rfl⟩,yT _ _⟩
theorem WC(h:PA X es t):PE X (.List es pos) (aE8 t):=by
 intro pins s σ H Q I hq;refine wpAny_List_spliced (cD (h pos pins s σ H _ I hq) λus s1 ⟨xs,H1,I1,r,z,q⟩=>⟨by rw[<-r.length];exact z,?_⟩);have hf:H1 s1.heap.objs.size=none:=I1.bZ.fresh (aGi _);refine⟨.ref s1.heap.objs.size,upd H1 s1.heap.objs.size (.lst xs),I1.laid (t' :=s1.toks) (λb u e=>aGe _ e) (aGi _) ?_,rfl,q _ hf⟩;exact⟨z,us,0,r,aGj _ rfl⟩
end
abbrev Sp:=List V->Hp->VK->XK->Prop
abbrev KP:=List Env->Hp->Shared->XK->aKe
structure TV(P:Program)(w:World)(K:aKd)(mg:aKg)(base:Heap)(A:Around)(outer:List Env)(s:Shared)(H:Hp):Prop where
 frames:A.frames=some outer
 mod:Mod K mg base
 bs:∀b o,base.get? b=some o->s.heap.get? b=some o/\H b=none
 TF:base.objs.size<=s.heap.objs.size
 uX:s.heap.FunFrames base outer
 Z7:∀b∈OF outer,H b=none
 bZ:qA P w H s.heap
 bare:AllBare s.gens
def CE(outer:List Env)(P:Program)(w:World)(H:Hp)(s:Shared)(Q:VK)(u:Value)(s' :Shared):Prop:=
 ∃v H',s'.os=s.os/\AllBare s'.gens/\Un (OF outer) [] H H' s.heap s'.heap/\qA P w H' s'.heap/\RelV v u/\Q v H'
def CR(CX:KP)(outer:List Env)(P:Program)(w:World)(H:Hp)(s:Shared)(Q:VK)(E:XK)(r:Result)(s' :Shared):Prop:=
 match r with
 | .ok (.ret u)=>CE outer P w H s Q u s'
 | .ok _=>False
 | .error e=>CX outer H s E e s'
structure iU(P:Program)(w:World)(K:aKd)(mg:aKg)(base:Heap)(CX:KP)(k:Nat)(f:Addr)(fd:FuncData)(ps:List Str)(sp:Sp):Prop where
 len:∀vs H Q E,sp vs H Q E->vs.length=ps.length
 run:∀(A:Around) (outer:List Env) (s:Shared) (H:Hp) (args:Args) (us:List Value) (vs:List V) (Q:VK) (E:XK),fR k A->TV P w K mg base A outer s H->BindsTo s fd args (ps.zip us)->Vals vs us->sp vs H Q E->
  codeAny (model P w) A (.call (.ref f) args) (CR CX outer P w H s Q E) s
theorem iU.mono{P:Program}{w:World}{K:aKd}{mg:aKg}{base:Heap}{CX:KP}{j k:Nat}{f:Addr}{fd:FuncData}{ps:List Str}{sp:Sp}(F:iU P w K mg base CX j f fd ps sp)(h:j<=k):
  iU P w K mg base CX k f fd ps sp:=⟨F.len,λA outer s H args us vs Q E hr=>F.run A outer s H args us vs Q E (hr.mono h)⟩
theorem iU.imp{P:Program}{w:World}{K:aKd}{mg:aKg}{base:Heap}{CX:KP}{k:Nat}{f:Addr}{fd:FuncData}{ps:List Str}{sp sp' :Sp}(F:iU P w K mg base CX k f fd ps sp)
  (h:∀vs H Q E,sp' vs H Q E->sp vs H Q E):iU P w K mg base CX k f fd ps sp' :=
 ⟨λvs H Q E q=>F.len vs H Q E (h _ _ _ _ q),λA outer s H args us vs Q E hr he hb hv hs=>F.run A outer s H args us vs Q E hr he hb hv (h _ _ _ _ hs)⟩
section
variable {X:Cx}{pins:List (Addr×Obj)}{σ:St}{H:Hp}{s s' :Shared}
theorem Inv.aFx(I:Inv X pins σ H s):TV X.prog X.w X.K X.mg X.base X.A X.stack s H:=
 ⟨I.ok.frames,I.ok.mod,I.bs,aH5 I.ok.TF I.sz,I.stack,I.GI,I.bZ,I.bare⟩
theorem Inv.after{Q:VK}{u:Value}(I:Inv X pins σ H s)(h:CE X.stack X.prog X.w H s Q u s'):EP X pins σ Q u s' :=by
 obtain⟨v,H',os,bare,un,bZ,r,q⟩:=h;obtain⟨hh,g,d,t,os'⟩:=s';obtain rfl:os' =s.os:=os;exact⟨v,H',I.call (h' :=hh) (g' :=g) (d' :=d) (t' :=t) (ch:=[]) un bZ bare (λb z=>absurd z (by simp)),r,q⟩
end
def aAu(sp:Sp)(dvs:List V)(E:XK)(t:TA):TE:=λσ H Q=>t σ H λvs H1=>sp (vs++dvs) H1 Q E
def Binds(K:aKd)(fd:FuncData)(ps:List Str)(ds:List Value):Prop:=
 ∀(s:Shared) (us:List Value),K.In s.heap->(us++ds).length=ps.length->BindsTo s fd ⟨us,[]⟩ (ps.zip (us++ds))
theorem Binds.all{K:aKd}{fd:FuncData}{ps:List Str}(h:∀us:List Value,us.length=ps.length->bindArgs fd ⟨us,[]⟩=pure (ps.zip us)):Binds K fd ps []:=λs us _ hl=>by
 rw[List.append_nil]at hl⊢;exact .of_eq (h us hl)
def Passes(CX:KP)(X:Cx)(E:XK):Prop:=∀(pins:List (Addr×Obj)) (σ:St) (H:Hp) (s:Shared) (e:Value) (s' :Shared),Inv X pins σ H s->CX X.stack H s E e s' ->X.xe e s'
section
variable {X:Cx}{CX:KP}{k:Nat}{f C:Addr}{fd:FuncData}{ps:List Str}{sp:Sp}{dvs:List V}{ds:List Value}{E:XK}{x m:Str}{p pos apos:Pos}{e o:Expr}{es:List Expr}{ta:TE}{t:TA}
theorem VT{pins:List (Addr×Obj)}{σ:St}{H:Hp}{s:Shared}{Q:VK}{us:List Value}{vs:List V}(F:iU X.prog X.w X.K X.mg X.base CX k f fd ps sp)(hr:fR k X.A)(hb:Binds X.K fd ps ds)(hd:Vals dvs ds)(hx:Passes CX X E)
  (I:Inv X pins σ H s) (r:Vals vs us) (h:sp (vs++dvs) H Q E):wpAny (model X.prog X.w) X.A (call (.ref f) us) (EP X pins σ Q) X.xe s:=by
 have r2:Vals (vs++dvs) (us++ds):=r.append hd;have hl:(us++ds).length=ps.length:=by rw[<-r2.length];exact F.len _ _ _ _ h
 refine wpAny_call (aIi (F.run X.A X.stack s H ⟨us,[]⟩ (us++ds) (vs++dvs) Q E hr I.aFx (hb s us I.YH hl) r2 h) λr s' hq=>?_)
 cases r with
 | error e=>exact hx pins σ H s e s' I hq
 | ok fl=>
  cases fl with
  | ret u=>exact I.after hq
  | next=>exact False.elim hq
  | brk=>exact False.elim hq
  | cont=>exact False.elim hq
theorem GQ(F:iU X.prog X.w X.K X.mg X.base CX k f fd ps sp)(hr:fR k X.A)(hg:Gl X x)(hm:X.mg x=some (.ref f))(hk:PySem.W.keepIn X.K (.ref f)=true)(hb:Binds X.K fd ps ds)(hd:Vals dvs ds)(hx:Passes CX X E)
  (ha:PA X (e::es) t) (hdb:(x==("__debug__":Str))=false:=by decide) (he:starEach (e::es) X.env=(false,eval e X.env)::starEach es X.env:=by rfl) (hpl:(backTo pos (starEach es X.env)).any (·.1)=false:=by rfl):
  PE X (.Call (.Name x p) (e::es) [] pos) (aAu sp dvs E t):=by
 intro pins s σ H Q I h;refine aIa (G2 I hg hm ?_ hdb);refine PySem.W.callWith_K (h₀:=X.base) I.ok.mod.kin hk (cD (ha pos pins s σ H _ I h) λus s1 ⟨vs,H1,I1,r,q⟩=>⟨I1.YH,?_⟩) he hpl;exact VT F hr hb hd hx I1 r q
end
structure aU(N P:List Str)(sc:Scope):Prop where
 kind:sc.kind= .function
 co:sc.isCoroutine=false
 gen:sc.isGenerator=false
 nd:N.Nodup
 pre:N.take P.length=P
 par:∀x∈P,sc.names.lookup x=some .local\/sc.names.lookup x=some .cell
 W8:∀y∈sc.names,y.2≠ .free
theorem yE{kindOf:Str->Option NameKind}{x:Str}:∀{binds:List (Str×Value)} {m:aKg},(∀v,(x,v)∉binds)->bindL kindOf binds m x=m x
 | [],_,_=>rfl
 | (n,v)::r,m,h=>by
  unfold bindL;rw[yE λw hw=>h w (List.mem_cons_of_mem _ hw)];split
  ·have:x≠n:=by rintro rfl;exact h v aGf
   simp[this]
  ·rfl
theorem yG{kindOf:Str->Option NameKind}{x:Str}:∀{binds:List (Str×Value)} {m:aKg},(∀v,(x,v)∉binds)->bindC kindOf binds m x=m x
 | [],_,_=>rfl
 | (n,v)::r,m,h=>by
  unfold bindC;rw[yG λw hw=>h w (List.mem_cons_of_mem _ hw)];split
  ·rfl
  ·have:x≠n:=by rintro rfl;exact h v aGf
   simp[this]
theorem yF{kindOf:Str->Option NameKind}{x:Str}{v:Value}:∀{P:List Str} {vs:List Value} {i:Nat} {m:aKg},P.Nodup->P[i]? =some x->vs[i]? =some v->kindOf x=some .local->
  bindL kindOf (P.zip vs) m x=some v
 | [],_,_,_,_,h,_,_=>by simp at h
 | _::_,[],_,_,_,_,h,_=>by simp at h
 | p::P,w::vs,0,m,nd,h1,h2,hk=>by
  simp at h1 h2;subst h1;subst h2;show bindL kindOf ((p,w)::P.zip vs) m p=_;unfold bindL;rw[yE λv hv=>(List.nodup_cons.mp nd).1 (List.of_mem_zip hv).1,if_pos hk];simp
 | p::P,w::vs,i+1,m,nd,h1,h2,hk=>by
  show bindL kindOf ((p,w)::P.zip vs) m x=_;unfold bindL;exact yF (i:=i) (aI6.mp nd).2 (by simpa using h1) (by simpa using h2) hk
theorem yH{kindOf:Str->Option NameKind}{x:Str}{v:Value}:∀{P:List Str} {vs:List Value} {i:Nat} {m:aKg},P.Nodup->P[i]? =some x->vs[i]? =some v->kindOf x≠some .local->
  bindC kindOf (P.zip vs) m x=some v
 | [],_,_,_,_,h,_,_=>by simp at h
 | _::_,[],_,_,_,_,h,_=>by simp at h
 | p::P,w::vs,0,m,nd,h1,h2,hk=>by
  simp at h1 h2;subst h1;subst h2;show bindC kindOf ((p,w)::P.zip vs) m p=_;unfold bindC;rw[yG λv hv=>(List.nodup_cons.mp nd).1 (List.of_mem_zip hv).1,if_neg hk];simp
 | p::P,w::vs,i+1,m,nd,h1,h2,hk=>by
  show bindC kindOf ((p,w)::P.zip vs) m x=_;unfold bindC;exact yH (i:=i) (aI6.mp nd).2 (by simpa using h1) (by simpa using h2) hk
def start(N:List Str)(vs:List V):St:=vs.map some++List.replicate (N.length-vs.length) none
def u7(CX:KP)(P:Program)(w:World)(K:aKd)(mg:aKg)(base:Heap)(N:List Str)(qual:Str)(scope:Scope)(f:Addr)(cd:Value)(A:Around)(outer:List Env)(s:Shared)(H:Hp)(E:XK):Cx where
 prog:=P
 w:=w
 K:=K
 mg:=mg
 base:=base
 A:=A.deeper (envOfC qual scope s.heap.objs.size f cd)
 N:=N
 s₀:=s
 H₀:=H
 env:=envOfC qual scope s.heap.objs.size f cd
 outer:=outer
 stack:=envOfC qual scope s.heap.objs.size f cd::outer
 ex:=[]
 calm:=true
 fn:=λ_=>true
 pn:=[]
 xe:=λe s' =>wpAny (model P w) (A.deeper (envOfC qual scope s.heap.objs.size f cd)) (leaving (envOfC qual scope s.heap.objs.size f cd) e) (λ_ s'' =>CX outer H s E e s'') (λe' s'' =>CX outer H s E e' s'') s'
theorem DF{sc:Scope}{n:Nat}{x:Str}(h:sc.names.lookup x=some .cell):∃c,(cellsFrom n sc.names []).lookup x=some c:=by
 have q:=PySem.W.cellsFrom_some sc.names n [] (.inl h);exact Option.isSome_iff_exists.mp q
theorem JH{CX:KP}{P:Program}{w:World}{K:aKd}{mg:aKg}{base:Heap}{N ps:List Str}{qual:Str}{scope:Scope}{f:Addr}{cd:Value}{A:Around}{outer:List Env}{s s1:Shared}{H:Hp}{E:XK}{us:List Value}{vs:List V}
  (S:aU N ps scope) (hd:A.handled=none) (e0:TV P w K mg base A outer s H) (hl:vs.length=ps.length) (r:Vals vs us)
  (x:InCallC s s.heap.objs.size (bindL (envOfC qual scope s.heap.objs.size f cd).kindOf (ps.zip us) λ_=>none) (cellsFrom (s.heap.objs.size+1) scope.names []) (bindC (envOfC qual scope s.heap.objs.size f cd).kindOf (ps.zip us) λ_=>none) s1):
  Inv (u7 CX P w K mg base N qual scope f cd A outer s H E) [] (start N vs) H s1:=by
 have hpl:ps.length<=N.length:=by have:=aHk List.length S.pre;rw[List.length_take]at this;lia
 obtain⟨h1,tk,rfl,hk⟩:=x.done;have noA:∀b:Addr,b∉(u7 CX P w K mg base N qual scope f cd A outer s H E).ex:=λb z=>absurd (show b∈([]:List Addr) from z) (by simp)
 refine⟨⟨e0.mod,S.kind,rfl,rfl,aGi _,λy z c h1 h2=>?_,λy hy=>?_,λy c _ h=>?_,λ_=>hd,Around.frames_deeper e0.frames,.inr ⟨rfl,rfl⟩,λb z=>absurd z (noA b),e0.bs,e0.TF,λb _ _=>noA b,λb z=>absurd z (noA b),e0.uX,e0.Z7⟩,
  rfl,e0.bare,Un.kept hk,⟨_,x.toInCall.ns,λi y v h1 h2 h3=>?_⟩,λy c h=>⟨_,x.cell y c h⟩,e0.bZ.fresh (aGi _),λy c h=>?_,λp hp=>absurd (show p∈([]:List (Addr×Obj)) from hp) (by simp),e0.bZ.kept hk,?_⟩
 ·exact name_of_addr x.apart (aHl h1) (aHl h2)
 ·have hy:scope.names.lookup y=some .cell\/scope.names.lookup y=some .free:=hy;rcases hy with hy | hy
  ·exact DF hy
  ·exact absurd rfl (S.W8 _ (aHl hy))
 ·exact aIh (x.above y c (aHl h))
 ·have hi:i<vs.length:=by
   unfold start at h2;by_cases hi:i<vs.length
   ·exact hi
   ·rw[List.getElem?_append_right (by simpa using hi)]at h2;rw[List.getElem?_replicate]at h2;split at h2 <;> cases h2
  have ha:vs[i]? =some v:=by
   unfold start at h2;rw[List.getElem?_append_left (by simpa using hi),List.getElem?_map]at h2
   cases e:vs[i]? with
   | none=>rw[e]at h2;cases h2
   | some a=>rw[e]at h2;cases h2;rfl
  obtain⟨u,hu,rv⟩:=r.get ha
  have hp:ps[i]? =some y:=by
   rw[<-S.pre,List.getElem?_take_of_lt (by lia)];exact h1
  have ndP:ps.Nodup:=by rw[<-S.pre];exact S.nd.sublist (aK6 _ _)
  refine⟨u,rv,?_⟩;rcases S.par y (aGo hp) with k | k
  ·exact .inl ⟨k,yF ndP hp hu k⟩
  ·obtain⟨c,e⟩:=DF (n:=s.heap.objs.size+1) k;refine .inr ⟨.inl k,c,e,?_⟩;have q:=x.cell y c e;rw[yH ndP hp hu (by show scope.names.lookup y≠_;rw[k];decide)]at q;exact q
 ·exact e0.bZ.fresh (aIh (x.above y c (aHl h)))
 ·unfold start;show _=N.length;rw[List.length_append,List.length_map,List.length_replicate]
  lia
theorem UR{CX:KP}{P:Program}{w:World}{K:aKd}{mg:aKg}{base:Heap}{k:Nat}{f:Addr}{name qual:Str}{params:Arguments}{body:List Stmt}{scope:Scope}{dV kV doc pm cdv ct oc:Value}{an od:Option Addr}
  {osl:Array (Option Value)} {N ps:List Str} {sp:Sp} (lk:K.lookup f=some ⟨oc,od,.func (PySem.W.fnOf name qual params body scope dV kV doc pm an cdv ct),osl⟩) (hcd:PySem.W.codeIn K cdv qual=true) (S:aU N ps scope)
  (len:∀vs H Q E,sp vs H Q E->vs.length=ps.length)
  (hbody:∀(A:Around) (outer:List Env) (s:Shared) (H:Hp) (vs:List V) (Q:VK) (E:XK),fR k (A.deeper (envOfC qual scope s.heap.objs.size f cdv))->sp vs H Q E->
   ∃t,AW (u7 CX P w K mg base N qual scope f cdv A outer s H E) body t/\t {nx:=λ_ H' =>Q .b6 H',rt:=Q} (start N vs) H):
  iU P w K mg base CX (k+1) f (PySem.W.fnOf name qual params body scope dV kV doc pm an cdv ct) ps sp:=by
 refine⟨len,λA outer s H args us vs Q E hr e0 hb r hsp=>?_⟩;have hl:=len _ _ _ _ hsp;have KX:K.In s.heap:=e0.mod.kin.keeps λb o e=>(e0.bs b o e).1;have lim:s.heap.NoLimit:=e0.mod.nolimit.keeps λb o e=>(e0.bs b o e).1
 have hkind:∀y∈ps.zip us,scope.names.lookup y.1=some .local\/(scope.names.lookup y.1=some .cell/\((cellsFrom (s.heap.objs.size+1) scope.names []).lookup y.1).isSome=true):=λzz49 hy=>by
  obtain⟨n,v⟩:=zz49;rcases S.par n (List.of_mem_zip hy).1 with q | q
  ·exact .inl q
  ·exact .inr ⟨q,PySem.W.cellsFrom_some _ _ _ (.inl q)⟩
 refine codeAny_call_function hr.depth (KX _ _ lk) rfl S.co S.gen rfl (PySem.W.codeRec_of KX hcd) (hb _ _ _ _ ?_);refine wpAny_newFunctionEnv_cells S.kind hkind λenv he s1 x=>?_;subst he;refine⟨lim.keeps x.toInCall.keep,codeAny_func ?_⟩;obtain⟨t,ht,hq⟩:=hbody A outer s H vs Q E (hr.deeper _) hsp;have I:Inv (u7 CX P w K mg base N qual scope f cdv A outer s H E) [] (start N vs) H s1:=JH S hr.hd e0 hl r x;refine aH6 (ht [] s1 (start N vs) H _ I hq) (λfl s' hs=>?_) λe s' hs=>hs
 have fin:∀{σ' :St} {H' :Hp} {v:V} {u:Value},Inv (u7 CX P w K mg base N qual scope f cdv A outer s H E) [] σ' H' s' ->RelV v u->Q v H' ->CE outer P w H s Q u s' :=
  λ{σ' H' v u} J rv q=>⟨v,H',J.os,J.bare,J.base,J.bZ,rv,q⟩
 cases fl with
 | ret u=>
  obtain⟨v,σ',H',J,rv,q⟩:=hs;exact fin J rv q
 | next=>
  obtain⟨σ',H',J,q⟩:=hs;exact fin (v:=V.b6) (u:=Value.none) J rfl q
 | brk=>
  obtain⟨_,_,_,q⟩:=hs;exact False.elim q
 | cont=>
  obtain⟨_,_,_,q⟩:=hs;exact False.elim q
section
variable {X:Cx}{x:Str}{p pos:Pos}{e:Expr}{es:List Expr}{t:TA}{id T:String}{r:List V->Hp->VK->Prop}
def tCB(r:List V->Hp->VK->Prop)(t:TA):TE:=λσ H Q=>t σ H λvs H1=>r vs H1 Q
theorem BS(hc:cS X (.builtin id) r)(hg:Gl X x)(hm:X.mg x=none)(hv:bootBuiltins x=some (.builtin id))(ha:PA X (e::es) t)(hn:x≠ "__name__":=by decide)(hdb:(x==("__debug__":Str))=false:=by decide)
  (he:starEach (e::es) X.env=(false,eval e X.env)::starEach es X.env:=by rfl) (hpl:(backTo pos (starEach es X.env)).any (·.1)=false:=by rfl):PE X (.Call (.Name x p) (e::es) [] pos) (tCB r t):=by
 intro pins s σ H Q I h;refine aIa (nZ I hg hm hv ?_ hn hdb);exact PyProof.Rows.callWith_builtin1 (cD (ha pos pins s σ H _ I h) λus s1 zz50=>by obtain⟨vs,H1,I1,r1,q1⟩:=zz50;exact hc pins s1 σ H1 vs us Q I1 r1 q1) he hpl
theorem xH(hc:cS X (.type T) r)(hg:Gl X x)(hm:X.mg x=none)(hv:bootBuiltins x=some (.type T))(ha:PA X (e::es) t)(hn:x≠ "__name__":=by decide)(hdb:(x==("__debug__":Str))=false:=by decide)
  (he:starEach (e::es) X.env=(false,eval e X.env)::starEach es X.env:=by rfl) (hpl:(backTo pos (starEach es X.env)).any (·.1)=false:=by rfl):PE X (.Call (.Name x p) (e::es) [] pos) (tCB r t):=by
 intro pins s σ H Q I h;refine aIa (nZ I hg hm hv ?_ hn hdb);exact aHw (cD (ha pos pins s σ H _ I h) λus s1 zz51=>by obtain⟨vs,H1,I1,r1,q1⟩:=zz51;exact hc pins s1 σ H1 vs us Q I1 r1 q1) he hpl
end
end L2
namespace HT
open PySem PyProof.Rows
section
open PySem.SeqAt
open PySem.AutoSeq1 (wpAny_loadPart')
open PySem.MeetsSeq PySem.MeetsSeq2 PySem.MeetsSeq3
end
section
variable {prog:Program}{w:World}{A:Around}{E:aKe}{s:Shared}
theorem TB{t b:Addr}{vs ws:List Value}{Q:aKe}(ht:IsTup s.heap t vs.toArray)(hb:IsTup s.heap b ws.toArray)(hv:vs≠[])
  (h1:ws=[]->Q (.ref t) s) (h2:ws≠[]->Q (.ref s.heap.objs.size) {s with heap:=s.heap.push {cls:= .type "tuple",data:= .seq (vs++ws).toArray}})
  (hsz:vs.length+ws.length<=sizeLine):wpAny (model prog w) A (binaryOp .Add (.ref t) (.ref b)) Q E s:=by
 obtain⟨⟨cls,dd,data,sl⟩,ho,hc,n,hd⟩:=id ht;obtain⟨⟨cls2,dd2,data2,sl2⟩,ho2,hc2,n2,hd2⟩:=id hb;simp only at hc hd hc2 hd2;subst hc hd hc2 hd2;have e:vs.toArray++ws.toArray=(vs++ws).toArray:=by simp
 by_cases hw:ws=[]
 ·exact concat_meets ⟨_,ho,rfl⟩ ⟨_,ho2,rfl⟩ noFill_tuple_add seq_tuple_add aJc aJ8 (aJ4 _ _)
   (tuple_addW1 t b vs.toArray ws.toArray n n2 dd dd2 sl sl2 (by simpa using hv) (by simp[hw])) ⟨ho,ho2,h1 hw⟩
 ·refine concat_meets ⟨_,ho,rfl⟩ ⟨_,ho2,rfl⟩ noFill_tuple_add seq_tuple_add aJc aJ8 (aJ4 _ _)
   (tuple_addW2 t b vs.toArray ws.toArray n n2 dd dd2 sl sl2 (by simpa using hv) (by simpa using hw) (by rw[List.size_toArray,List.size_toArray];exact hsz)) ⟨ho,ho2,?_⟩
  rw[e];exact h2 hw
def cU(n d:Nat):Option Int->Nat
 | none=>d
 | some v=>if v<0 then (v+(n:Int)).toNat else min v.toNat n
theorem VS(n d:Nat)(hd:d<=n)(o:Option Int):cU n d o<=n:=by
 cases o with
 | none=>exact hd
 | some v=>
  show (if v<0 then (v+(n:Int)).toNat else min v.toNat n)<=n;by_cases hv:v<0
  ·rw[if_pos hv];lia
  ·rw[if_neg hv];exact Nat.min_le_right _ _
theorem HI(v:Int)(n d:Nat):(if v<0 then max (v+(n:Int)) 0 else min v (n:Int))=((cU n d (some v):Nat):Int):=by
 show (if v<0 then max (v+(n:Int)) 0 else min v (n:Int))=(((if v<0 then (v+(n:Int)).toNat else min v.toNat n):Nat):Int);by_cases hv:v<0
 ·simp only[if_pos hv];lia
 ·simp only[if_neg hv];lia
theorem FY(lo hi:Option Int)(n:Nat):Builtin.Slice.sliceAdjust lo hi 1 (n:Int)=(((cU n 0 lo:Nat):Int),((cU n n hi:Nat):Int)):=by
 have h1:¬((1:Int)<0):=by lia
 unfold Builtin.Slice.sliceAdjust;simp only[h1,if_false];refine Prod.ext ?_ ?_
 ·cases lo with
  | none=>rfl
  | some v=>exact HI v n 0
 ·cases hi with
  | none=>rfl
  | some v=>exact HI v n n
theorem EH(i j:Nat):Builtin.Slice.slicePlaces (i:Int) (j:Int) 1=j-i:=by
 unfold Builtin.Slice.slicePlaces;have h1:(1:Int) > 0:=by lia
 simp only[h1,if_true,Int.ediv_one];split <;> lia
theorem tV{v:Value}{o:Option Int}{Q:Option Int->Shared->Prop}(p:IsPart v o)(h:Q o s):wpAny (model prog w) A (Builtin.Slice.slicePartIndex v) Q E s:=by
 cases p with
 | none=>exact slicePart_none h
 | int i t=>exact slicePart_int h
theorem i6{sl:Addr}{vl vu:Value}{lo hi:Option Int}{n:Nat}{Q:Int×Int×Nat->Shared->Prop}(hs:s.heap.IsSliceOf sl vl vu .none)(pl:IsPart vl lo)(pu:IsPart vu hi)
  (h:Q (((cU n 0 lo:Nat):Int),1,cU n n hi-cU n 0 lo) s):wpAny (model prog w) A (Builtin.Slice.sliceApplied (.ref sl) (pure (n:Int))) Q E s:=by
 obtain⟨os,hos,hcs,hds⟩:=id hs;unfold Builtin.Slice.sliceApplied Builtin.Slice.sliceFields;refine aGb (aGb (aHe hos hds (x:=vl) rfl (aGb (aHe hos hds (x:=vu) rfl (aGb (aHe hos hds (x:= .none) rfl (aGd ?_)))))));refine aGb (slicePart_none ?_);show wpAny _ _ (if ((1:Int)==0)=true then _ else _) _ _ s;rw[if_neg (by decide)];refine aGb (tV pl (aGb (tV pu (aGb (aGd ?_)))));show wpAny _ _ (match Builtin.Slice.sliceAdjust lo hi 1 (n:Int) with | (lo,hi)=>pure (lo,(1:Int),Builtin.Slice.slicePlaces lo hi 1)) _ _ s;rw[FY lo hi n];show wpAny _ _ (pure (((cU n 0 lo:Nat):Int),(1:Int),Builtin.Slice.slicePlaces ((cU n 0 lo:Nat):Int) ((cU n n hi:Nat):Int) 1)) _ _ s;rw[EH];exact aGd h
theorem MB(xs:Array Value)(i k:Nat):((List.range k).filterMap λ(m:Nat)=>xs[((i:Int)+(m:Int)*1).toNat]?).toArray=((xs.toList.drop i).take k).toArray:=by
 have e:(λ(m:Nat)=>xs[((i:Int)+(m:Int)*1).toNat]?)=λm=>xs[i+m]? :=by
  funext m;have:((i:Int)+(m:Int)*1).toNat=i+m:=by lia
  rw[this]
 rw[e];have:=pick_run xs i k;rw[List.filterMap_map]at this;have e2:((λx=>xs[x]?) ∘ λx=>i+x)=λm=>xs[i+m]? :=rfl;rw[e2]at this;rw[this]
theorem pQ{t sl:Addr}{items:Array Value}{vl vu:Value}{lo hi:Option Int}{Q:aKe}(ht:IsTup s.heap t items)(hs:s.heap.IsSliceOf sl vl vu .none)(pl:IsPart vl lo)(pu:IsPart vu hi)
  (hw:¬(cU items.size 0 lo=0/\cU items.size items.size hi=items.size))
  (h:Q (.ref s.heap.objs.size) {s with heap:=s.heap.push {cls:= .type "tuple",data:= .seq ((items.toList.drop (cU items.size 0 lo)).take (cU items.size items.size hi-cU items.size 0 lo)).toArray}})
  (hsz:items.size<=sizeLine):wpAny (model prog w) A (getItem (.ref t) (.ref sl)) Q E s:=by
 have htake:sizeOk (.seq ((items.toList.drop (cU items.size 0 lo)).take (cU items.size items.size hi-cU items.size 0 lo)).toArray):=by
  show ((items.toList.drop (cU items.size 0 lo)).take (cU items.size items.size hi-cU items.size 0 lo)).toArray.size<=sizeLine;rw[List.size_toArray,List.length_take,List.length_drop,Array.length_toList]
  lia
 have hj:cU items.size items.size hi<=items.size:=VS _ _ (aGi _) hi;obtain⟨os,hos,hcs,hds⟩:=id hs
 have hTs:s.TypeIs (.ref sl) "slice":=⟨os,hos,hcs⟩
 unfold getItem
 try with_reducible refine aH7 ?_
 first | refine aGb (aGd ?_) | skip
 refine aGb (wpAny_sequenceKey ht.typeIs (by decide) ?_)
 refine aGb (aH2 (name:=Str.ofString "__getitem__") ht.typeIs aHd
  (aGw aHd ht.typeIs entry_tuple_getitem ?_ (args_tuple_getitem _ _)))
 show wpAny _ _ (Builtin.Tuple.tupleItemsOf (.ref t) >>=_) _ _ s;refine aGb (tupleItemsOf_ ht ?_);refine aGb (aI7 hTs ?_);rw[if_pos (by decide)];refine aGb (i6 hs pl pu ?_)
 have hno:¬((((cU items.size 0 lo:Nat):Int)==0 && (1:Int)==1 && (cU items.size items.size hi-cU items.size 0 lo)==items.size)=true):=by
  intro q;rw[Bool.and_eq_true,Bool.and_eq_true]at q;have q1:((cU items.size 0 lo:Nat):Int)=0:=eq_of_beq q.1.1;have q2:cU items.size items.size hi-cU items.size 0 lo=items.size:=eq_of_beq q.2;exact hw ⟨by lia,by lia⟩
 show wpAny _ _ (if (((cU items.size 0 lo:Nat):Int)==0 && (1:Int)==1 && (cU items.size items.size hi-cU items.size 0 lo)==items.size)=true then _ else _) _ _ s;rw[if_neg hno,MB]
 first
  | exact aGb (m:=Builtin.Tuple.tupleExact _) (aH3 (aGd ⟨_,rfl,aGd h⟩) htake)
  | exact aGb (m:=Builtin.Tuple.tupleExact _) (aH3 (aGb (aGd (aGd ⟨_,rfl,aGd h⟩))) htake)
  | exact aGb (aGb (m:=Builtin.Tuple.tupleExact _) (aH3 (aGd (aGd ⟨_,rfl,aGd h⟩)) htake))
  | exact aGb (aGb (m:=Builtin.Tuple.tupleExact _) (aH3 (aGd ⟨_,rfl,aGd h⟩) htake))
end
end HT
namespace L2
open PySem PySem.Spec PyProof.Rows
abbrev TO:=St->Hp->(Option Int->Hp->Prop)->Prop
def PO(X:Cx)(e:Option Expr)(t:TO):Prop:=
 ∀(pins:List (Addr×Obj)) (s:Shared) (σ:St) (H:Hp) (Q:Option Int->Hp->Prop),Inv X pins σ H s->t σ H Q->
  wpAny (model X.prog X.w) X.A (evalPart e X.env) (λu s' =>∃o H',Inv X pins σ H' s' /\IsPart u o/\Q o H') X.xe s
def P7:TO:=λ_ H Q=>Q none H
def aAn(t:TE):TO:=λσ H Q=>t σ H λx H1=>∃i,x= .int i/\Q (some i) H1
section
variable {X:Cx}{e:Expr}{te:TE}{lo hi:Option Expr}{tl th:TO}{pos p2:Pos}
theorem Q2:PO X none P7:=by
 intro pins s σ H Q I h;rw[evalPart_none];exact aGd ⟨none,H,I,.none,h⟩
theorem Q1(h:PE X e te):PO X (some e) (aAn te):=by
 intro pins s σ H Q I hw;rw[evalPart_some];refine cD (h pins s σ H _ I hw) λu s1 zz52=>?_;obtain⟨x,H1,I1,r1,q1⟩:=zz52;obtain⟨i,rfl,q⟩:=q1;obtain⟨t,rfl⟩:=r1;exact⟨some i,H1,I1,.int i t,q⟩
def SlR(X:Cx)(r:V->Option Int->Option Int->Hp->VK->Prop):Prop:=
 ∀(pins:List (Addr×Obj)) (s:Shared) (σ:St) (H:Hp) (x:V) (v vl vu:Value) (lo hi:Option Int) (sl:Addr) (Q:VK),Inv X pins σ H s->RelV x v->s.heap.IsSliceOf sl vl vu .none->IsPart vl lo->IsPart vu hi->r x lo hi H Q->
  ∃T id,typeLookup (.type T) "__getitem__"=pure (some (.builtin id))/\s.TypeIs v T/\wpAny (model X.prog X.w) X.A (getItem v (.ref sl)) (EP X pins σ Q) X.xe s
def tSl(r:V->Option Int->Option Int->Hp->VK->Prop)(te:TE)(tl th:TO):TE:=λσ H Q=>te σ H λx H1=>tl σ H1 λl H2=>th σ H2 λu H3=>r x l u H3 Q
theorem MF{r:V->Option Int->Option Int->Hp->VK->Prop}(hr:SlR X r)(he:PE X e te)(hl:PO X lo tl)(hu:PO X hi th):PE X (.Subscript e (.Slice lo hi none p2) pos) (tSl r te tl th):=by
 intro pins s σ H Q I h;refine Subscript_ (cD (he pins s σ H _ I h) λv s1 zz53=>?_);obtain⟨x,H1,I1,r1,q1⟩:=zz53;refine wpAny_Slice (cD (hl pins s1 σ H1 _ I1 q1) λvl s2 ⟨l,H2,I2,pl,q2⟩=>cD (hu pins s2 σ H2 _ I2 q2) λvu s3 zz54=>?_);obtain⟨u,H3,I3,pu,q3⟩:=zz54;rw[evalPart_none];refine aGd ?_;have I4:Inv X pins σ H3 {s3 with heap:=s3.heap.push {cls:= .type "slice",data:= .fields #[vl,vu,.none]}}:=I3.kept (t' :=s3.toks) λb ob q=>aGe _ q;obtain⟨T,id,hT,ht,hg⟩:=hr pins {s3 with heap:=s3.heap.push {cls:= .type "slice",data:= .fields #[vl,vu,.none]}} σ H3 x v vl vu l u s3.heap.objs.size Q I4 r1 (Heap.IsSliceOf.new ..) pl pu q3;show wpAny (model X.prog X.w) X.A (subscriptTail e (.Slice lo hi none p2) v (.ref s3.heap.objs.size)) (EP X pins σ Q) X.xe {s3 with heap:=s3.heap.push {cls:= .type "slice",data:= .fields #[vl,vu,.none]}};exact tail_any (ops:=[.ref s3.heap.objs.size,v]) ht hT hg (by with_unfolding_all rfl)
def AH(xs:List V)(lo hi:Option Int):List V:=(xs.drop (HT.cU xs.length 0 lo)).take (HT.cU xs.length xs.length hi-HT.cU xs.length 0 lo)
theorem rX(xs:List V)(lo hi:Option Int):(AH xs lo hi).length<=xs.length:=by
 unfold AH;rw[List.length_take,List.length_drop]
 lia
def aF5(K:aKd):V->Option Int->Option Int->Hp->VK->Prop:=λx lo hi H Q=>∃a xs,x= .ref a/\oG K H a xs/\
 ¬(HT.cU xs.length 0 lo=0/\HT.cU xs.length xs.length hi=xs.length)/\∀p,H p=none->Q (.ref p) (upd H p (.tup (AH xs lo hi)))
theorem VP:SlR X (aF5 X.K):=by
 intro pins s σ H x v vl vu lo hi sl Q I rx hs pl pu h;obtain⟨a,xs,rfl,hx,hw,q⟩:=h;cases rx;obtain⟨aI,r,ht,hz⟩:=I.tuple hx;have hlen:aI.toArray.size=xs.length:=by rw[List.size_toArray];exact r.length.symm
 refine⟨"tuple",_,aHd.lookup,ht.typeIs,?_⟩;refine HT.pQ ht hs pl pu (by rw[hlen];exact hw) ?_ (by rw[hlen];exact hz);rw[hlen];refine⟨.ref s.heap.objs.size,_,I.laid (t' :=s.toks) (o:= .tup (AH xs lo hi)) (λb ob q=>aGe _ q) (aGi _) ?_,rfl,q _ (I.bZ.fresh (aGi _))⟩;exact⟨aH5 (rX xs lo hi) hz,_,(r.drop (HT.cU xs.length 0 lo)).take (HT.cU xs.length xs.length hi-HT.cU xs.length 0 lo),IsTup.new _ _,yT _ _⟩
def aBb(K:aKd):R2:=λx y H Q=>∃a b xs ys,x= .ref a/\y= .ref b/\oG K H a xs/\oG K H b ys/\xs≠[]/\xs.length+ys.length<=sizeLine/\
 (ys=[]->Q (.ref a) H)/\(ys≠[]->∀p,H p=none->Q (.ref p) (upd H p (.tup (xs++ys))))
theorem Vals.zF{xs:List V}{us:List Value}(r:Vals xs us):us=[]↔xs=[]:=by
 cases r with
 | nil=>simp
 | cons _ _=>simp
theorem RD:d8 X (binaryOp .Add) (aBb X.K):=by
 intro pins s σ H x y v u Q I rx ry h;obtain⟨a,b,xs,ys,rfl,rfl,ha,hb,hx,hz,q1,q2⟩:=h;cases rx;cases ry;obtain⟨aI,r1,p1,_⟩:=I.tuple ha;obtain⟨its2,r2,p2,_⟩:=I.tuple hb;refine HT.TB p1 p2 (λz=>hx (r1.zF.mp z)) (λz=>⟨.ref a,H,I,rfl,q1 (r2.zF.mp z)⟩) (λz=>?_) (by rw[<-r1.length,<-r2.length];exact hz);refine⟨.ref s.heap.objs.size,_,I.laid (t' :=s.toks) (o:= .tup (xs++ys)) (λb ob q=>aGe _ q) (aGi _) ?_,rfl,q2 (λw=>z (r2.zF.mpr w)) _ (I.bZ.fresh (aGi _))⟩;exact⟨by rw[List.length_append];exact hz,_,r1.append r2,IsTup.new _ _,yT _ _⟩
end
def E5(n:Nat)(i:Int):Option Nat:=if 0<=i then (if i<n then some i.toNat else none) else if -(n:Int)<=i then some (i+n).toNat else none
def nR{α:Type}(xs:List α)(i:Int):Option α:=(E5 xs.length i).bind λj=>xs[j]?
theorem G7{n:Nat}{i:Int}{j:Nat}(h:E5 n i=some j):seqIndex? i n=some j/\j<n/\ -(n:Int)<=i/\i<n:=by
 unfold E5 at h;by_cases h0:0<=i
 ·rw[if_pos h0]at h;by_cases h1:i<n
  ·rw[if_pos h1]at h;have e:i.toNat=j:=aGv h;exact⟨by rw[seqIndex_of h0 h1,e],by lia,by lia,h1⟩
  ·rw[if_neg h1]at h;cases h
 ·rw[if_neg h0]at h;by_cases h1: -(n:Int)<=i
  ·rw[if_pos h1]at h;have e:(i+n).toNat=j:=aGv h;exact⟨by rw[seqIndex_neg (by lia) h1,e],by lia,h1,by lia⟩
  ·rw[if_neg h1]at h;cases h
theorem AU{α:Type}{xs:List α}{i:Int}{v:α}(h:nR xs i=some v):∃j,seqIndex? i xs.length=some j/\xs[j]? =some v/\j<xs.length/\ -(xs.length:Int)<=i/\i<xs.length:=by
 unfold nR at h
 cases e:E5 xs.length i with
 | none=>rw[e]at h;cases h
 | some j=>
  rw[e]at h;obtain⟨h1,h2,h3,h4⟩:=G7 e;exact⟨j,h1,h,h2,h3,h4⟩
theorem iK{α:Type}{xs:List α}{j:Nat}{v:α}(h:xs[j]? =some v):nR xs (j:Int)=some v:=by
 have hj:j<xs.length:=(aGc.mp h).1
 have e:E5 xs.length (j:Int)=some j:=by
  unfold E5;rw[if_pos (by lia),if_pos (by lia)];simp
 unfold nR;rw[e];exact h
def HP(b:Expr):Prop:=∀o i,subscripted b false o i=operate [o,i] (getItem o i)
def UX(X:Cx)(r:R2):Prop:=
 ∀(value slice:Expr) (pins:List (Addr×Obj)) (s:Shared) (σ:St) (H:Hp) (x y:V) (v u:Value) (Q:VK),Inv X pins σ H s->RelV x v->RelV y u->r x y H Q->
  subscripted slice false v u=operate [v,u] (getItem v u)->wpAny (model X.prog X.w) X.A (subscriptTail value slice v u) (EP X pins σ Q) X.xe s
def MtR(X:Cx)(id:String)(r:V->List V->Hp->VK->Prop):Prop:=
 ∀(pins:List (Addr×Obj)) (s:Shared) (σ:St) (H:Hp) (x:V) (xs:List V) (v:Value) (us:List Value) (Q:VK),Inv X pins σ H s->RelV x v->Vals xs us->r x xs H Q->
  wpAny (model X.prog X.w) X.A (call (.builtin id) (v::us)) (EP X pins σ Q) X.xe s
section
variable {X:Cx}{a b:Expr}{ta tb:TE}{pos:Pos}
theorem aBi{r:R2}(hr:UX X r)(ha:PE X a ta)(hb:PE X b tb)(hs:HP b):PE X (.Subscript a b pos) (tOp r ta tb):=by
 intro pins s σ H Q I h;exact Subscript_ (ZJ ha hb I h λv u s2 x y H2 I2 rx ry q=>hr a b pins s2 σ H2 x y v u Q I2 rx ry q (hs _ _))
def aFa(K:aKd):R2:=λx y H Q=>∃p xs i v,x= .ref p/\y= .int i/\oH K H p xs/\nR xs i=some v/\Q v H
def aF8(K:aKd):R2:=λx y H Q=>∃p xs i v,x= .ref p/\y= .int i/\oG K H p xs/\nR xs i=some v/\Q v H
def aF9:R2:=λx y H Q=>∃z i c,x= .str z/\y= .int i/\z.length<=sizeLine/\nR z.cps.toList i=some c/\Q (.str ⟨#[c]⟩) H
theorem SO:UX X (aFa X.K):=by
 intro value slice pins s σ H x y v u Q I rx ry h hs;obtain⟨p,xs,i,z,rfl,rfl,hq,he,q⟩:=h;cases rx;obtain⟨t,rfl⟩:=ry;obtain⟨aI,r,pl,hz⟩:=I.list hq;obtain⟨j,h1,h2,h3,h4,h5⟩:=AU he;obtain⟨w,ew,rw'⟩:=r.get h2;have hl:=r.length;have hn:=lQ
 have fin:EP X pins σ Q w s:=⟨z,H,I,rw',q⟩
 by_cases h0:0<=i
 ·have hj:i.toNat=j:=by
   rw[seqIndex_of h0 h5]at h1;exact aGv h1
  exact item_listR pl.isList h0 (by lia) (by rw[hj];simpa using ew) fin hs
 ·have hj:(i+(aI.toArray.size:Int)).toNat=j:=by
   rw[seqIndex_neg (by lia) h4]at h1;rw[List.size_toArray,<-hl];exact aGv h1
  exact subscriptTail_builtinR (x:=w) pl.isList.typeIs slot_list_getitem.lookup
   (wpAny_getItem_list_neg (Q:=λr s' =>r=w/\EP X pins σ Q r s') pl.isList (by lia) (by rw[List.size_toArray] <;> lia) (by lia) (by rw[hj];simpa using ew) ⟨rfl,fin⟩) hs
theorem YI:UX X (aF8 X.K):=by
 intro value slice pins s σ H x y v u Q I rx ry h hs;obtain⟨p,xs,i,z,rfl,rfl,hq,he,q⟩:=h;cases rx;obtain⟨t,rfl⟩:=ry;obtain⟨aI,r,pl,hz⟩:=I.tuple hq;obtain⟨j,h1,h2,h3,h4,h5⟩:=AU he;obtain⟨w,ew,rw'⟩:=r.get h2;have hl:=r.length;have hn:=lQ
 have fin:EP X pins σ Q w s:=⟨z,H,I,rw',q⟩
 exact subscriptTail_builtinR (x:=w) pl.typeIs slot_tuple_getitem.lookup
  (getItem_tuple (j:=j) (Q:=λr s' =>r=w/\EP X pins σ Q r s') pl (by lia) (by lia) (by rw[List.size_toArray,<-hl];exact h1) (by simpa using ew) ⟨rfl,fin⟩) hs
theorem YJ:UX X aF9:=by
 intro value slice pins s σ H x y v u Q I rx ry h hs;obtain⟨z,i,c,rfl,rfl,hz,he,q⟩:=h;obtain⟨t,rfl⟩:=rx;obtain⟨t',rfl⟩:=ry;obtain⟨j,h1,h2,h3,h4,h5⟩:=AU he;have hl:z.cps.toList.length=z.length:=by simp[Str.length]
 rw[hl]at h1 h4 h5;have hn:=lQ
 exact tail_any (typeIs_str s z t) slot_str_getitem.lookup (getItem_str (c:=c) (by
  have e1:decide (i < -(2^63:Int))=false:=aIf (by lia);have e2:decide (i>=2^63)=false:=aIf (by lia)
  rw[e1,e2,Bool.or_false]) (by rw[h1];simpa using h2) ⟨.str ⟨#[c]⟩,H,I.tok _,⟨_,rfl⟩,q⟩) hs
theorem EU(aI:List Value)(n j:Nat)(u:Value):Obj.mapSeq (·.setIfInBounds j u) {cls:= .type "list",data:= .seq aI.toArray n}={cls:= .type "list",data:= .seq (aI.set j u).toArray n}:=by
 simp[Obj.mapSeq]
theorem Inv.lst{pins:List (Addr×Obj)}{σ:St}{H:Hp}{s:Shared}{p:Addr}{xs:List V}(I:Inv X pins σ H s)(h:H p=some (.lst xs)):
  ∃(aI:List Value) (n:Nat),Vals xs aI/\s.heap.get? p=some {cls:= .type "list",data:= .seq aI.toArray n}/\xs.length<=sizeLine:=by
 obtain⟨z,aI,n,r,e⟩:=I.bZ p _ h;exact⟨aI,n,r,e,z⟩
theorem Inv.XJ{pins:List (Addr×Obj)}{σ:St}{H:Hp}{s:Shared}{p:Addr}{xs ys:List V}{aI its' :List Value}{n n' :Nat}{f:Obj->Obj}(I:Inv X pins σ H s)(h:H p=some (.lst xs))
  (ho:s.heap.get? p=some {cls:= .type "list",data:= .seq aI.toArray n}) (hf:f {cls:= .type "list",data:= .seq aI.toArray n}={cls:= .type "list",data:= .seq its'.toArray n'}) (r:Vals ys its') (hz:ys.length<=sizeLine) (t:Nat):
  Inv X pins σ (upd H p (.lst ys)) {s with heap:=s.heap.update p f,toks:=t}:=by
 have e:(s.heap.update p f).get? p=some {cls:= .type "list",data:= .seq its'.toArray n'}:=by
  rw[Heap.get?_update_self f ho (by rw[hf] <;> rfl),hf]
 refine I.write (x:=p) (e:=p) (by rw[h];trivial) (.inl rfl) (λb u hb q=>(aH9 _ _ (aHh hb)).trans q) ⟨_,e⟩ ?_;exact⟨hz,its',n',r,e⟩
def aBa:V->V->V->Hp->(Hp->Prop)->Prop:=λo i v H Q=>∃p xs k j,o= .ref p/\i= .int k/\H p=some (.lst xs)/\E5 xs.length k=some j/\Q (upd H p (.lst (xs.set j v)))
theorem set_list:aD0 X aBa:=by
 intro pins s σ H o i v ov iv u Q I ro ri rv h;obtain⟨p,xs,k,j,rfl,rfl,hp,hj,q⟩:=h;cases ro;obtain⟨t,rfl⟩:=ri;obtain⟨aI,n,r,ho,hz⟩:=I.lst hp;obtain⟨h1,h2,h3,h4⟩:=G7 hj;have hl:=r.length;have hn:=lQ
 have I' :Inv X pins σ (upd H p (.lst (xs.set j v))) {s with heap:=s.heap.update p (Obj.mapSeq (·.setIfInBounds j u))}:=
  I.XJ hp ho (EU aI n j u) (r.set rv j) (by rw[List.length_set];exact hz) s.toks
 by_cases h0:0<=k
 ·have hk:k.toNat=j:=by
   rw[seqIndex_of h0 h4]at h1;exact aGv h1
  exact PySem.W.ki_setAt ho h0 (by lia) (by rw[List.size_toArray,<-hl];exact h4) (by rw[hk];exact⟨_,I',q⟩)
 ·have hk:(k+(aI.toArray.size:Int)).toNat=j:=by
   rw[seqIndex_neg (by lia) h3]at h1;rw[List.size_toArray,<-hl];exact aGv h1
  exact PySem.W.ki_setBack ho (by lia) (by rw[List.size_toArray,<-hl];exact h3) (by lia) (by rw[hk];exact⟨_,I',q⟩)
theorem yU(lo hi:Option Int)(n:Nat):(sliceBounds lo hi none n).1=((HT.cU n 0 lo:Nat):Int)/\(sliceBounds lo hi none n).2.1=((HT.cU n n hi:Nat):Int)/\(sliceBounds lo hi none n).2.2=1:=by
 refine⟨?_,?_,rfl⟩
 ·cases lo with
  | none=>simp[sliceBounds,HT.cU]
  | some i=>
   simp only[sliceBounds,HT.cU,Option.getD_none,show (1:Int) > 0 by decide,if_true];by_cases h:i<0
   ·simp only[h,if_true] <;> lia
   ·simp only[h,if_false] <;> lia
 ·cases hi with
  | none=>simp[sliceBounds,HT.cU]
  | some i=>
   simp only[sliceBounds,HT.cU,Option.getD_none,show (1:Int) > 0 by decide,if_true];by_cases h:i<0
   ·simp only[h,if_true] <;> lia
   ·simp only[h,if_false] <;> lia
theorem vR(aI:List Value)(lo hi:Option Int):slicePick aI.toArray lo hi none=((aI.drop (HT.cU aI.length 0 lo)).take (HT.cU aI.length aI.length hi-HT.cU aI.length 0 lo)).toArray:=by
 obtain⟨h1,h2,h3⟩:=yU lo hi aI.toArray.size;unfold slicePick;rw[h1,h2,h3];simp only[sliceRange_one,pick_run,List.size_toArray] <;> rfl
def aF6(K:aKd):V->Option Int->Option Int->Hp->VK->Prop:=λx lo hi H Q=>∃a xs,x= .ref a/\oH K H a xs/\∀p,H p=none->Q (.ref p) (upd H p (.lst (AH xs lo hi)))
theorem QF:SlR X (aF6 X.K):=by
 intro pins s σ H x v vl vu lo hi sl Q I rx hs pl pu h;obtain⟨a,xs,rfl,hx,q⟩:=h;cases rx;obtain⟨aI,r,ht,hz⟩:=I.list hx;have hlen:=r.length;refine⟨"list",_,slot_list_getitem.lookup,ht.isList.typeIs,?_⟩;refine wpAny_getItem_list_slice ht.isList hs pl pu .none (by simp) ?_ (by rw[List.size_toArray] <;> lia);rw[vR,<-hlen];refine⟨.ref s.heap.objs.size,_,I.laid (t' :=s.toks) (o:= .lst (AH xs lo hi)) (λb ob q=>aGe _ q) (aGi _) ?_,rfl,q _ (I.bZ.fresh (aGi _))⟩;exact⟨aH5 (rX xs lo hi) hz,_,0,(r.drop (HT.cU xs.length 0 lo)).take (HT.cU xs.length xs.length hi-HT.cU xs.length 0 lo),aGj _ rfl⟩
theorem AN:cS X (.builtin "len") (λxs H Q=>∃p ys,xs=[.ref p]/\(oH X.K H p ys\/oG X.K H p ys)/\Q (.int ys.length) H):=by
 intro pins s σ H xs us Q I r h;obtain⟨p,ys,rfl,hq,q⟩:=h;obtain⟨u,rfl,rx⟩:=vals1 r;cases rx;have hn:=lQ;rcases hq with hq | hq
 ·obtain⟨aI,r',pl,hz⟩:=I.list hq;have hlen:=r'.length;exact Calls.call_len_list pl.isList (by simp only[List.size_toArray] <;> lia) ⟨.int ys.length,H,I.tok _,⟨s.toks+1,by rw[List.size_toArray,hlen]⟩,q⟩
 ·obtain⟨aI,r',pl,hz⟩:=I.tuple hq;have hlen:=r'.length;exact len_tuple pl (by simp only[List.size_toArray] <;> lia) ⟨.int ys.length,H,I.tok _,⟨s.toks+1,by rw[List.size_toArray,hlen]⟩,q⟩
theorem AM:cS X (.builtin "len") (λxs H Q=>∃z,xs=[.str z]/\z.length<=sizeLine/\Q (.int z.length) H):=by
 intro pins s σ H xs us Q I r h;obtain⟨z,rfl,hz,q⟩:=h;obtain⟨u,rfl,t,rfl⟩:=vals1 r;have hn:=lQ;exact len_str (by lia) ⟨.int z.length,H,I.tok _,⟨_,rfl⟩,q⟩
theorem iT:cS X (.type "tuple") (λxs H Q=>∃p ys,xs=[.ref p]/\((oH X.K H p ys/\∀l,H l=none->Q (.ref l) (upd H l (.tup ys)))\/(oG X.K H p ys/\Q (.ref p) H))):=by
 intro pins s σ H xs us Q I r h;obtain⟨p,ys,rfl,h⟩:=h;obtain⟨u,rfl,rx⟩:=vals1 r;cases rx
 rcases h with ⟨hq,q⟩ | ⟨hq,q⟩
 ·obtain⟨aI,r',pl,hz⟩:=I.list hq;have hlen:=r'.length;refine call_tuple_list pl.isList (λh' kp=>?_) (by simp only[List.size_toArray] <;> lia);have I1:Inv X pins σ H {s with heap:=h'}:=I.kept (t' :=s.toks) kp
  have I2:Inv X pins σ (upd H h'.objs.size (.tup ys)) {s with heap:=h'.push {cls:= .type "tuple",data:= .seq aI.toArray}}:=
   I1.laid (t' :=s.toks) (λb o e=>aGe _ e) (aGi _) (show dA X.prog X.w _ _ _ (.tup ys) from ⟨hz,aI,r',IsTup.new _ _,yT _ _⟩)
  exact⟨.ref h'.objs.size,_,I2,rfl,q _ (I1.bZ.fresh (aGi _))⟩
 ·obtain⟨aI,r',pl,hz⟩:=I.tuple hq;exact call_tuple_same pl ⟨.ref p,H,I,rfl,q⟩
def tyV(K:aKd)(T:String)(x:V)(H:Hp):Prop:=match x with
 | .str _=>T= "str"
 | .int _=>T= "int"
 | .ref p=>(T= "list"/\∃xs,oH K H p xs)\/(T= "tuple"/\∃xs,oG K H p xs)\/
   (T= "dict"/\((∃kvs,H p=some (.dK kvs))\/∃kvs,H p=some (.dT kvs)))\/(T= "set"/\∃S n,H p=some (.set S n))
 | _=>False
theorem VA{pins:List (Addr×Obj)}{σ:St}{H:Hp}{s:Shared}{T:String}{x:V}{v:Value}(I:Inv X pins σ H s)(r:RelV x v)(ty:tyV X.K T x H):
  s.TypeIs v T/\∀a,v= .ref a->∃ob,s.heap.get? a=some ob/\ob.dict=none:=by
 cases x with
 | str z=>
  obtain⟨t,rfl⟩:=r;cases (show T= "str" from ty);exact⟨typeIs_str s z t,λ_ e=>nomatch e⟩
 | int i=>
  obtain⟨t,rfl⟩:=r;cases (show T= "int" from ty);exact⟨typeIs_int s i t,λ_ e=>nomatch e⟩
 | ref p=>
  cases r
  rcases ty with ⟨rfl,xs,hq⟩ | ⟨rfl,xs,hq⟩ | ⟨rfl,hk⟩ | ⟨rfl,S,n,hk⟩
  ·obtain⟨aI,_,pl,_⟩:=I.list hq;refine⟨pl.isList.typeIs,λa e=>?_⟩;cases e;obtain⟨o,n,e,c,hd,_⟩:=pl;exact⟨o,e,hd⟩
  ·obtain⟨o,e1,e2,e3⟩:=I.VB hq;refine⟨⟨o,e1,e2⟩,λa e=>?_⟩;cases e;exact⟨o,e1,e3⟩
  ·have z:∃o,s.heap.get? p=some o/\o.ExactDict:=by
    rcases hk with ⟨kvs,hk⟩ | ⟨kvs,hk⟩
    ·obtain⟨_,_,_,_,o,_,_,e,ex,_⟩:=I.bZ p _ hk;exact⟨o,e,ex⟩
    ·obtain⟨_,_,_,_,o,_,_,e,ex,_⟩:=I.bZ p _ hk;exact⟨o,e,ex⟩
   obtain⟨o,e,ex⟩:=z;refine⟨⟨o,e,ex.1⟩,λa e2=>?_⟩;cases e2;exact⟨o,e,ex.2.1⟩
  ·obtain⟨o,_,_,_,e,ex,_⟩:=I.bZ p _ hk;refine⟨⟨o,e,ex.1⟩,λa e2=>?_⟩;cases e2;exact⟨o,e,ex.2.1⟩
 | _=>exact False.elim ty
def tBM(K:aKd)(T:String)(r:V->List V->Hp->VK->Prop)(to:TE)(t:TA):TE:=λσ H Q=>to σ H λx H1=>tyV K T x H1/\t σ H1 λxs H2=>r x xs H2 Q
variable {o e:Expr}{es:List Expr}{to:TE}{t:TA}{name:Str}{apos dE:Pos}{T id:String}{r:V->List V->Hp->VK->Prop}
theorem aBj(pa:PlainAttrs T)(slot:Slot T name id)(hty:typeOf (.builtin id)=pure (.type "method_descriptor"))(hm:MtR X id r)(ho:PE X o to)(ha:PA X (e::es) t)
  (hbase:attributeBase o name X.env (eval o X.env)=eval o X.env:=by rfl)
  (hfew:((backTo dE (starEach (e::es) X.env)).all (λx=>!x.1) && (backToKw dE (keywordEach [] X.env)).all (λx=>x.1.isSome)
   && decide ((e::es).length+([]:List Keyword).length+(if ([]:List Keyword).isEmpty then 0 else 1)<30))=true:=by rfl)
  (hline:(apos.endLine==dE.line)=true:=by rfl) (hs:starEach (e::es) X.env=(false,eval e X.env)::starEach es X.env:=by rfl) (hplain:(backTo dE (starEach es X.env)).any (·.1)=false:=by rfl):
  PE X (.Call (.Attribute o name apos) (e::es) [] dE) (tBM X.K T r to t):=by
 intro pins s σ H Q I h;refine wpAny_Call_method_late hbase hfew hline rfl (cD (ho pins s σ H _ I h) λv s1 zz56=>?_);obtain⟨x,H1,I1,r1,ty,q1⟩:=zz56;obtain⟨h1,h2⟩:=VA I1 r1 ty;refine⟨T,id,pa,slot,hty,h1,h2,?_⟩;have hA:=ha dE pins s1 σ H1 _ I1 q1;rw[hs]at hA⊢;refine aJd (by show (false || (backTo dE (starEach es X.env)).any (·.1))=false;rw[hplain] <;> rfl) (aJq ?_);exact cD hA λus s2 zz57=>by obtain⟨vs,H2,I2,r2,q2⟩:=zz57;exact hm pins s2 σ H2 x vs v us Q I2 r1 r2 q2
end
def MtM(X:Cx)(id:String)(r:V->List V->Hp->VK->Prop):Prop:=
 ∀(pins:List (Addr×Obj)) (s:Shared) (σ:St) (H:Hp) (x:V) (xs:List V) (v:Value) (us:List Value) (Q:VK),Inv X pins σ H s->RelV x v->Vals xs us->r x xs H Q->
  wpAny (model X.prog X.w) X.A (call (.builtin id) (v::us)) (EP X pins σ Q) X.xe s
theorem Vals.one:∀{x:V} {us:List Value},Vals [x] us->∃u,us=[u]/\RelV x u
 | _,_,.cons r .nil=>⟨_,rfl,r⟩
section
variable {X:Cx}{pins:List (Addr×Obj)}{σ:St}{H:Hp}{s:Shared}{l b:Addr}{xs ys zs:List V}
theorem Inv.M8{aI its' :List Value}{n:Nat}{f:Array Value->Array Value}{t' :Nat}(I:Inv X pins σ H s)(hH:H l=some (.lst xs))
  (e:s.heap.get? l=some {cls:= .type "list",data:= .seq aI.toArray n}) (hf:f aI.toArray=its'.toArray) (hv:Vals ys its') (hz:ys.length<=sizeLine):
  Inv X pins σ (upd H l (.lst ys)) {s with heap:=s.heap.update l (Obj.mapSeq f),toks:=t'}:=by
 have q:=PySem.IsL.update e f;rw[hf]at q;refine I.write (x:=l) (e:=l) (by rw[hH];exact trivial) (.inl rfl) (λb' u hb hu=>(aH9 s.heap (Obj.mapSeq f) (aHh hb)).trans hu) ⟨_,q⟩ ?_;exact⟨hz,its',_,hv,q⟩
theorem Inv.aFk{aI:List Value}{t' :Nat}(I:Inv X pins σ H s)(hv:Vals ys aI)(hz:ys.length<=sizeLine):
  Inv X pins σ (upd H s.heap.objs.size (.lst ys)) {s with heap:=s.heap.push {cls:= .type "list",data:= .seq aI.toArray},toks:=t'}:=
 I.laid (λ_ _ q=>aGe _ q) (aGi _) ⟨hz,aI,0,hv,aGj _ rfl⟩
theorem Inv.fresh(I:Inv X pins σ H s):H s.heap.objs.size=none:=I.bZ.fresh (aGi _)
theorem Inv.zL(I:Inv X pins σ H s)(hH:H l=some (.lst xs)):xs.length<=sizeLine/\∃(aI:List Value) (n:Nat),Vals xs aI/\xs.length=aI.length/\s.heap.get? l=some {cls:= .type "list",data:= .seq aI.toArray n}:=by
 obtain⟨z,aI,n,r,e⟩:=I.bZ l _ hH;exact⟨z,aI,n,r,r.length,e⟩
theorem pI{n:Nat}(h:n<=sizeLine):Builtin.List.listTooLong n=false:=by
 unfold Builtin.List.listTooLong;exact aIf (by lia)
end
section
variable {X:Cx}
def QO:V->List V->Hp->VK->Prop:=λx vs H Q=>∃l xs y,x= .ref l/\vs=[y]/\H l=some (.lst xs)/\xs.length<sizeLine/\Q .b6 (upd H l (.lst (xs++[y])))
theorem qJ:MtM X "list.append" QO:=by
 intro pins s σ H x vs v us Q I rx rv h;obtain⟨l,xs,y,rfl,rfl,hH,hz,q⟩:=h;cases rx;obtain⟨u,rfl,ru⟩:=rv.one;obtain⟨z,aI,n,r,hl,e⟩:=I.zL hH;refine call_meets F.slot_list_append ⟨_,e,rfl⟩ F.entry_list_append (F.args_list_append_2 _ _) (PySem.list_append l aI.toArray n u (by rw[List.size_toArray];lia)) ⟨e,?_⟩;refine⟨.b6,_,I.M8 (its' :=aI++[u]) hH e (by simp) (r.append (.cons ru .nil)) ?_,rfl,q⟩;rw[List.length_append,List.length_singleton]
 lia
def QN:V->List V->Hp->VK->Prop:=λx vs H Q=>∃l b xs zs,x= .ref l/\vs=[.ref b]/\H l=some (.lst xs)/\H b=some (.lst zs)/\xs.length+zs.length<=sizeLine/\Q .b6 (upd H l (.lst (xs++zs)))
theorem Z5:MtM X "list.extend" QN:=by
 intro pins s σ H x vs v us Q I rx rv h;obtain⟨l,b,xs,zs,rfl,rfl,hH,hB,hz,q⟩:=h;cases rx;obtain⟨u,rfl,ru⟩:=rv.one;cases ru;obtain⟨z,aI,n,r,hl,e⟩:=I.zL hH;obtain⟨z2,its2,n2,r2,hl2,e2⟩:=I.zL hB;have hsz:aI.toArray.size+its2.toArray.size<=sizeLine:=by rw[List.size_toArray,List.size_toArray];lia
 have hlong:¬(!aI.toArray.isEmpty && Builtin.List.listTooLong (aI.toArray.size+its2.toArray.size))=true:=by
  rw[pI hsz,Bool.and_false];exact aJ7
 refine call_meets F.slot_list_extend ⟨_,e,rfl⟩ F.entry_list_extend (F.args_list_extend_2 _ _)
  (AutoSeq1.list_extend_list_list_0 l aI.toArray n b its2.toArray n2 hlong (by rw[List.size_toArray];lia) (by lia)) ⟨e,e2,?_⟩
 refine⟨.b6,_,I.M8 (its' :=aI++its2) hH e (by simp) (r.append r2) ?_,rfl,q⟩;rw[List.length_append]
 lia
def aFb:R2:=λx y H Q=>∃l b xs zs,x= .ref l/\y= .ref b/\H l=some (.lst xs)/\H b=some (.lst zs)/\xs.length+zs.length<=sizeLine/\∀p,H p=none->Q (.ref p) (upd H p (.lst (xs++zs)))
theorem WU:d8 X (binaryOp .Add) aFb:=by
 intro pins s σ H x y v u Q I rx ry h;obtain⟨l,b,xs,zs,rfl,rfl,hH,hB,hz,q⟩:=h;cases rx;cases ry;obtain⟨z,aI,n,r,hl,e⟩:=I.zL hH;obtain⟨z2,its2,n2,r2,hl2,e2⟩:=I.zL hB;refine PySem.P.add_list e e2 ?_ (by rw[List.size_toArray,List.size_toArray];lia);have ea:aI.toArray++its2.toArray=(aI++its2).toArray:=by simp
 rw[ea];exact⟨.ref _,_,I.aFk (t' :=s.toks) (r.append r2) (by rw[List.length_append];lia),rfl,q _ I.fresh⟩
end
end L2
namespace Att
open PySem PySem.W PySem.Calls PyProof.Rows
theorem sE{P:Params}{h:Heap}:∀(ns:List Int) (vs:List Value),WellAll P h vs (ns.map WData.int)->IntsAre vs ns:=by
 intro ns
 induction ns with
 | nil=>
  intro vs w;rw[List.map_nil]at w;cases w;exact .nil
 | cons n ns ih=>
  intro vs w;rw[List.map_cons]at w
  cases w with
  | cons a b=>
   cases a;exact .cons _ _ (ih _ b)
theorem IA{l:OpenLaw}{n:Nat}(hn:l.most=some n){P:Params}{h:Heap}{args:List WData}{vals:List Value}
  (hpre:l.row.toRowW.claim.pre args=true) (hwl:WellAll P h vals args):
  ∃a vs ns,vals=[Value.ref a]/\args=[WData.list (ns.map WData.int)]/\h.get? a=some {cls:= .type "list",data:= .seq vs.toArray}/\IntsAre vs ns/\ns.length<=n:=by
 have hsh:WShape.hasAll [] args [.list .int]=true:=(pre_splitW hpre).1;have hc:l.pre.holds [] {args:=args}=true:=(pre_splitW hpre).2;obtain⟨d,r,rfl,h1,h2⟩:=hasAllW_cons hsh;obtain rfl:=hasAllW_nil h2;obtain⟨xs,rfl,h3⟩:=hasW_list h1;obtain⟨ns,rfl⟩:=items_int h3
 have hlen:ns.length<=n:=by
  unfold OpenLaw.pre at hc
  have h4:(WTm.not (.lt (.lit (.int (n:Int))) (.len (.arg 0)))).holds [] {args:=[.list (ns.map .int)]}=true:=by
   have h4:=(holds_andW hc).1;rw[hn]at h4;exact h4
  have h5:=condW_of h4 (w_not (w_lt w_lit (w_len_list (w_arg rfl))));rw[List.length_map]at h5;refine aIl λq=>?_;have q' :(n:Int)<((ns.length:Nat):Int):=by lia
  first
   | (rw[decide_eq_true q']at h5;exact absurd h5 (by decide))
   | (simp at h5;lia)
 cases hwl with
 | cons w1 w2=>
  cases w2
  cases w1 with
  | list ho hall=>exact⟨_,_,ns,rfl,rfl,ho,sE ns _ hall,hlen⟩
theorem II(l:OpenLaw)(args:List WData):l.row.toRowW.claim.post args (.bool true) args=true:=
 postW_of (r:=l.row.toRowW) (X:=(true==true))
  (show WShape.has [] (.bool true) .bool=true by first | rfl | decide | simp[WShape.has,WShape.arms,WShape.armsAll])
  (show (WTm.eq .res (.lit (.bool true))).value [] {args:=args,res:=some (.bool true),after:=args}=some (.bool (true==true)) from w_eq_bool (w_res rfl) w_lit) rfl
theorem DL{l:OpenLaw}{n:Nat}{q:Program}{loose:List Str}{XP:(aKg)->Heap->Prop}{YP:World->Heap->Prop}{d:DefRec}
  (hn:l.most=some n) (hdf:d.params.defaults=[])
  (call:∀(w:World) (s₀ s₁:Shared) (mg mb:aKg) (fa:Addr) (o:Obj) (pm cd doc:Value) (a:Addr) (vs:List Value) (ns:List Int),
   Ground q loose [] XP w s₀ mg mb s₁.heap->YP w s₁.heap->
   s₁.heap.get? fa=some o->o.data= .func (docDef d.name d.params d.body d.scope pm cd doc)->s₁.heap.CodeRec cd d.name->mg d.name=some (.ref fa)->
   s₁.heap.get? a=some {cls:= .type "list",data:= .seq vs.toArray}->IntsAre vs ns->ns.length<=n->s₁.gens= #[]->
   codeAny (model l.prog w) callerA (.call (.ref fa) ⟨[.ref a],[]⟩) (λr s' =>r= .ok (.ret (.bool true))/\OldK s₁.heap s'.heap/\s'.os=s₁.os/\AllBare s'.gens) s₁):
  WalkO q loose XP YP l.row.toRowW d [] (λf vs=>PySem.call f vs):=by
 intro w s₀ s₁ mg mb G Y fa o pm cd doc dV kV ho hd hcd hD hmg hg args vals as hpre hlay hrd hwl hlo;obtain rfl:dV= .none:=Dflts.none hD hdf;obtain rfl:kV= .none:=Dflts.noKw hD;obtain⟨a,vs,ns,rfl,rfl,hobj,hints,hlen⟩:=IA hn hpre hwl;refine enter_call (aIi (call w s₀ s₁ mg mb fa o pm cd doc a vs ns G Y ho (fd_plain hd) hcd hmg hobj hints hlen hg) λr s' hq=>?_);obtain⟨rfl,h2,h3,h4⟩:=hq;exact⟨.inl ⟨.bool true,.bool true,[],rfl,λ_=>rfl,.bool true,II l _,λ_=>⟨List.Pairwise.nil,λ_ hm=>(nomatch hm)⟩⟩,h2,h3,h4⟩
end Att
namespace L2
open PySem PySem.Spec PyProof.Rows
theorem wO:∀{vs:List Value} {ns:List Int},IntsAre vs ns->Vals (ns.map V.int) vs
 | _,_,.nil=>.nil
 | _,_,.cons n t h=>.cons ⟨t,rfl⟩ (wO h)
def TQ(H:Hp):Prop:=∀b,H b=none\/∃o xs,H b=some (.frz o (.lst xs))
theorem NK{P:Program}{w:World}{K:aKd}{mg mb:aKg}{CX:KP}{k:Nat}{fa a:Addr}{fd:FuncData}{x:Str}{sp:Sp}{s₁:Shared}{vs:List Value}{ns:List Int}
  (KX:K.In s₁.heap) (hns:s₁.heap.Ns mainGlobals mg) (hb:s₁.heap.Ns builtinsNs mb) (hbb:∀x:Str,x≠ "__name__"->mb x=bootBuiltins x) (hlim:s₁.heap.NoLimit) (hg:s₁.gens= #[])
  (ha:s₁.heap.get? a=some {cls:= .type "list",data:= .seq vs.toArray}) (hi:IntsAre vs ns) (hl:ns.length<=sizeLine) (hr:fR k callerA)
  (F:∀base:Heap,K.In base->base.Ns mainGlobals mg->iU P w K mg base CX k fa fd [x] sp) (hbind:∀(s:Shared) (u:Value),BindsTo s fd ⟨[u],[]⟩ [(x,u)])
  (hsp:∀H:Hp,TQ H->oH K H a (ns.map V.int)->sp [.ref a] H (λv _=>v= .bl true) λ_ _ _=>False)
  (hCX:∀H e s',CX [] H s₁ (λ_ _ _=>False) e s' ->False):
  codeAny (model P w) callerA (.call (.ref fa) ⟨[.ref a],[]⟩) (λr s' =>r= .ok (.ret (.bool true))/\OldK s₁.heap s'.heap/\s'.os=s₁.os/\AllBare s'.gens) s₁:=by
 have rv:=wO hi;have lenV:=hi.length
 have core:∀H:Hp,TQ H->oH K H a (ns.map V.int)->qA P w H s₁.heap->(∀b,H b≠none->b=a)->(H a≠none->K.lookup a=none)->
   codeAny (model P w) callerA (.call (.ref fa) ⟨[.ref a],[]⟩) (λr s' =>r= .ok (.ret (.bool true))/\OldK s₁.heap s'.heap/\s'.os=s₁.os/\AllBare s'.gens) s₁:=by
  intro H hO hS bZ hA hK;have base_of:∀{b:Addr} {o:Obj},s₁.heap.get? b=some o->H b=none->(zV s₁.heap H).get? b=some o:=λe n=>NX e n
  have noA:∀{b:Addr} {o:Obj} {es:Array DictEntry} {ep:Nat},s₁.heap.get? b=some o->o.data= .dict es ep->H b=none:=λ{b o es ep} e d=>by
   cases q:H b with
   | none=>rfl
   | some u=>
    have e' :b=a:=hA b (by rw[q];simp);subst e';rw[ha]at e;cases e;have d' :Data.seq vs.toArray _=Data.dict es ep:=d;cases d'
  have nsK:∀{b:Addr} {m:aKg},s₁.heap.Ns b m->(zV s₁.heap H).Ns b m:=λ{b m} ⟨o,es,ep,e,d,r⟩=>⟨o,es,ep,base_of e (noA e d),d,r⟩
  have hKb:K.In (zV s₁.heap H):=λb o e=>base_of (KX b o e) (by
   cases q:H b with
   | none=>rfl
   | some u=>
    have e' :b=a:=hA b (by rw[q];simp);subst e'
    rw[hK (by rw[q];simp)]at e;cases e)
  have hM:Mod K mg (zV s₁.heap H):=⟨hKb,nsK hns,⟨mb,nsK hb,hbb⟩,let ⟨mc,h1,h2⟩:=hlim;⟨mc,nsK h1,h2⟩⟩
  have e0:TV P w K mg (zV s₁.heap H) callerA [] s₁ H:=⟨rfl,hM,λb o e=>RI e,Nat.le_of_eq (JI _ _),trivial,λb hb=>absurd (show b∈([]:List Addr) from hb) (by simp),bZ,.of_eq hg⟩
  refine aIi ((F _ hKb (nsK hns)).run callerA [] s₁ H ⟨[.ref a],[]⟩ [.ref a] [.ref a] _ _ hr e0 (hbind s₁ (.ref a)) (.cons rfl .nil) (hsp H hO hS)) λr s' h=>?_
  cases r with
  | error e=>exact(hCX H e s' h).elim
  | ok fl=>
   cases fl with
   | next=>exact False.elim h
   | brk=>exact False.elim h
   | cont=>exact False.elim h
   | ret u=>
    obtain⟨v,H',os,bare,un,hok',r',q⟩:=h;have q' :v= .bl true:=q;subst q';obtain rfl:u=Value.bool true:=r';refine⟨rfl,OldK.of_keep λb o e=>?_,os,bare⟩
    cases q:H b with
    | none=>exact un.keep b o e q (by intro z;exact absurd (show b∈([]:List Addr) from z) (by simp)) (by simp)
    | some u=>
     rcases hO b with z | ⟨ob,xs,z⟩
     ·rw[q]at z;cases z
     ·have z2:=un.zY b ob _ z;obtain⟨e1,_⟩:=bZ b _ z;obtain⟨e2,_⟩:=hok' b _ z2;rw[e]at e1;cases e1;exact e2
 cases hk:K.lookup a with
 | some o=>
  have e:=KX a o hk;rw[ha]at e;cases e;refine core (λ_=>none) (λ_=>.inl rfl) (.inr ⟨_,vs.toArray,_,hk,rfl,rfl,rfl,by rw[List.size_toArray,lenV];exact hl,by simpa using rv⟩) (λb u z=>by have z' :(none:Option HO)=some u:=z;cases z') (λb z=>absurd rfl z) λz=>absurd rfl z
 | none=>
  refine core (λb=>if b=a then some (.frz {cls:= .type "list",data:= .seq vs.toArray} (.lst (ns.map V.int))) else none) (λb=>?_) (.inl (.inr ⟨{cls:= .type "list",data:= .seq vs.toArray},if_pos rfl⟩)) (λb u z=>?_) (λb z=>?_) λ_=>hk
  ·by_cases hb:b=a
   ·exact .inr ⟨_,_,if_pos hb⟩
   ·exact .inl (if_neg hb)
  ·by_cases hb:b=a
   ·have z' :=(if_pos hb).symm.trans z;cases z';subst hb;exact⟨ha,by rw[List.length_map];exact hl,vs,_,rv,ha⟩
   ·have z' :=(if_neg hb).symm.trans z;cases z'
  ·by_cases hb:b=a
   ·exact hb
   ·exact absurd (if_neg hb) z
theorem PX{l:PySem.W.OpenLaw}{n k:Nat}{q:Program}{loose:List Str}{XP:(aKg)->Heap->Prop}{YP:World->Heap->Prop}{d:DefRec}{K:Params->aKd}{CX:World->KP}{sp:World->Sp}{x:Str}
  (hn:l.most=some n) (hn2:n<=sizeLine) (hdf:d.params.defaults=[]) (hr:fR k callerA)
  (hY:∀(w:World) (h:Heap),YP w h->(K w.params).In h)
  (F:∀(w:World) (mg:aKg) (fa:Addr) (h:Heap),(K w.params).In h->h.Ns mainGlobals mg->mg d.name=some (.ref fa)->
   ∃fd:FuncData,(∀(s:Shared) (u:Value),BindsTo s fd ⟨[u],[]⟩ [(x,u)])/\
    ∀base:Heap,(K w.params).In base->base.Ns mainGlobals mg->iU l.prog w (K w.params) mg base (CX w) k fa fd [x] (sp w))
  (hsp:∀(w:World) (H:Hp) (a:Addr) (ns:List Int),ns.length<=n->TQ H->oH (K w.params) H a (ns.map V.int)->sp w [.ref a] H (λv _=>v= .bl true) λ_ _ _=>False)
  (hCX:∀(w:World) (H:Hp) (s:Shared) (e:Value) (s' :Shared),CX w [] H s (λ_ _ _=>False) e s' ->False):
  PySem.W.WalkO q loose XP YP l.row.toRowW d [] (λf vs=>PySem.call f vs):=by
 refine Att.DL hn hdf λw s₀ s₁ mg mb fa o pm cd doc a vs ns G Y ho hd hcd hmg hobj hints hlen hg=>?_;have KX:=hY w _ Y;obtain⟨fd,hb,hF⟩:=F w mg fa _ KX G.T.g hmg;exact NK KX G.T.g G.T.b G.T.builtins G.T.nolimit hg hobj hints (aH5 hlen hn2) hr hF hb (λH hO hS=>hsp w H a ns hlen hO hS) λH e s' =>hCX w H s₁ e s'
def cM(s:Stmt):Arguments:=match s with
 | .FunctionDef _ a _ _ _ _ _ _ _ _=>a
 | _=>{posonlyargs:=[],args:=[],vararg:=none,kwonlyargs:=[],kw_defaults:=[],kwarg:=none,defaults:=[]}
def bU(s:Stmt):List Stmt:=match s with
 | .FunctionDef _ _ b _ _ _ _ _ _ _=>b
 | _=>[]
def aC(s:Stmt):Scope:=match s with
 | .FunctionDef _ _ _ _ _ _ sc _ _ _=>sc
 | _=>{kind:= .function,names:=[],isGenerator:=false,isCoroutine:=false}
abbrev AY:KP:=λ_ _ _ _ _ _=>False
abbrev E0:XK:=λ_ _ _=>False
theorem UG{X:Cx}:Passes AY X E0:=λ_ _ _ _ _ _ _ h=>h.elim
structure Fun(K:aKd)(x qual:Str)(st:Stmt)(f:Addr)(fd:FuncData):Prop where
 ex:∃(oc:Value) (od:Option Addr) (kV doc pm:Value) (an:Option Addr) (cdv ct:Value) (osl:Array (Option Value)),
  fd=PySem.W.fnOf x qual (cM st) (bU st) (aC st) .none kV doc pm an cdv ct/\K.lookup f=some ⟨oc,od,.func fd,osl⟩/\PySem.W.codeIn K cdv qual=true
 kp:PySem.W.keepIn K (.ref f)=true
section
variable {P:Program}{w:World}{K:aKd}{mg:aKg}{base:Heap}
theorem Fun.ok{x qual:Str}{st:Stmt}{f:Addr}{fd:FuncData}{N ps:List Str}{k:Nat}{sp:Sp}(F:Fun K x qual st f fd)(S:aU N ps (aC st))(len:∀vs H Q E,sp vs H Q E->vs.length=ps.length)
  (hbody:∀(cdv:Value) (A:Around) (outer:List Env) (s:Shared) (H:Hp) (vs:List V) (Q:VK) (E:XK),fR k (A.deeper (envOfC qual (aC st) s.heap.objs.size f cdv))->sp vs H Q E->
   ∃t,AW (u7 AY P w K mg base N qual (aC st) f cdv A outer s H E).PB (bU st) t/\t {nx:=λ_ H' =>Q .b6 H',rt:=Q} (start N vs) H):iU P w K mg base AY (k+1) f fd ps sp:=by
 obtain⟨oc,od,kV,doc,pm,an,cdv,ct,osl,rfl,lk,hcd⟩:=F.ex;refine UR lk hcd S len λA outer s H vs Q E hr hsp=>?_;obtain⟨t,h,q⟩:=hbody cdv A outer s H vs Q E hr hsp;exact⟨t,h.PB,q⟩
theorem Fun.binds{x qual:Str}{st:Stmt}{f:Addr}{fd:FuncData}{ps:List Str}(F:Fun K x qual st f fd)
  (h:∀(kV doc pm:Value) (an:Option Addr) (cdv ct:Value) (us:List Value),us.length=ps.length->bindArgs (PySem.W.fnOf x qual (cM st) (bU st) (aC st) .none kV doc pm an cdv ct) ⟨us,[]⟩=pure (ps.zip us)):Binds K fd ps []:=by
 obtain⟨oc,od,kV,doc,pm,an,cdv,ct,osl,rfl,lk,hcd⟩:=F.ex;exact .all (h kV doc pm an cdv ct)
theorem FF{x qual:Str}{st:Stmt}{f:Addr}{oc:Value}{od an:Option Addr}{osl:Array (Option Value)}{kV doc pm cdv ct:Value}(l:K.lookup f=some ⟨oc,od,.func (PySem.W.fnOf x qual (cM st) (bU st) (aC st) .none kV doc pm an cdv ct),osl⟩)
  (c:PySem.W.codeIn K cdv qual=true) (k:PySem.W.keepIn K (.ref f)=true):Fun K x qual st f (PySem.W.fnOf x qual (cM st) (bU st) (aC st) .none kV doc pm an cdv ct):=⟨⟨oc,od,kV,doc,pm,an,cdv,ct,osl,rfl,l,c⟩,k⟩
end
theorem wW{n:Nat}(h:n<=1000):n<sizeLine:=aK1 h (by decide)
section
variable {κ:Type}[DecidableEq κ]
def jH(kvs:List (κ×V))(k:κ):Option V:=(kvs.find? λkv=>decide (kv.1=k)).map (·.2)
def putK(kvs:List (κ×V))(k:κ)(v:V):List (κ×V):=
 if (kvs.any λkv=>decide (kv.1=k))=true then kvs.map (λkv=>if kv.1=k then (kv.1,v) else kv) else kvs++[(k,v)]
def f6(kvs:List (κ×V))(k:κ):List (κ×V):=kvs.filter λkv=>decide (kv.1≠k)
theorem oU{p:κ×V}{r:List (κ×V)}{k:κ}(e:p.1=k):jH (p::r) k=some p.2:=by simp[jH,List.find?_cons,e]
theorem oV{p:κ×V}{r:List (κ×V)}{k:κ}(e:¬p.1=k):jH (p::r) k=jH r k:=by simp[jH,List.find?_cons,e]
theorem BA(k:κ):∀kvs:List (κ×V),(kvs.any λkv=>decide (kv.1=k))=(jH kvs k).isSome
 | []=>rfl
 | p::r=>by
  rw[List.any_cons];by_cases e:p.1=k
  ·simp only[oU e,decide_eq_true e,Bool.true_or,Option.isSome_some]
  ·rw[oV e,decide_eq_false e,Bool.false_or];exact BA k r
theorem lR(kvs:List (κ×V))(k:κ)(v:V):(putK kvs k v).length<=kvs.length+1:=by
 unfold putK;split
 ·rw[List.length_map];lia
 ·rw[List.length_append,List.length_cons,List.length_nil];lia
theorem sF.xP{o:Option V}{u:Option Value}(r:sF o u):o.isSome=u.isSome:=by
 cases o with
 | none=>cases u with
  | none=>rfl
  | some _=>exact(show False from r).elim
 | some _=>cases u with
  | none=>exact(show False from r).elim
  | some _=>rfl
theorem sF.getD{o:Option V}{u:Option Value}{d:V}{d' :Value}(r:sF o u)(rd:RelV d d'):RelV (o.getD d) (u.getD d'):=by
 cases o with
 | none=>cases u with
  | none=>exact rd
  | some _=>exact(show False from r).elim
 | some _=>cases u with
  | none=>exact(show False from r).elim
  | some _=>exact r
theorem KV.val{kvs:List (κ×V)}{vs:List (κ×Value)}(r:KV kvs vs)(k:κ):sF (jH kvs k) (valueAt vs k):=by
 unfold KV at r
 induction r with
 | nil=>exact True.intro
 | @cons p q ps qs h t ih=>
  obtain⟨h1,h2⟩:=h;by_cases e:p.1=k
  ·have e' :q.1=k:=h1.symm.trans e;have b:valueAt (q::qs) k=some q.2:=by simp[valueAt,List.find?_cons,e']
   rw[oU e,b];exact h2
  ·have e' :¬q.1=k:=λz=>e (h1.trans z);have b:valueAt (q::qs) k=valueAt qs k:=by simp[valueAt,List.find?_cons,e']
   rw[oV e,b];exact ih
theorem KV.any{kvs:List (κ×V)}{vs:List (κ×Value)}(r:KV kvs vs)(k:κ):(kvs.any λkv=>decide (kv.1=k))=vs.any λkv=>decide (kv.1=k):=by
 unfold KV at r
 induction r with
 | nil=>rfl
 | cons h t ih=>rw[List.any_cons,List.any_cons,ih,h.1]
theorem KV.VU{kvs:List (κ×V)}{vs:List (κ×Value)}(r:KV kvs vs)(k:κ){y:V}{u:Value}(ry:RelV y u):
  KV (kvs.map λkv=>if kv.1=k then (kv.1,y) else kv) (vs.map λkv=>if kv.1=k then (kv.1,u) else kv):=by
 unfold KV at r⊢
 induction r with
 | nil=>exact .nil
 | @cons p q ps qs h t ih=>
  rw[List.map_cons,List.map_cons];refine .cons ?_ ih;obtain⟨h1,h2⟩:=h;by_cases e:p.1=k
  ·rw[if_pos e,if_pos (h1.symm.trans e)];exact⟨h1,ry⟩
  ·rw[if_neg e,if_neg (λz=>e (h1.trans z))];exact⟨h1,h2⟩
theorem KV.put{kvs:List (κ×V)}{vs:List (κ×Value)}(r:KV kvs vs)(k:κ){y:V}{u:Value}(ry:RelV y u):KV (putK kvs k y) (stored vs k u):=by
 unfold putK stored;rw[r.any k];by_cases e:(vs.any λkv=>decide (kv.1=k))=true
 ·rw[if_pos e,if_pos e];exact r.VU k ry
 ·rw[if_neg e,if_neg e];exact Paired.snoc r ⟨rfl,ry⟩
theorem KV.drop{kvs:List (κ×V)}{vs:List (κ×Value)}(r:KV kvs vs)(k:κ):KV (f6 kvs k) (without vs k):=by
 unfold KV at r⊢;unfold f6 without
 induction r with
 | nil=>exact .nil
 | @cons p q ps qs h t ih=>
  obtain⟨h1,h2⟩:=h;rw[List.filter_cons,List.filter_cons];by_cases e:p.1=k
  ·have a:¬decide (p.1≠k)=true:=by simp[e]
   have b:¬decide (q.1≠k)=true:=by simp[h1.symm.trans e]
   rw[if_neg a,if_neg b];exact ih
  ·have e' :¬q.1=k:=λz=>e (h1.trans z);have a:decide (p.1≠k)=true:=by simp[e]
   have b:decide (q.1≠k)=true:=by simp[e']
   rw[if_pos a,if_pos b];exact .cons ⟨h1,h2⟩ ih
theorem KV.length{kvs:List (κ×V)}{vs:List (κ×Value)}(r:KV kvs vs):kvs.length=vs.length:=Paired.length r
theorem OP(kvs:List (κ×V))(k:κ):(f6 kvs k).length<=kvs.length:=aJi _ _
end
theorem uS{P:Program}{w:World}{k:Key}{u:Value}(r:RelV (kV k) u):(aV P w).is k u=true:=by
 cases k with
 | inl i=>obtain⟨t,e⟩:=(show ∃t,u=Value.int i t from r);subst e;exact BY P w i t
 | inr x=>obtain⟨t,e⟩:=(show ∃t,u=Value.str x t from r);subst e;exact BX P w x t
theorem xO{P:Program}{w:World}:∀{ks:List Key} {us:List Value},Vals (ks.map kV) us->ItemsAre (aV P w) ks us
 | [],_,r=>by rw[List.map_nil]at r;cases r;exact .nil
 | k::ks,_,r=>by
  rw[List.map_cons]at r
  cases r with
  | cons h t=>exact .cons (uS h) (xO t)
abbrev KT(H:Hp):List (List Key×V)->List (List Key×Addr×Value)->Prop:=Paired λp q=>p.1=q.1/\H q.2.1=some (.tup (p.1.map kV))/\RelV p.2 q.2.2
theorem KT.val{H:Hp}{kvs:List (List Key×V)}{xs:List (List Key×Addr×Value)}(r:KT H kvs xs)(k:List Key):sF (jH kvs k) ((atKey xs k).map (·.2)):=by
 induction r with
 | nil=>exact True.intro
 | @cons p q ps qs h t ih=>
  obtain⟨h1,_,h2⟩:=h;by_cases e:p.1=k
  ·have e' :q.1=k:=h1.symm.trans e;have b:atKey (q::qs) k=some q.2:=by simp[atKey,List.find?_cons,e']
   rw[oU e,b];exact h2
  ·have e' :¬q.1=k:=λz=>e (h1.trans z);have b:atKey (q::qs) k=atKey qs k:=by simp[atKey,List.find?_cons,e']
   rw[oV e,b];exact ih
theorem KT.VU{H:Hp}{kvs:List (List Key×V)}{xs:List (List Key×Addr×Value)}(r:KT H kvs xs)(k:List Key){y:V}{u:Value}(ry:RelV y u):
  KT H (kvs.map λkv=>if kv.1=k then (kv.1,y) else kv) (xs.map (putAt k u)):=by
 induction r with
 | nil=>exact .nil
 | @cons p q ps qs h t ih=>
  rw[List.map_cons,List.map_cons];refine .cons ?_ ih;obtain⟨h1,h2,h3⟩:=h;unfold putAt;by_cases e:p.1=k
  ·rw[if_pos e,if_pos (h1.symm.trans e)];exact⟨h1,h2,ry⟩
  ·rw[if_neg e,if_neg (λz=>e (h1.trans z))];exact⟨h1,h2,h3⟩
theorem KT.put{H:Hp}{kvs:List (List Key×V)}{xs:List (List Key×Addr×Value)}(r:KT H kvs xs)(k:List Key){b:Addr}{y:V}{u:Value}(hb:H b=some (.tup (k.map kV)))(ry:RelV y u):
  KT H (putK kvs k y) (storedH xs k b u):=by
 have e:(kvs.any λkv=>decide (kv.1=k))=(atKey xs k).isSome:=by
  rw[BA,(r.val k).xP,Option.isSome_map]
 unfold putK storedH;rw[e];by_cases q:(atKey xs k).isSome=true
 ·rw[if_pos q,if_pos q];exact r.VU k ry
 ·rw[if_neg q,if_neg q];exact Paired.snoc r ⟨rfl,hb,ry⟩
theorem KT.keeps{H H' :Hp}{kvs:List (List Key×V)}{xs:List (List Key×Addr×Value)}(r:KT H kvs xs)(ht:∀b ys,H b=some (.tup ys)->H' b=some (.tup ys)):KT H' kvs xs:=
 Paired.XD r λ_ _ z=>⟨z.1,ht _ _ z.2.1,z.2.2⟩
section
variable {P:Program}{w:World}{H:Hp}{h:Heap}{a:Addr}
theorem UC{u:HO}(ok:qA P w H h)(e:Rd H a u):dA P w H h a u:=e.ok ok
theorem C6{kvs:List (Key×V)}(ok:qA P w H h)(e:Rd H a (.dK kvs)):kvs.length<=sizeLine/\(a==sysModules)=false/\∃vs,KV kvs vs/\h.DictOf (aV P w) a vs:=
 show dA P w H h a (.dK kvs) from UC ok e
theorem HF{kvs:List (Key×V)}(ok:qA P w H h)(e:H a=some (.dK kvs)):kvs.length<=sizeLine/\(a==sysModules)=false/\∃vs,KV kvs vs/\h.DictOf (aV P w) a vs:=C6 ok (.inl e)
theorem zQ{ks:List Key}(ok:qA P w H h)(e:H a=some (.tup (ks.map kV))):(tupleKind (aV P w)).is h ks a:=by
 obtain⟨_,aI,r,⟨o,h1,h2,n,h3⟩,_⟩:=(show dA P w H h a (.tup (ks.map kV)) from ok a _ e)
 exact⟨o,aI.toArray,n,h1,h2,h3,by simpa using xO r⟩
theorem C4{kvs:List (List Key×V)}(ok:qA P w H h)(e:Rd H a (.dT kvs)):kvs.length<=sizeLine/\(a==sysModules)=false/\
  ∃xs,KT H kvs xs/\h.DictOfH (tupleKind (aV P w)) a xs:=by
 obtain⟨z,y,xs,r,o,es,ep,h1,h2,h3,h4,h5⟩:=(show dA P w H h a (.dT kvs) from UC ok e)
 refine⟨z,y,xs,r,o,es,ep,h1,h2,h3,h4,λx hx=>?_,h5⟩
 have all:∀{l:List (List Key×V)} {m:List (List Key×Addr×Value)},KT H l m->∀x∈m,(tupleKind (aV P w)).is h x.1 x.2.1:=by
  intro l m q
  induction q with
  | nil=>intro x hx;exact nomatch hx
  | @cons p q ps qs hq t ih=>
   intro x hx;rcases aGk.mp hx with e | hx
   ·subst e;exact zQ ok (by rw[<-hq.1];exact hq.2.1)
   ·exact ih x hx
 exact all r x hx
theorem US{kvs:List (List Key×V)}(ok:qA P w H h)(e:H a=some (.dT kvs)):kvs.length<=sizeLine/\(a==sysModules)=false/\
  ∃xs,KT H kvs xs/\h.DictOfH (tupleKind (aV P w)) a xs:=C4 ok (.inl e)
end
def F2(H:Hp)(a:Addr)(y:V)(r:Option V):Prop:=
 (∃kvs k,Rd H a (.dK kvs)/\y=kV k/\r=jH kvs k)\/∃kvs k b,Rd H a (.dT kvs)/\y= .ref b/\H b=some (.tup (k.map kV))/\r=jH kvs k
def TY(H:Hp)(a:Addr)(y v:V)(H' :Hp):Prop:=
 (∃kvs k,H a=some (.dK kvs)/\y=kV k/\kvs.length<sizeLine/\H' =upd H a (.dK (putK kvs k v)))\/
 ∃kvs k b,H a=some (.dT kvs)/\y= .ref b/\H b=some (.tup (k.map kV))/\kvs.length<sizeLine/\H' =upd H a (.dT (putK kvs k v))
theorem F2.k{H:Hp}{a:Addr}{kvs:List (Key×V)}{k:Key}(e:H a=some (.dK kvs)):F2 H a (kV k) (jH kvs k):= .inl ⟨kvs,k,.inl e,rfl,rfl⟩
theorem TY.k{H:Hp}{a:Addr}{kvs:List (Key×V)}{k:Key}{v:V}(e:H a=some (.dK kvs))(hl:kvs.length<sizeLine):TY H a (kV k) v (upd H a (.dK (putK kvs k v))):= .inl ⟨kvs,k,e,rfl,hl,rfl⟩
section
variable {X:Cx}{pins:List (Addr×Obj)}{σ:St}{H:Hp}{s:Shared}{a:Addr}{y v:V}{u r:Value}{o:Option V}{A:Around}{E:aKe}
theorem Inv.big(I:Inv X pins σ H s):sysModules<s.heap.objs.size:=by
 have h:mainGlobals<s.heap.objs.size:=(I.mod.glob.keeps I.bk).lt;exact Nat.lt_trans (by decide) h
theorem JV{Q:aKe}(hu:A.units+1<cLine)(I:Inv X pins σ H s)(g:F2 H a y (some v))(ry:RelV y u)(h:∀w' s',Inv X pins σ H s' ->RelV v w' ->Q w' s'):
  wpAny (model X.prog X.w) A (getItem (.ref a) u) Q E s:=by
 rcases g with ⟨kvs,k,e,ey,l⟩ | ⟨kvs,k,b,e,ey,eb,l⟩
 ·subst ey;obtain⟨z,hd,vs,rel,dd⟩:=C6 I.bZ e;obtain⟨w',hw,rw'⟩:=sF.some_of (v:=v) (o:=valueAt vs k) (by rw[l];exact rel.val k);exact wpAny_getItem_of (uS ry) dd.mapOf hw (h w' _ (I.tok _) rw')
 ·subst ey;cases (show u=Value.ref b from ry);obtain⟨z,hd,xs,rel,dd⟩:=C4 I.bZ e;obtain⟨w',hw,rw'⟩:=sF.some_of (v:=v) (o:=(atKey xs k).map (·.2)) (by rw[l];exact rel.val k);obtain⟨p,hp,hp2⟩:=aHb.mp hw;refine wpAny_getItem_heap (aK2 hu) (zQ I.bZ eb) dd hp ?_;rw[hp2];exact h w' _ (I.tok _) rw'
theorem sP{h' :Heap}{t' :Nat}{ob:HO}(I:Inv X pins σ H s)(mu:KO (H a))(hs:Heap.SameBut a s.heap h')(he:∃q,h'.get? a=some q)(new:dA X.prog X.w (upd H a ob) h' a ob):
  Inv X pins σ (upd H a ob) {s with heap:=h',toks:=t'}:=
 I.write (x:=a) (e:=a) mu (.inl rfl) (λb q hb z=>(hs.2 b hb).trans z) he new
theorem FL{P:Program}{w:World}{H' :Hp}{h' :Heap}{kvs:List (Key×V)}{vs:List (Key×Value)}(z:kvs.length<=sizeLine)(hd:(a==sysModules)=false)(rel:KV kvs vs)(dd:h'.DictOf (aV P w) a vs):
  dA P w H' h' a (.dK kvs):=⟨z,hd,vs,rel,dd⟩
theorem JU{H' :Hp}{Q:Unit->Shared->Prop}(hu:A.units+1<cLine)(I:Inv X pins σ H s)(g:TY H a y v H')(ry:RelV y u)(rv:RelV v r)(h:∀s',Inv X pins σ H' s' ->Q () s'):
  wpAny (model X.prog X.w) A (setItem (.ref a) u r) Q E s:=by
 rcases g with ⟨kvs,k,e,ey,l,eH⟩ | ⟨kvs,k,b,e,ey,eb,l,eH⟩
 ·subst ey eH;obtain⟨z,hd,vs,rel,dd⟩:=HF I.bZ e;have hz:vs.length<=sizeLine:=by rw[<-rel.length];exact z
  have hl:(putK kvs k v).length<=sizeLine:=by have:=lR kvs k v;lia
  refine wpAny_setItem_pairs (hsz:=hz) (uS ry) dd λh' dd' hs=>h _ ?_;have he:∃q,h'.get? a=some q:=let ⟨q,_,_,hq,_⟩:=dd';⟨q,hq⟩;exact sP I (by rw[e];exact True.intro) hs he (FL hl hd (rel.put k rv) dd')
 ·subst ey eH;cases (show u=Value.ref b from ry);obtain⟨z,hd,xs,rel,dd⟩:=US I.bZ e;have hz:xs.length<=sizeLine:=by rw[<-Paired.length rel];exact z
  have hl:(putK kvs k v).length<=sizeLine:=by have:=lR kvs k v;lia
  refine wpAny_setItem_heap (hsz:=hz) (aK2 hu) (zQ I.bZ eb) dd λh' dd' hs=>h _ ?_;obtain⟨q,es,ep,hq,h2,h3,h4,_,h5⟩:=dd';refine sP I (by rw[e];exact True.intro) hs ⟨q,hq⟩ ⟨hl,hd,_,(rel.put k eb rv).keeps λc ys ec=>?_,q,es,ep,hq,h2,h3,h4,h5⟩;rw[aP (aBw ec e (λz=>nomatch z))];exact ec
end
section
variable {X:Cx}{pins:List (Addr×Obj)}{σ:St}{H:Hp}{s:Shared}{a:Addr}{kvs:List (Key×V)}{k:Key}{u:Value}{A:Around}{E:aKe}
theorem JW{Q:Unit->Shared->Prop}(I:Inv X pins σ H s)(e:H a=some (.dK kvs))(ry:RelV (kV k) u)(l:(jH kvs k).isSome=true)(h:∀s',Inv X pins σ (upd H a (.dK (f6 kvs k))) s' ->Q () s'):
  wpAny (model X.prog X.w) A (delItem (.ref a) u) Q E s:=by
 obtain⟨z,hd,vs,rel,dd⟩:=HF I.bZ e
 refine wpAny_delItem_slot dd.typeIs (by decide) PySem.F.slot_dict_delitem
  (call_meetsIn PySem.F.slot_dict_delitem dd.typeIs PySem.F.entry_dict_delitem (PySem.F.args_dict_delitem_2 _ _) (meets_dict_delitem_pairs (aV X.prog X.w) a (uS ry)) ⟨vs,dd,by rw[<-rel.length];exact z,by rw[<-(rel.val k).xP];exact l,λh' dd' hs=>h _ ?_⟩)
 have he:∃q,h'.get? a=some q:=let ⟨q,_,_,hq,_⟩:=dd';⟨q,hq⟩;exact sP I (by rw[e];exact True.intro) hs he (FL (aH5 (OP kvs k) z) hd (rel.drop k) dd')
end
theorem C7{X:Cx}{pins:List (Addr×Obj)}{σ:St}{H:Hp}{s:Shared}{a:Addr}{y:V}{o:Option V}(I:Inv X pins σ H s)(g:F2 H a y o):s.TypeIs (.ref a) "dict":=by
 rcases g with ⟨kvs,k,e,_,_⟩ | ⟨kvs,k,b,e,_,_,_⟩
 ·obtain⟨_,_,vs,_,dd⟩:=C6 I.bZ e;exact dd.typeIs
 ·obtain⟨_,_,xs,_,dd⟩:=C4 I.bZ e;exact dd.typeIs
def aB5(td ty tv:TE):TS:=λD σ H=>tv σ H λv H1=>td σ H1 λx H2=>ty σ H2 λy H3=>∃a H4,x= .ref a/\TY H3 a y v H4/\D.nx σ H4
def aB6(td ty:TE):TS:=λD σ H=>td σ H λx H1=>ty σ H1 λy H2=>∃a kvs k,x= .ref a/\H2 a=some (.dK kvs)/\y=kV k/\(jH kvs k).isSome=true/\D.nx σ (upd H2 a (.dK (f6 kvs k)))
section
variable {X:Cx}{o i e value:Expr}{pos pos' tpos:Pos}{td ty tv:TE}
theorem QY(hu:X.A.units+1<cLine)(ho:PE X o td)(hi:PE X i ty)(hv:PE X value tv)(hs:swapsWith value (some (.Subscript o i pos')) pos.line X.env=pure false):
  PS X (.Assign [.Subscript o i pos'] value pos) (aB5 td ty tv):=by
 intro pins s σ H D I h;refine wpAny_Assign_Subscript (cD (hv pins s σ H _ I h) λr s1 ⟨v,H1,I1,rv,q1⟩=>cD (ho pins s1 σ H1 _ I1 q1) λu s2 ⟨x,H2,I2,rx,q2⟩=>cD (hi pins s2 σ H2 _ I2 q2) λiv s3 ⟨y,H3,I3,ry,a,H4,ex,g,q3⟩=>?_) hs;subst ex;obtain rfl:u=Value.ref a:=rx
 exact JU hu I3 g ry rv λs4 I4=>⟨σ,H4,I4,q3⟩
theorem QZ(ho:PE X o td)(hi:PE X i ty):PS X (.Delete [.Subscript o i tpos] pos) (aB6 td ty):=by
 intro pins s σ H D I h;refine wpAny_Delete (wpAny_deleteEach_cons (wpAny_delete_Subscript (cD (ho pins s σ H _ I h) λu s1 ⟨x,H1,I1,rx,q1⟩=>cD (hi pins s1 σ H1 _ I1 q1) λiv s2 zz63=>?_)));obtain⟨y,H2,I2,ry,a,kvs,k,ex,e,ey,l,q2⟩:=zz63;subst ex ey;obtain rfl:u=Value.ref a:=rx;exact JW I2 e ry l λs3 I3=>wpAny_deleteEach_nil ⟨σ,_,I3,q2⟩
end
theorem OQ{P:Program}{w:World}{H:Hp}(h:Heap)(hb:sysModules<h.objs.size):dA P w H (h.push {cls:= .type "dict",data:= .dict #[]}) h.objs.size (.dK []):=
 ⟨aHp _,beq_eq_false_iff_ne.mpr (aHh (aGu hb)),[],.nil,Heap.DictOf.new h⟩
def VI:TE:=λ_ H Q=>∀p,H p=none->Q (.ref p) (upd H p (.dK []))
section
variable {X:Cx}{pos:Pos}
theorem MI:PE X (.Dict [] [] pos) VI:=λpins s σ H Q I h=>
 wpAny_Dict_empty ⟨.ref s.heap.objs.size,_,I.laid (a:=s.heap.objs.size) (o:= .dK []) (t' :=s.toks) (λ_ _ q=>aGe _ q) (aGi _) (OQ s.heap I.big),rfl,h _ (I.bZ.fresh (aGi _))⟩
end
structure M2(X:Cx)(o:Expr)(m:Str)(apos:Pos)(e f:Expr)(dE:Pos):Prop where
 base:attributeBase o m X.env (eval o X.env)=eval o X.env
 PF:((backTo dE (starEach [e,f] X.env)).all (λx=>!x.1) && (backToKw dE (keywordEach [] X.env)).all (λx=>x.1.isSome)
  && decide (([e,f]:List Expr).length+([]:List Keyword).length+(if ([]:List Keyword).isEmpty then 0 else 1)<30))=true
 line:(apos.endLine==dE.line)=true
 trees:backTo dE (starEach [e,f] X.env)=[(false,eval e X.env),(false,eval f X.env)]
def IsD(H:Hp)(a:Addr):Prop:=(∃kvs,Rd H a (.dK kvs))\/∃kvs,Rd H a (.dT kvs)
theorem NU{X:Cx}{pins:List (Addr×Obj)}{σ:St}{H:Hp}{s:Shared}{a:Addr}(I:Inv X pins σ H s)(d:IsD H a):
  s.TypeIs (.ref a) "dict"/\(∀b,Value.ref a= .ref b->∃ob,s.heap.get? b=some ob/\ob.dict=none)/\(a==sysModules)=false:=by
 rcases d with ⟨kvs,e⟩ | ⟨kvs,e⟩
 ·obtain⟨_,hd,vs,_,dd⟩:=C6 I.bZ e;refine⟨dd.typeIs,λb q=>?_,hd⟩;cases q;obtain⟨ob,_,_,h1,h2,_⟩:=dd;exact⟨ob,h1,h2.2.1⟩
 ·obtain⟨_,hd,xs,_,dd⟩:=C4 I.bZ e;refine⟨dd.typeIs,λb q=>?_,hd⟩;cases q;obtain⟨ob,_,_,h1,h2,_⟩:=dd;exact⟨ob,h1,h2.2.1⟩
section
variable {X:Cx}{pins:List (Addr×Obj)}{σ:St}{H:Hp}{s:Shared}{a:Addr}{y d:V}{u r:Value}{o:Option V}{A:Around}{E:aKe}
theorem Y4{Q:aKe}(hu:A.units+1<cLine)(I:Inv X pins σ H s)(g:F2 H a y o)(ry:RelV y u)(rd:RelV d r)(h:∀w' s',Inv X pins σ H s' ->RelV (o.getD d) w' ->Q w' s'):
  wpAny (model X.prog X.w) A (call (.builtin "dict.get") [.ref a,u,r]) Q E s:=by
 rcases g with ⟨kvs,k,e,ey,l⟩ | ⟨kvs,k,b,e,ey,eb,l⟩
 ·subst ey;obtain⟨z,hd,vs,rel,dd⟩:=C6 I.bZ e;refine call_meetsIn aJj dd.typeIs PySem.F.entry_dict_get (PySem.F.args_dict_get_3 _ _ _) (meets_dict_get_default (aV X.prog X.w) a (uS ry) hd r) ⟨_,dd.mapOf,h _ _ (I.tok _) ?_⟩;rw[l];exact(rel.val k).getD rd
 ·subst ey;cases (show u=Value.ref b from ry);obtain⟨z,hd,xs,rel,dd⟩:=C4 I.bZ e;refine call_meetsIn aJj dd.typeIs PySem.F.entry_dict_get (PySem.F.args_dict_get_3 _ _ _) (meetsH_dict_get_default (tupleKind (aV X.prog X.w)) a b hd r) ⟨aK2 hu,k,xs,zQ I.bZ eb,dd,h _ _ (I.tok _) ?_⟩;rw[l];exact(rel.val k).getD rd
end
def VJ(td ty tx:TE):TE:=λσ H Q=>td σ H λx H1=>∃a,x= .ref a/\IsD H1 a/\ty σ H1 λy H2=>tx σ H2 λz H3=>∃o,F2 H3 a y o/\Q (o.getD z) H3
section
variable {X:Cx}{o e f:Expr}{apos dE:Pos}{td ty tx:TE}
theorem MJ(hu:X.A.units+1<cLine)(ho:PE X o td)(he:PE X e ty)(hf:PE X f tx)(m:M2 X o "get" apos e f dE):PE X (.Call (.Attribute o "get" apos) [e,f] [] dE) (VJ td ty tx):=by
 intro pins s σ H Q I h;refine wpAny_Call_method m.base m.PF m.line PySem.F.plainAttrs_dict aJj PySem.F.type_dict_get (cD (ho pins s σ H _ I h) λu s1 zz67=>?_);obtain⟨x,H1,I1,rx,a,ex,d,q1⟩:=zz67;subst ex;obtain rfl:u=Value.ref a:=rx;obtain⟨t1,t2,_⟩:=NU I1 d;refine⟨t1,t2,?_⟩;rw[m.trees]
 refine aJd rfl (aJq (aI9 (cD (he pins s1 σ H1 _ I1 q1) λiv s2 ⟨y,H2,I2,ry,q2⟩=>
  aI9 (cD (hf pins s2 σ H2 _ I2 q2) λfv s3 ⟨z,H3,I3,rz,ov,g,q3⟩=>aJb ?_))))
 exact Y4 hu I3 g ry rz λw' s4 I4 rw' =>⟨_,H3,I4,rw',q3⟩
end
def lZ:List (Str×NameKind)->List (Str×Addr)->List (Str×Addr)->List (Str×Addr)
 | [],_,acc=>acc
 | (n,k)::r,cells,acc=>lZ r cells (if k== .free then (n,(cells.lookup n).getD 0)::acc else acc)
theorem yA{env:Env}:∀(names:List (Str×NameKind)) (acc:List (Str×Addr)),(∀x∈names,x.2= .free->∃c,env.cells.lookup x.1=some c)->
  (forIn names acc λ(x:Str×NameKind) (cs:List (Str×Addr))=>(if (x.2==NameKind.free)=true then do let a<-cellOf env x.1;pure (ForInStep.yield ((x.1,a)::cs)) else pure (ForInStep.yield cs):Sem _))=(pure (lZ names env.cells acc):Sem _)
 | [],acc,_=>by simp[lZ]
 | (n,k)::r,acc,h=>by
  have ih:=λacc' =>yA (env:=env) r acc' λx hx=>h x (aGg _ hx);rw[List.forIn_cons];by_cases hk:k= .free
  ·subst hk;obtain⟨c,hc⟩:=h (n,.free) aGf rfl;have hc' :env.cells.lookup n=some c:=hc;simp only[lZ,beq_self_eq_true,if_true,cellOf,hc',pure_bind,Option.getD_some];exact ih _
  ·have hb:(k==NameKind.free)=false:=by simpa using hk
   simp only[lZ,hb,Bool.false_eq_true,if_false,pure_bind];exact ih _
theorem wD{scope:Scope}{env:Env}(h:∀x∈scope.names,x.2= .free->∃c,env.cells.lookup x.1=some c):closureFor scope env=pure (lZ scope.names env.cells []):=by
 have e:=yA (env:=env) scope.names [] h;unfold closureFor;simp only[bind_pure_comp]at e⊢
 first
  | (rw[<-e];rfl)
  | (simp at e⊢;rw[<-e];rfl)
  | (simp at e⊢;exact e)
theorem yB{cells:List (Str×Addr)}{P:Str->Addr->Prop}:∀(names:List (Str×NameKind)) (acc:List (Str×Addr)),(∀x∈acc,P x.1 x.2)->(∀n,(n,NameKind.free)∈names->P n ((cells.lookup n).getD 0))->∀x∈lZ names cells acc,P x.1 x.2
 | [],acc,h,_,x,hx=>h x hx
 | (n,k)::r,acc,h,h2,x,hx=>by
  refine yB (cells:=cells) r _ (λy hy=>?_) (λm hm=>h2 m (aGg _ hm)) x hx;by_cases hk:k= .free
  ·subst hk;simp only[beq_self_eq_true,if_true]at hy;rcases aGk.mp hy with rfl | hy
   ·exact h2 n aGf
   ·exact h y hy
  ·have hb:(k==NameKind.free)=false:=by simpa using hk
   simp only[hb,Bool.false_eq_true,if_false]at hy;exact h y hy
theorem fM{α:Type}:∀{l:List (Str×α)} {n:Str} {c:α},(n,c)∈l->∃c',l.lookup n=some c'
 | (k,v)::r,n,c,h=>by
  rw[List.lookup_cons]
  cases hb:n==k with
  | true=>exact⟨v,rfl⟩
  | false=>
   rcases aGk.mp h with e | h
   ·injection e with e1 _;rw[e1]at hb;simp at hb
   ·exact fM h
theorem rY{cells:List (Str×Addr)}:∀(names:List (Str×NameKind)) (acc:List (Str×Addr)) (x:Str×Addr),x∈acc->x∈lZ names cells acc
 | [],_,_,h=>h
 | (n,k)::r,acc,x,h=>by
  refine rY r _ x ?_;by_cases hk:(k==NameKind.free)=true
  ·rw[if_pos hk];exact aGg _ h
  ·rw[if_neg hk];exact h
theorem yC{cells:List (Str×Addr)}:∀(names:List (Str×NameKind)) (acc:List (Str×Addr)) (n:Str),(n,NameKind.free)∈names->∃c,(n,c)∈lZ names cells acc
 | (m,k)::r,acc,n,h=>by
  rcases aGk.mp h with e | h
  ·injection e with e1 e2;subst e1 e2;exact⟨(cells.lookup n).getD 0,rY r _ _ (by simp)⟩
  ·exact yC r _ n h
theorem pE{scope:Scope}{env:Env}{x:Str}{k' :NameKind}:(relabel scope env).names.lookup x=some k' ->∃k,scope.names.lookup x=some k/\(k' =k\/(k= .free/\k' = .cell)):=by
 unfold relabel;dsimp only;generalize scope.names=l
 induction l with
 | nil=>intro h;simp at h
 | cons p r ih=>
  obtain⟨n,k⟩:=p;intro h;rw[List.map_cons]at h;by_cases hc:(k==NameKind.free && env.scope.kind== .function && env.kindOf n==some .cell)=true
  ·simp only[hc,if_true,List.lookup_cons]at h⊢
   cases hb:x==n with
   | true=>
    rw[hb]at h;simp only[Bool.and_eq_true,beq_iff_eq]at hc;exact⟨k,rfl,.inr ⟨hc.1.1,(aGv h).symm⟩⟩
   | false=>rw[hb]at h;exact ih h
  ·have hc' :(k==NameKind.free && env.scope.kind== .function && env.kindOf n==some .cell)=false:=by simpa using hc
   simp only[hc',Bool.false_eq_true,if_false,List.lookup_cons]at h⊢
   cases hb:x==n with
   | true=>rw[hb]at h;exact⟨k,rfl,.inl (aGv h).symm⟩
   | false=>rw[hb]at h;exact ih h
theorem yX{scope:Scope}{env:Env}{x:Str}:scope.names.lookup x=some .free->(relabel scope env).names.lookup x=some .cell\/(relabel scope env).names.lookup x=some .free:=by
 unfold relabel;dsimp only;generalize scope.names=l
 induction l with
 | nil=>intro h;simp at h
 | cons p r ih=>
  obtain⟨n,k⟩:=p;intro h;rw[List.map_cons];rw[List.lookup_cons]at h
  cases hb:x==n with
  | true=>
   rw[hb]at h;have hk:k= .free:=aGv h;subst hk;by_cases hc:(NameKind.free==NameKind.free && env.scope.kind== .function && env.kindOf n==some .cell)=true
   ·simp only[hc,if_true,List.lookup_cons,hb];first | exact .inl rfl | exact .inl trivial
   ·have hc' :(NameKind.free==NameKind.free && env.scope.kind== .function && env.kindOf n==some .cell)=false:=by simpa using hc
    simp only[hc',Bool.false_eq_true,if_false,List.lookup_cons,hb];first | exact .inr rfl | exact .inr trivial
  | false=>
   rw[hb]at h;by_cases hc:(k==NameKind.free && env.scope.kind== .function && env.kindOf n==some .cell)=true
   ·simp only[hc,if_true,List.lookup_cons,hb];exact ih h
   ·have hc' :(k==NameKind.free && env.scope.kind== .function && env.kindOf n==some .cell)=false:=by simpa using hc
    simp only[hc',Bool.false_eq_true,if_false,List.lookup_cons,hb];exact ih h
def aL(X:Cx)(own:List Str)(aD:List Nat)(scope:Scope)(cl:List (Str×Addr))(C:Addr)(fp:List Addr)(s₀:Shared)(H₀:Hp):Cx where
 prog:=X.prog
 w:=X.w
 K:=X.K
 mg:=X.mg
 base:=X.base
 A:=X.A
 N:=own++aD.map λi=>X.N.getD i ""
 s₀:=s₀
 H₀:=H₀
 env:=compEnvC scope cl C X.env
 outer:=X.stack
 stack:=X.stack
 ex:=fp
 fn:=λ_=>false
 calm:=X.calm
 pn:=[]
 xe:=λ_ _=>False
def qO(own:List Str)(aD:List Nat)(σ:St):St:=own.map (λ_=>none)++aD.map λi=>(σ[i]?).join
def dR(N:List Str)(sc scope:Scope)(aD:List Nat):Bool:=
 scope.kind== .function && scope.names.all (λy=>y.2 != .cell) && scope.names.all (λy=>y.2 != .local || scope.names.lookup y.1==some .local) &&
 scope.names.all (λy=>y.2 != .free || (sc.names.lookup y.1==some .cell || sc.names.lookup y.1==some .free)) &&
 aD.all (λi=>match N[i]? with | some x=>scope.names.lookup x==some .free | none=>false)
structure F4(X:Cx)(scope:Scope)(aD:List Nat):Prop where
 kind:scope.kind= .function
 MP:∀y∈scope.names,y.2≠ .cell
 loc:∀y∈scope.names,y.2= .local->scope.names.lookup y.1=some .local
 fr:∀y∈scope.names,y.2= .free->X.env.kindOf y.1=some .cell\/X.env.kindOf y.1=some .free
 cap:∀i∈aD,∃x,X.N[i]? =some x/\scope.names.lookup x=some .free
theorem F4.of{X:Cx}{scope sc:Scope}{N:List Str}{aD:List Nat}(hN:X.N=N)(hs:X.env.scope=sc)(h:dR N sc scope aD=true):F4 X scope aD:=by
 subst hN hs;unfold dR at h;simp only[Bool.and_eq_true,List.all_eq_true]at h;obtain⟨⟨⟨⟨h1,h2⟩,h3⟩,h4⟩,h5⟩:=h;refine⟨beq_iff_eq.mp h1,λy hy z=>?_,λy hy z=>?_,λy hy z=>?_,λi hi=>?_⟩
 ·have:=h2 y hy;rw[z]at this;exact absurd this (by decide)
 ·have:=h3 y hy;rw[z]at this;simpa using this
 ·have:=h4 y hy;rw[z]at this;have this:(X.env.scope.names.lookup y.1==some NameKind.cell || X.env.scope.names.lookup y.1==some NameKind.free)=true:=by simpa using this
  rcases Bool.or_eq_true_iff.mp this with q | q
  ·exact .inl (beq_iff_eq.mp q)
  ·exact .inr (beq_iff_eq.mp q)
 ·have:=h5 i hi
  cases e:X.N[i]? with
  | none=>rw[e]at this;simp at this
  | some x=>rw[e]at this;exact⟨x,rfl,beq_iff_eq.mp this⟩
def UW(X:Cx)(ifs:List Expr)(t:TT):Prop:=
 ∀(pins:List (Addr×Obj)) (s:Shared) (σ:St) (H:Hp) (Q:Bool->Hp->Prop),Inv X pins σ H s->t σ H Q->
  wpAny (model X.prog X.w) X.A (forIn ifs true λc r=>if r=true then do let ok<-isTrue c X.env (eval c X.env);pure (ForInStep.yield ok) else pure (ForInStep.yield r)) (TP X pins σ Q) X.xe s
def aE0:TT:=λ_ H Q=>Q true H
theorem QT{X:Cx}:UW X [] aE0:=λ_ _ _ H _ I h=>wpAny_tests_nil ⟨H,I,h⟩
theorem QS{X:Cx}{c:Expr}{t:TT}(h:PT X c t):UW X [c] t:=λpins s σ H Q I q=>wpAny_tests_one (h pins s σ H Q I q)
def qT(n:Nat)(g:TG):Prop:=∀v σ H Q,g v σ H Q->g v σ H λσ' H' =>Q σ' H' /\σ'.length=σ.length/\∀j,n<=j->σ'[j]? =σ[j]?
def HQ(n:Nat)(g:DQ):Prop:=∀vs σ H Q,g vs σ H Q->g vs σ H λσ' H' =>Q σ' H' /\σ'.length=σ.length/\∀j,n<=j->σ'[j]? =σ[j]?
theorem JK{n i:Nat}(h:i<n):qT n (pR i):=λv σ H Q q=>⟨q,by simp,λj hj=>by rw[List.getElem?_set_ne (by lia)]⟩
theorem OB{n:Nat}:HQ n JP:=λvs σ H Q q=>⟨q.1,q.2,rfl,λ_ _=>rfl⟩
theorem JL{n:Nat}{t:TG}{u:DQ}(mt:∀v σ H Q Q',(∀σ' H',Q σ' H' ->Q' σ' H')->t v σ H Q->t v σ H Q')(mu:∀v σ H Q Q',(∀σ' H',Q σ' H' ->Q' σ' H')->u v σ H Q->u v σ H Q')(h1:qT n t)(h2:HQ n u):HQ n (xT t u):=by
 intro vs σ H Q q;obtain⟨v,r,e,q⟩:=q;refine⟨v,r,e,mt _ _ _ _ _ (λσ' H' ⟨q',l,k⟩=>?_) (h1 _ _ _ _ q)⟩;refine mu _ _ _ _ _ (λσ2 H2 ⟨q2,l2,k2⟩=>?_) (h2 _ _ _ _ q');exact⟨q2,l2.trans l,λj hj=>(k2 j hj).trans (k j hj)⟩
theorem N9{n m:Nat}{K:aKd}{u:DQ}(h:HQ n u):qT n (S2 K m u):=by
 intro v σ H Q q;obtain⟨a,xs,e,hs,hl,q⟩:=q;exact⟨a,xs,e,hs,hl,h _ _ _ _ q⟩
theorem FC{i:Nat}:∀v σ H Q Q',(∀σ' H',Q σ' H' ->Q' σ' H')->pR i v σ H Q->pR i v σ H Q' :=λ_ _ _ _ _ h q=>h _ _ q
theorem JO:∀v σ H Q Q',(∀σ' H',Q σ' H' ->Q' σ' H')->JP v σ H Q->JP v σ H Q' :=λ_ _ _ _ _ h q=>⟨q.1,h _ _ q.2⟩
theorem FD{t:TG}{u:DQ}(mt:∀v σ H Q Q',(∀σ' H',Q σ' H' ->Q' σ' H')->t v σ H Q->t v σ H Q')(mu:∀v σ H Q Q',(∀σ' H',Q σ' H' ->Q' σ' H')->u v σ H Q->u v σ H Q'):
  ∀v σ H Q Q',(∀σ' H',Q σ' H' ->Q' σ' H')->xT t u v σ H Q->xT t u v σ H Q' :=by
 intro vs σ H Q Q' h ⟨v,r,e,q⟩;exact⟨v,r,e,mt _ _ _ _ _ (λσ' H' q' =>mu _ _ _ _ _ h q') q⟩
theorem DE{prog:Program}{w:World}{A:Around}{R:Result->Shared->Prop}{s:Shared}{elt target iter:Expr}{ifs:List Expr}{scope:Scope}{pos:Pos}{it acc:Value}{env:Env}(I:Nat->Shared->Prop)
  (turn:∀n s,I n s->wpAny (model prog w) A (pyNext it) (λr s₁=>match r with
   | none=>R (.ok .next) s₁
   | some v=>wpAny (model prog w) A (letOwnedTupleGo target it v) (λ_ s₁=>wpAny (model prog w) A (assign target env v) (λ_ s₂=>
     wpAny (model prog w) A (forIn ifs true λc r=>if r=true then do let ok<-isTrue c env (eval c env);pure (ForInStep.yield ok) else pure (ForInStep.yield r)) (λok s₃=>
      if ok=true then wpAny (model prog w) A (eval elt env) (λx s₄=>
       wpAny (model prog w) A (call (.builtin "list.append") [acc,x]) (λ_ s₅=>∃m,m<n/\I m s₅) (λ_ _=>False) s₄) (λ_ _=>False) s₃
      else ∃m,m<n/\I m s₃) (λ_ _=>False) s₂) (λ_ _=>False) s₁) (λ_ _=>False) s₁) (λ_ _=>False) s)
  (n:Nat) (h:I n s):codeAny (model prog w) A (.compLoop (.ListComp elt [⟨target,iter,ifs,0⟩] scope pos) 0 it acc env) R s:=by
 refine codeAny_loop rfl I (λn s hI=>?_) n h;show wpAny _ A ((compTurn (.ListComp elt [⟨target,iter,ifs,0⟩] scope pos) 0 it acc env).onRaise (λx=>do noteFrame x env;theTreesLotGoes x)) _ _ s;refine wpAny_noted ?_;rw[compTurn_list];refine aGb (aI8 (aGb (aH6 (turn n s hI) (λr s₁ h₁=>?_) λ_ _ h' =>h'.elim)))
 cases r with
 | none=>exact aGd h₁
 | some v=>
  refine aGb (aH6 h₁ (λ_ s₁ h₁=>?_) λ_ _ h' =>h'.elim);refine aGb (aH6 h₁ (λ_ s₂ h₂=>aGb (aH6 h₂ (λok s₃ h₃=>?_) λ_ _ h' =>h'.elim)) λ_ _ h' =>h'.elim)
  cases ok with
  | false=>exact aGd ⟨rfl,h₃⟩
  | true=>
   exact aGb (aGb (aH6 h₃ (λx s₄ h₄=>aGb (aH6 h₄ (λ_ s₅ h₅=>aGd (aGd ⟨rfl,h₅⟩)) λ_ _ h' =>h'.elim)) λ_ _ h' =>h'.elim))
abbrev TBd:=List V->St->Hp->(List V->Hp->Prop)->Prop
def QA(own:List Str)(aD:List Nat)(wi:TI)(g:TG)(tt:TT)(tb:Addr->TBd):TE:=λσ H Q=>wi σ H λJ H1=>∀acc,H1 acc=none->
 ∃W:Nat->Nat->List V->Hp->Prop,(∃m,W 0 m [] (upd H1 acc (.lst [])))/\∀i m ys H,W i m ys H->H acc=some (.lst ys)/\
  ((J.stop i H/\Q (.ref acc) H)\/(J.go i H/\∃N:List V->Hp->Prop,(∀ys' H',N ys' H' ->∃m',m'<m/\W (i+1) m' ys' H')/\
   ∀x H',J.ZX i H x H' ->g x (qO own aD σ) H' λσ2 H2=>tt σ2 H2 λb H3=>if b=true then tb acc ys σ2 H3 N else N ys H3))
def tbE(te:TE)(acc:Addr):TBd:=λys σ H N=>ys.length<sizeLine/\te σ H λy H4=>H4 acc=some (.lst ys)/\N (ys++[y]) (upd H4 acc (.lst (ys++[y])))
def tLC(own:List Str)(aD:List Nat)(wi:TI)(g:TG)(tt:TT)(te:TE):TE:=QA own aD wi g tt (tbE te)
theorem x8{X:Cx}{tg iter elt:Expr}{ifs:List Expr}{more:List Comprehension}{scope sc:Scope}{N:List Str}{pos:Pos}{wi:TI}{g:TG}{tt:TT}{tb:Addr->TBd}(own:List Str)(o1:Nat)(aD:List Nat)(B:Env->Addr->(Shared->Prop)->Shared->Prop)
  (hN:X.N=N) (hsc:X.env.scope=sc) (chk:dR N sc scope aD=true) (fO:X.calm=true) (hi:PI X tg iter wi) (ho1:o1<=own.length) (ho:qT o1 g)
  (hg:∀cl C fp s₀ H₀,PG (aL X own aD scope cl C fp s₀ H₀) tg g) (ht:∀cl C fp s₀ H₀,UW (aL X own aD scope cl C fp s₀ H₀) ifs tt)
  (hbody:∀acc cl C fp s₀ H₀ pins s σ H ys NN K,Inv (aL X own aD scope cl C fp s₀ H₀) pins σ H s->(∀j,o1<=j->j<own.length->σ[j]? =some none)->tb acc ys σ H NN->
   (∀ysn H' s',Inv (aL X own aD scope cl C fp s₀ H₀) pins σ H' s' ->NN ysn H' ->K s')->B (compEnvC scope cl C X.env) acc K s)
  (hloop:∀(it acc:Addr) (env:Env) (R:Result->Shared->Prop) (I:Nat->Shared->Prop),(∀n s,I n s->wpAny (model X.prog X.w) X.A (pyNext (.ref it)) (λr s₁=>match r with
   | none=>R (.ok .next) s₁
   | some v=>wpAny (model X.prog X.w) X.A (letOwnedTupleGo tg (.ref it) v) (λ_ s₁=>wpAny (model X.prog X.w) X.A (assign tg env v) (λ_ s₂=>
     wpAny (model X.prog X.w) X.A (forIn ifs true λc r=>if r=true then do let ok<-isTrue c env (eval c env);pure (ForInStep.yield ok) else pure (ForInStep.yield r)) (λok s₃=>
      if ok=true then B env acc (λs=>∃m,m<n/\I m s) s₃ else ∃m,m<n/\I m s₃) (λ_ _=>False) s₂) (λ_ _=>False) s₁) (λ_ _=>False) s₁) (λ_ _=>False) s)->
   ∀n s,I n s->codeAny (model X.prog X.w) X.A (.compLoop (.ListComp elt (⟨tg,iter,ifs,0⟩::more) scope pos) 0 (.ref it) (.ref acc) env) R s)
  (hs:∀x,foldedSetIterable iter X.env x=pure x) {pins:List (Addr×Obj)} {s:Shared} {σ:St} {H:Hp} {Q:VK} {use:Option (Value->Sem Unit)} {Q' :aKe} (I:Inv X pins σ H s) (h:QA own aD wi g tt tb σ H Q)
  (hend:∀(acc C:Addr) (m:aKg) (H5:Hp) (s6:Shared) (r:Flow),Inv X pins σ H5 s6->H5 C=none->C≠X.env.locals->X.s₀.heap.objs.size<=C->(∀x c,X.env.cells.lookup x=some c->c≠C)->(∀p∈X.pn++pins,p.1≠C)->s6.heap.Ns C m->Q (.ref acc) H5->
   compPost (model X.prog X.w) X.A X.xe use Q' (.ref acc) C (.ok r) s6):
  wpAny (model X.prog X.w) X.A (comprehension (.ListComp elt (⟨tg,iter,ifs,0⟩::more) scope pos) scope X.env (firstIterPos (⟨tg,iter,ifs,0⟩::more) pos) (newList []) (firstAsync (⟨tg,iter,ifs,0⟩::more)) (firstIter (⟨tg,iter,ifs,0⟩::more) X.env) use) Q' X.xe s:=by
 have ck:=F4.of hN hsc chk;have hcl:∀x∈scope.names,x.2= .free->∃c,X.env.cells.lookup x.1=some c:=λx hx hf=>I.ok.has x.1 (ck.fr x hx hf);refine wpAny_comprehension_free (use:=use) (cl:=lZ scope.names X.env.cells []) rfl hs (wD hcl) ck.kind ck.loc (cD (hi pins s σ H _ I h) λv s1 h1=>cD h1 λitv s2 h2=>?_);obtain⟨it,fp,tn,J,H2,e,I2,T,st2,f2,hW⟩:=h2;subst e;refine aH3 (wpAny_newFunctionEnv ck.MP (by intro y hy;simp at hy) (λh₁ hns₁ hsb₁=>?_) ck.kind);dsimp only at hns₁ hsb₁⊢;have hacc0:H2 s2.heap.objs.size=none:=I2.bZ.fresh (aGi _);obtain⟨W,⟨m0,w0⟩,turn⟩:=hW s2.heap.objs.size hacc0
 have I3:Inv X pins σ (upd H2 s2.heap.objs.size (.lst [])) {s2 with heap:=s2.heap.push {cls:= .type "list",dict:=none,data:= .seq ([]:List Value).toArray}}:=
  I2.laid (t' :=s2.toks) (λb u e=>aGe _ e) (aGi _) ⟨aHp _,[],0,.nil,aGj _ rfl⟩
 generalize hH3:upd H2 s2.heap.objs.size (.lst [])=H3 at I3 w0;generalize hG:s2.heap.push {cls:= .type "list",dict:=none,data:= .seq ([]:List Value).toArray}=G at I3 hns₁ hsb₁⊢;have hGs:G.objs.size=s2.heap.objs.size+1:=by rw[<-hG,Heap.size_push]
 generalize hcl' :lZ scope.names X.env.cells []=cl at⊢
 have clOk:∀x c,cl.lookup x=some c->X.env.cells.lookup x=some c:=λx c e=>by
  have:=yB (cells:=X.env.cells) (P:=λx c=>X.env.cells.lookup x=some c) scope.names [] (by simp) (λn hn=>by
   obtain⟨c,hc⟩:=hcl (n,.free) hn rfl;have hc' :X.env.cells.lookup n=some c:=hc
   rw[hc'];rfl) (x,c) (by rw[hcl'];exact aHl e)
  exact this
 have clHas:∀x,scope.names.lookup x=some .free->∃c,cl.lookup x=some c:=λx e=>by
  obtain⟨c,hc⟩:=yC (cells:=X.env.cells) scope.names [] x (aHl e);rw[hcl']at hc;exact fM hc
 have fpObj:=T.obj _ _ st2;have fpLt:∀b∈fp,b<s2.heap.objs.size:=λb hb=>by obtain⟨o,e,_⟩:=fpObj b hb;exact aGl e
 have bZ:(aL X own aD scope cl G.objs.size fp {s2 with heap:=G} H3).Ok:=by
  refine⟨I3.ok.mod,ck.kind,I3.ok.glob,I3.ok.blt,aGi _,λx y c e1 e2=>I3.ok.inj x y c (clOk x c e1) (clOk y c e2),λx hx=>?_,λx c hf _=>absurd hf (by simp[aL]),I3.ok.hd,I3.ok.frames,.inl rfl,λb hb=>⟨?_,λx c e=>?_⟩,I3.bs,aH5 I3.ok.TF I3.sz,λb o e hb=>?_,λb hb z=>?_,I3.stack,I3.GI⟩
  ·have hx:(relabel scope X.env).names.lookup x=some .cell\/(relabel scope X.env).names.lookup x=some .free:=hx;rcases hx with q | q
   ·obtain⟨k,hk,z | ⟨z,_⟩⟩:=pE q
    ·exact absurd z.symm (ck.MP _ (aHl hk))
    ·exact clHas x (by rw[hk,z])
   ·obtain⟨k,hk,z | ⟨_,z⟩⟩:=pE q
    ·exact clHas x (by rw[hk,<-z])
    ·cases z
  ·exact aGu (Nat.lt_trans (fpLt b hb) (by show s2.heap.objs.size<G.objs.size;rw[hGs];exact aI1 _))
  ·exact(f2 b hb).2.2.2.2.1 x c (clOk x c e)
  ·rcases(f2 b hb).2.2.2.1 with z | z
   ·exact I3.ok.MN b o e z
   ·exact absurd (aGz (aGl e) (aH5 I3.ok.TF z)) (aHx _)
  ·rcases aGk.mp (I3.D0 b z) with q | q
   ·exact(f2 b hb).2.1 q
   ·exact(f2 b hb).2.2.1 q
 have kept:∀b o,G.get? b=some o->h₁.get? b=some o:=λb o e=>hsb₁.extBut b o (aGu (aGl e)) (aGe _ e);have hCn:H3 G.objs.size=none:=I3.bZ.fresh (aGi _)
 have I4:Inv (aL X own aD scope cl G.objs.size fp {s2 with heap:=G} H3) [] (qO own aD σ) H3 {s2 with heap:=h₁,toks:=s2.toks+([]:List (Str×Value)).length}:=by
  refine⟨bZ,rfl,I3.bare,Un.kept kept,⟨_,hns₁,λi x v e1 e2 e3=>?_⟩,λx c e=>?_,hCn,λx c e=>I3.lV x c (clOk x c e),λp hp=>absurd hp (by simp[aL]),I3.bZ.kept kept,by simp[qO,aL]⟩
  ·have hge:own.length<=i:=by
    refine aIl λhlt=>?_;unfold qO at e2;rw[List.getElem?_append_left (by simpa using hlt),List.getElem?_map]at e2
    cases q:own[i]? with
    | none=>rw[q]at e2;simp at e2
    | some z=>rw[q]at e2;simp at e2
   unfold qO at e2;have e1' :(own++aD.map λi=>X.N.getD i "")[i]? =some x:=e1;rw[List.getElem?_append_right hge,List.getElem?_map]at e1';rw[List.getElem?_append_right (by simpa using hge),List.getElem?_map]at e2;simp only[List.length_map]at e2
   cases q:aD[i-own.length]? with
   | none=>rw[q]at e1';simp at e1'
   | some k=>
    rw[q]at e1' e2;simp only[Option.map_some,Option.some.injEq]at e1' e2;obtain⟨x',hx',hfree⟩:=ck.cap k (aGo q);have ex:x' =x:=by rw[<-e1',List.getD_eq_getElem?_getD,hx'];rfl
    subst ex
    have e2' :σ[k]? =some (some v):=by
     cases w:σ[k]? with
     | none=>rw[w]at e2;simp at e2
     | some z=>rw[w]at e2;simp at e2;rw[e2]
    have kx:=ck.fr _ (aHl hfree) rfl
    have visX:Vis X.env.scope x' :=by
     rcases kx with z | z
     ·exact .inr (.inl z)
     ·exact .inr (.inr z)
    obtain⟨m,hn,hl⟩:=I3.loc;obtain⟨u,ru,lk⟩:=hl k x' v hx' e2' visX;refine⟨u,ru,.inr ⟨yX hfree,?_⟩⟩
    rcases lk with ⟨z,_⟩ | ⟨_,c,hc,hcell⟩
    ·rcases kx with z' | z' <;> (have z'' :=z.symm.trans z';cases z'')
    ·obtain⟨c',hc'⟩:=clHas x' hfree;have:=clOk x' c' hc';rw[hc]at this;cases this;obtain⟨o,ho,hd⟩:=hcell;exact⟨c,hc',⟨o,kept _ _ ho,hd⟩⟩
  ·obtain⟨v,o,ho,hd⟩:=I3.cell x c (clOk x c e);exact⟨v,o,kept _ _ ho,hd⟩
 have st4:tn 0 h₁:=T.keep _ _ _ st2 λb hb o e=>kept b o (by rw[<-hG];exact aGe _ e);have fp4:∀b∈fp,H3 b=none:=λb hb=>by rw[<-hH3,aP (Nat.ne_of_lt (fpLt b hb))];exact(f2 b hb).1
 have stat:∀{H' :Hp},(∀b∈fp,H' b=none)->∀b∈fp,mZ (aL X own aD scope cl G.objs.size fp {s2 with heap:=G} H3) [] H' b:=λhn b hb=>
  ⟨hn b hb,(bZ.exf b hb).1,bZ.OI b hb,.inl hb,(bZ.exf b hb).2,λp hp=>absurd hp (by simp[aL])⟩
 have loop:codeAny (model X.prog X.w) X.A (.compLoop (.ListComp elt (⟨tg,iter,ifs,0⟩::more) scope pos) 0 (.ref it) (.ref s2.heap.objs.size) (compEnvC scope cl G.objs.size X.env))
   (compPost (model X.prog X.w) X.A X.xe use Q' (.ref s2.heap.objs.size) G.objs.size) {s2 with heap:=h₁,toks:=s2.toks+([]:List (Str×Value)).length}:=by
  refine hloop _ _ _ _ (λn s' =>∃i ys H',Inv (aL X own aD scope cl G.objs.size fp {s2 with heap:=G} H3) [] (qO own aD σ) H' s' /\tn i s'.heap/\(∀b∈fp,H' b=none)/\W i n ys H') ?_ m0 _ ⟨0,[],H3,I4,st4,fp4,w0⟩;rintro n s5 ⟨i,ys,H5,I5,st5,fr5,w5⟩;obtain⟨hacc,turn5⟩:=turn i n ys H5 w5
  rcases turn5 with ⟨stop,q⟩ | ⟨go,NN,hNN,step⟩
  ·refine cD (T.done (aL X own aD scope cl G.objs.size fp {s2 with heap:=G} H3) rfl rfl rfl fO i [] s5 _ H5 (λ_ _=>False) I5 (stat fr5) st5 stop) λr s6 zz0=>?_;obtain⟨hr,I6⟩:=zz0;subst hr;obtain⟨m,hm,_⟩:=id I6.loc
   have I7:Inv X pins σ H5 s6:=I3.aCt (ch:=fp) I6.os I6.base I6.bZ I6.bare λb hb=>⟨(f2 b hb).2.2.2.1,(f2 b hb).2.1,λx c e=>(f2 b hb).2.2.2.2.1 x c e,λp hp=>(f2 b hb).2.2.2.2.2 p hp⟩
   exact hend _ _ m H5 s6 _ I7 I6.free (aIz (by have:=I3.lt;exact this)) I3.sz (λx c e=>by obtain⟨v,z⟩:=I3.cell x c e;exact aGu z.lt) (λp hp=>aGu (aGl (I3.pin p hp).1)) hm q
  ·refine cD (T.item (aL X own aD scope cl G.objs.size fp {s2 with heap:=G} H3) rfl rfl rfl fO i [] s5 _ H5 (λ_ _=>False) I5 (stat fr5) st5 go) λr s6 zz1=>?_;obtain⟨u,hr,h6⟩:=zz1;subst hr;refine cD h6 λ_ s7 zz2=>?_;obtain⟨x,H7,I7,r7,y7,st7,fr7⟩:=zz2;have I7' :=I7.pinned (stat fr7) (T.obj _ _ st7);refine cD (hg _ _ _ _ _ _ s7 _ H7 x u _ I7' r7 (ho _ _ _ _ (step x H7 y7))) λ_ s8 zz3=>?_;obtain⟨σ8,H8,I8,q8,l8,k8⟩:=zz3;refine cD (ht _ _ _ _ _ _ s8 σ8 H8 _ I8 q8) λok s9 zz4=>?_;obtain⟨H9,I9,q9⟩:=zz4
   have again:∀{ysn:List V} {H10:Hp} {s10:Shared},Inv (aL X own aD scope cl G.objs.size fp {s2 with heap:=G} H3) ([]++qH fp s7.heap) σ8 H10 s10->NN ysn H10->
     ∃m,m<n/\∃i ys H',Inv (aL X own aD scope cl G.objs.size fp {s2 with heap:=G} H3) [] (qO own aD σ) H' s10/\tn i s10.heap/\(∀b∈fp,H' b=none)/\W i m ys H' :=λ{ysn H10 s10} I10 n10=>by
    obtain⟨m',hm,w10⟩:=hNN ysn H10 n10
    have I10' :Inv (aL X own aD scope cl G.objs.size fp {s2 with heap:=G} H3) ([]:List (Addr×Obj)) (qO own aD σ) H10 s10:=I10.lC.weak l8.symm λj v e=>by
     have hge:own.length<=j:=by
      refine aIl λhlt=>?_;unfold qO at e;rw[List.getElem?_append_left (by simpa using hlt),List.getElem?_map]at e
      cases q:own[j]? with
      | none=>rw[q]at e;simp at e
      | some z=>rw[q]at e;simp at e
     rw[k8 j (Nat.le_trans ho1 hge)];exact e
    refine⟨m',hm,i+1,ysn,H10,I10',T.keep _ _ _ st7 λb hb o e=>(I10.pin (b,o) (aGs _ (aGs _ (eT hb e)))).1,λb hb=>?_,w10⟩;obtain⟨o,e,d⟩:=T.obj _ _ st7 b hb;exact(I10.pin (b,o) (aGs _ (aGs _ (eT hb e)))).2.1
   cases ok with
   | false=>exact again I9 q9
   | true=>
    rw[if_pos rfl];refine hbody _ _ _ _ _ _ _ s9 σ8 H9 ys NN _ I9 (λj hj1 hj2=>?_) q9 λysn H10 s10 I10 q10=>again I10 q10;rw[k8 j hj1];unfold qO;rw[List.getElem?_append_left (by simpa using hj2),List.getElem?_map];simp[hj2]
 exact codeAny_compStart_list loop (T.self _ 0 _ _ _ st4 loop)
theorem DD{X:Cx}{pins:List (Addr×Obj)}{σ:St}{Q:VK}(acc C:Addr)(m:aKg)(H5:Hp)(s6:Shared)(r:Flow)(I7:Inv X pins σ H5 s6)(c0:H5 C=none)(c1:C≠X.env.locals)(c2:X.s₀.heap.objs.size<=C)(c3:∀x c,X.env.cells.lookup x=some c->c≠C)(c4:∀p∈X.pn++pins,p.1≠C)(hm:s6.heap.Ns C m)(q:Q (.ref acc) H5):
  compPost (model X.prog X.w) X.A X.xe none (EP X pins σ Q) (.ref acc) C (.ok r) s6:=
 ⟨m,hm,λh' sb=>⟨.ref acc,H5,I7.turned (t' :=s6.toks) (it:=C) (λb o hb e=>sb.extBut b o hb e) c0 c1 (.inr c2) c3 c4,rfl,q⟩⟩
section
variable {X:Cx}{tg iter elt:Expr}{ifs:List Expr}{scope sc:Scope}{N:List Str}{pos:Pos}{wi:TI}{g:TG}{tt:TT}{te:TE}(own:List Str)(aD:List Nat)
  (hN:X.N=N) (hsc:X.env.scope=sc) (chk:dR N sc scope aD=true) (fO:X.calm=true) (hi:PI X tg iter wi) (ho:qT own.length g)
  (hg:∀cl C fp s₀ H₀,PG (aL X own aD scope cl C fp s₀ H₀) tg g) (ht:∀cl C fp s₀ H₀,UW (aL X own aD scope cl C fp s₀ H₀) ifs tt)
  (he:∀cl C fp s₀ H₀,PE (aL X own aD scope cl C fp s₀ H₀) elt te)
include hN hsc chk fO hi ho hg ht he
theorem G4(hs:∀x,foldedSetIterable iter X.env x=pure x){pins:List (Addr×Obj)}{s:Shared}{σ:St}{H:Hp}{Q:VK}{use:Option (Value->Sem Unit)}{Q' :aKe}(I:Inv X pins σ H s)(h:tLC own aD wi g tt te σ H Q)
  (hend:∀(acc C:Addr) (m:aKg) (H5:Hp) (s6:Shared) (r:Flow),Inv X pins σ H5 s6->H5 C=none->C≠X.env.locals->X.s₀.heap.objs.size<=C->(∀x c,X.env.cells.lookup x=some c->c≠C)->(∀p∈X.pn++pins,p.1≠C)->s6.heap.Ns C m->Q (.ref acc) H5->
   compPost (model X.prog X.w) X.A X.xe use Q' (.ref acc) C (.ok r) s6):
  wpAny (model X.prog X.w) X.A (comprehension (.ListComp elt [⟨tg,iter,ifs,0⟩] scope pos) scope X.env (firstIterPos [⟨tg,iter,ifs,0⟩] pos) (newList []) (firstAsync [⟨tg,iter,ifs,0⟩]) (firstIter [⟨tg,iter,ifs,0⟩] X.env) use) Q' X.xe s:=by
 refine x8 own own.length aD (λenv acc K s=>wpAny (model X.prog X.w) X.A (eval elt env) (λx s4=>wpAny (model X.prog X.w) X.A (call (.builtin "list.append") [.ref acc,x]) (λ_ s5=>K s5) (λ_ _=>False) s4) (λ_ _=>False) s)
  hN hsc chk fO hi (aGi _) ho hg ht (λacc cl C fp s₀ H₀ pins s σ H ys NN K I9 _ q k=>?_) (λit acc env R I turn n s h=>DE I turn n h) hs I h hend
 refine cD (he _ _ _ _ _ _ s σ H _ I9 q.2) λyv s10 zz5=>?_;obtain⟨y,H10,I10,ry,hacc10,q10⟩:=zz5;refine cD (qJ _ s10 σ H10 (.ref acc) [y] (.ref acc) [yv] (λv H' =>v= .b6/\NN (ys++[y]) H') I10 rfl (.cons ry .nil) ⟨_,_,_,rfl,rfl,hacc10,q.1,rfl,q10⟩) λ_ s11 zz6=>?_;obtain⟨_,H11,I11,_,_,q11⟩:=zz6;exact k _ _ _ I11 q11
theorem aBh(hs:∀x,foldedSetIterable iter X.env x=pure x:=by intro _;rfl):PE X (.ListComp elt [⟨tg,iter,ifs,0⟩] scope pos) (tLC own aD wi g tt te):=by
 intro pins s σ H Q I h;rw[eval_ListComp];exact G4 own aD hN hsc chk fO hi ho hg ht he hs I h DD
end
theorem L8{X:Cx}{tg iter elt:Expr}{ifs:List Expr}{scope sc:Scope}{N:List Str}{pos pos' lF:Pos}{wi:TI}{g:TG}{tt:TT}{te:TE}{i:Nat}{x:Str}(own:List Str)(aD:List Nat)
  (hN:X.N=N) (hsc:X.env.scope=sc) (chk:dR N sc scope aD=true) (fO:X.calm=true) (hi:PI X tg iter wi) (ho:qT own.length g)
  (hg:∀cl C fp s₀ H₀,PG (aL X own aD scope cl C fp s₀ H₀) tg g) (ht:∀cl C fp s₀ H₀,UW (aL X own aD scope cl C fp s₀ H₀) ifs tt)
  (he:∀cl C fp s₀ H₀,PE (aL X own aD scope cl C fp s₀ H₀) elt te)
  (nd:X.N.Nodup) (hx0:X.N[i]? =some x) (hx:Loc X.env.scope x) (hw:swapsWith (.ListComp elt [⟨tg,iter,ifs,0⟩] scope pos) (some (.Name x pos')) lF.line X.env=pure true)
  (hf:X.fn x=true\/X.env.scope.names.lookup x=some .local) (hs:∀x,foldedSetIterable iter X.env x=pure x:=by intro _;rfl):
  PS X (.Assign [.Name x pos'] (.ListComp elt [⟨tg,iter,ifs,0⟩] scope pos) lF) (QB (tLC own aD wi g tt te) (pR i)):=by
 intro pins s σ H D I h;rw[arm_exec_Assign];refine aGb (aI8 (aGb (aIv (show swapsWithSole [.Name x pos'] _ lF.line X.env=pure true from hw) ?_)));rw[if_pos rfl];refine aGb (aGb (G4 (Q:=λv H1=>D.nx (σ.set i (some v)) H1) own aD hN hsc chk fO hi ho hg ht he hs I h λacc C m H5 s6 r I6 c0 c1 c2 c3 c4 hm q=>?_));show wpAny _ _ (assign (.Name x pos') X.env (.ref acc)) _ _ _;refine PyProof.Rows.assign_Name (wU I6 nd hx0 hx (v:= .ref acc) rfl (λs7 I7 hsb=>?_) hf);obtain⟨a,sb,ha⟩:=hsb
 have hCa:C≠a:=by
  rcases ha with rfl | ha
  ·exact c1
  ·exact λz=>c3 x a ha z.symm
 refine⟨m,?_,λh' sb2=>aGd (aGd ⟨_,H5,?_,q⟩)⟩
 ·obtain⟨o,es,ep,e,c⟩:=hm;exact⟨o,es,ep,(sb.2 C hCa).trans e,c⟩
 ·exact I7.turned (t' :=s7.toks) (it:=C) (λb o hb e=>sb2.extBut b o hb e) c0 c1 (.inr c2) c3 c4
structure Src where
 it:Addr
 l:Addr
 tup:Bool
def Src.At(q:Src)(h:Heap)(i:Nat):Prop:=match q.tup with | true=>h.IsTupleIter q.it q.l i | false=>h.IsListIter q.it q.l i
def Src.Sq(q:Src)(h:Heap)(items:Array Value):Prop:=match q.tup with | true=>h.IsTuple q.l items | false=>h.IsList q.l items
theorem Src.At.to{q:Src}{h h' :Heap}{i:Nat}(x:q.At h i)(e:∀o,h.get? q.it=some o->h'.get? q.it=some o):q.At h' i:=by
 obtain⟨it,l,t⟩:=q;cases t <;> (obtain⟨o,ho,r⟩:=x;exact⟨o,e o ho,r⟩)
theorem Src.At.obj{q:Src}{h:Heap}{i:Nat}(x:q.At h i):∃o,h.get? q.it=some o/\o.data= .fields #[.ref q.l,.int i 0]:=by
 obtain⟨it,l,t⟩:=q;cases t <;> (obtain⟨o,ho,_,r⟩:=x;exact⟨o,ho,r⟩)
theorem Src.Sq.to{q:Src}{h h' :Heap}{items:Array Value}(x:q.Sq h items)(e:∀o,h.get? q.l=some o->h'.get? q.l=some o):q.Sq h' items:=by
 obtain⟨it,l,t⟩:=q;cases t <;> (obtain⟨o,ho,r⟩:=x;exact⟨o,e o ho,r⟩)
theorem Src.Sq.obj{q:Src}{h:Heap}{items:Array Value}(x:q.Sq h items):∃o n,h.get? q.l=some o/\o.data= .seq items n:=by
 obtain⟨it,l,t⟩:=q;cases t <;> (obtain⟨o,ho,_,n,r⟩:=x;exact⟨o,n,ho,r⟩)
section
variable {prog:Program}{w:World}{A:Around}{E:aKe}{s:Shared}
theorem sC{it l:Addr}{i:Nat}{items:Array Value}{x:Value}{Q:aKe}(hit:s.heap.IsTupleIter it l i)(hl:s.heap.IsTuple l items)(hx:items[i]? =some x)
  (hQ:∀h',h'.IsTupleIter it l (i+1)->Heap.SameBut it s.heap h' ->Q x {s with heap:=h'}):wpAny (model prog w) A (Builtin.SmallTypes.nextOf (.ref it)) Q E s:=by
 obtain⟨oi,hoi,hci,hdi⟩:=id hit;obtain⟨os,hos,_,ns,hds⟩:=hl;unfold Builtin.SmallTypes.nextOf;refine aGb (aH2 (name:=Str.ofString "__next__") hit.typeIs aIb (aGw aIb hit.typeIs F.entry_tuple_iterator_next ?_ (F.args_tuple_iterator_next_1 _)));refine aGb (m:=field (.ref it) 0) (aHe hoi hdi (x:= .ref l) rfl ?_);show wpAny _ _ (if (Value.ref l==Value.none)=true then _ else field (.ref it) 1 >>=_) _ _ s;rw[if_neg (show ¬((Value.ref l==Value.none)=true) from Bool.false_ne_true)];refine aGb (aHe hoi hdi (x:= .int i 0) rfl ?_);refine aGb (m:=seqItems? (.ref l)) (aHc hos hds ?_);simp only[Int.toNat_natCast,hx];refine aGb (aK3 hoi hdi (by simp) (aGd ⟨x,rfl,aGd (hQ _ ⟨_,aHf _ hoi (Obj.isFreed_of_fields (Obj.data_mapFields hdi _)),(Obj.cls_mapFields ..).trans hci,?_⟩ (aHm ..))⟩));rw[Obj.data_mapFields hdi];simp[rawInt]
theorem uL{it l:Addr}{i:Nat}{items:Array Value}{Q:aKe}(hh:A.handled=none)(hit:s.heap.IsTupleIter it l i)(hl:s.heap.IsTuple l items)(hx:items[i]? =none)
  (hE:∀h' e,Heap.ExtBut it s.heap h' ->(∃o,h'.get? e=some o/\o.cls= .type "StopIteration")->E (.ref e) {s with heap:=h'}):wpAny (model prog w) A (Builtin.SmallTypes.nextOf (.ref it)) Q E s:=by
 obtain⟨oi,hoi,hci,hdi⟩:=id hit;obtain⟨os,hos,_,ns,hds⟩:=hl;unfold Builtin.SmallTypes.nextOf;refine aGb (aH2 (name:=Str.ofString "__next__") hit.typeIs aIb (aGw aIb hit.typeIs F.entry_tuple_iterator_next ?_ (F.args_tuple_iterator_next_1 _)));refine aGb (m:=field (.ref it) 0) (aHe hoi hdi (x:= .ref l) rfl ?_);show wpAny _ _ (if (Value.ref l==Value.none)=true then _ else field (.ref it) 1 >>=_) _ _ s;rw[if_neg (show ¬((Value.ref l==Value.none)=true) from Bool.false_ne_true)];refine aGb (aHe hoi hdi (x:= .int i 0) rfl ?_);refine aGb (m:=seqItems? (.ref l)) (aHc hos hds ?_);simp only[Int.toNat_natCast,hx];refine aGb (aHg (aGb (aK3 hoi hdi (by simp) ?_)));refine aGb (m:=newExc (.type "StopIteration") []) ?_;simp only[newExc,newTuple];refine aGb (aH3 ?_ (by size_fits));refine aGb (m:=firstArgMember _ _) (aIv (a:=Value.none) (by first | rfl | (simp only[firstArgMember];rfl)) ?_);refine aH3 (?_:_) (by size_fits);simp only[raiseNew];refine aGb (wpAny_handled (?_:_))
 first | rw[show A.in1.handled=none from hh] | rw[hh]
 refine aGb (aGd (wpAny_throw (?_:_)));exact hE _ _ (((aHm ..).extBut.push _).push _) ⟨_,aGj _ rfl,rfl⟩
theorem Src.item{q:Src}{i:Nat}{items:Array Value}{x:Value}{Q:aKe}(hit:q.At s.heap i)(hl:q.Sq s.heap items)(hx:items[i]? =some x)
  (hQ:∀h',q.At h' (i+1)->Heap.SameBut q.it s.heap h' ->Q x {s with heap:=h'}):wpAny (model prog w) A (Builtin.SmallTypes.nextOf (.ref q.it)) Q E s:=by
 obtain⟨it,l,t⟩:=q;cases t
 ·exact wpAny_nextOf_list_item hit hl hx hQ
 ·exact sC hit hl hx hQ
theorem Src.done{q:Src}{i:Nat}{items:Array Value}{Q:aKe}(hh:A.handled=none)(hit:q.At s.heap i)(hl:q.Sq s.heap items)(hx:items[i]? =none)
  (hE:∀h' e,Heap.ExtBut q.it s.heap h' ->(∃o,h'.get? e=some o/\o.cls= .type "StopIteration")->E (.ref e) {s with heap:=h'}):wpAny (model prog w) A (Builtin.SmallTypes.nextOf (.ref q.it)) Q E s:=by
 obtain⟨it,l,t⟩:=q;cases t
 ·exact wpAny_nextOf_list_end hh hit hl hx hE
 ·exact uL hh hit hl hx hE
theorem Src.start{q:Src}{items:Array Value}{Q:aKe}(hl:q.Sq s.heap items)
  (hQ:∀h',(⟨s.heap.objs.size,q.l,q.tup⟩:Src).At h' 0->h'.objs.size=s.heap.objs.size+1->(∀b o,s.heap.get? b=some o->h'.get? b=some o)->Q (.ref s.heap.objs.size) {s with heap:=h'}):wpAny (model prog w) A (pyIter (.ref q.l)) Q E s:=by
 obtain⟨it,l,t⟩:=q;cases t
 ·exact wpAny_pyIter_list hl (hQ _ ⟨_,aGj _ rfl,rfl,rfl⟩ (aK4 ..) λb o e=>aGe _ e)
 ·exact wpAny_pyIter_tuple hl (hQ _ ⟨_,aGj _ rfl,rfl,rfl⟩ (aK4 ..) λb o e=>aGe _ e)
structure fQ(h:Heap)(z TI TO:Addr)(qs:List Src)(f0:Value)(i:Nat):Prop where
 obj:h.get? z=some {cls:= .type "zip",dict:=none,data:= .fields #[f0,.bool false,.bool false,.ref TI,.ref TO],slots:= #[]}
 aI:∃n,h.get? TI=some {cls:= .type "tuple",data:= .seq (qs.map λq=>Value.ref q.it).toArray n}
 own:∃(xs:List Value) (n:Nat),xs.length=qs.length/\h.get? TO=some {cls:= .type "tuple",data:= .seq xs.toArray n}
 at_:∀q∈qs,q.At h i
structure dG(z TI TO:Addr)(qs:List Src):Prop where
 ne1:TI≠z
 ne2:TO≠z
 ne3:TI≠TO
 E6:∀q∈qs,q.it≠z/\q.it≠TI/\q.it≠TO
 nd:(qs.map (·.it)).Nodup
 src:∀q∈qs,q.l≠z/\q.l≠TO/\∀r∈qs,q.l≠r.it
end
section
variable {prog:Program}{w:World}{A:Around}{E:aKe}{s:Shared}
structure HR(h0 h:Heap)(z TI TO:Addr)(qs:List Src)(vals:List Value)(i j:Nat):Prop where
 obj:h.get? z=some {cls:= .type "zip",dict:=none,data:= .fields #[.ellipsis,.bool false,.bool false,.ref TI,.ref TO],slots:= #[]}
 own:∃(xs:List Value) (n:Nat),xs.length=qs.length/\xs.take j=vals.take j/\h.get? TO=some {cls:= .type "tuple",data:= .seq xs.toArray n}
 done:∀q∈qs.take j,q.At h (i+1)
 todo:∀q∈qs.drop j,q.At h i
 size:h.objs.size=h0.objs.size
 keep:∀c o,c≠z->c≠TO->(∀q∈qs,c≠q.it)->h0.get? c=some o->h.get? c=some o
theorem KR{z TI TO:Addr}{qs:List Src}{i:Nat}{vals:List Value}{Q:aKe}(D:dG z TI TO qs)(Z:fQ s.heap z TI TO qs .none i)(hne:qs≠[])
  (hv:vals.length=qs.length) (hq:∀(k:Nat) q x,qs[k]? =some q->vals[k]? =some x->∃items,q.Sq s.heap items/\items[i]? =some x) (hsz:qs.length<=sizeLine)
  (hQ:∀h',fQ h' z TI TO qs (rawInt s.heap.objs.size) (i+1)->h'.get? s.heap.objs.size=some {cls:= .type "tuple",data:= .seq vals.toArray}->h'.objs.size=s.heap.objs.size+1->
   (∀c o,c≠z->c≠TO->(∀q∈qs,c≠q.it)->s.heap.get? c=some o->h'.get? c=some o)->Q (.ref s.heap.objs.size) {s with heap:=h'}):
  wpAny (model prog w) A (Builtin.«zip.__next__» ⟨[.ref z],[]⟩) (λfin s' =>∃v,fin= .done (.ret v)/\Q v s') E s:=by
 obtain⟨nI,hTI⟩:=Z.aI;obtain⟨xs0,n0,hx0,hTO⟩:=Z.own;refine aGb (m:=field (.ref z) 2) (aHe Z.obj rfl (x:= .bool false) rfl ?_);refine aGb (m:=field (.ref z) 3) (aHe Z.obj rfl (x:= .ref TI) rfl ?_);refine aGb (m:=seqItems? (.ref TI)) (aHc hTI rfl ?_)
 have hemp:(qs.map λq=>Value.ref q.it).toArray.isEmpty=false:=by cases qs with | nil=>exact absurd rfl hne | cons a r=>rfl
 simp only[hemp];refine aGb (m:=Builtin.SmallTypes.ownedTupleIsFree (.ref z)) ?_;refine aGb (m:=field (.ref z) 0) (aHe Z.obj rfl (x:= .none) rfl (aGd ?_));simp only[if_true];refine aGb (aHg ?_);refine aGb (aHe Z.obj rfl (x:= .ref TO) rfl ?_);refine aGb (aH8 Z.obj (by simp) λh1 z1 sb1=>?_);refine aGb ?_;refine wpAny_forIn_list _ (λrest b s' =>b.1=none/\∃j h',s' ={s with heap:=h'}/\rest=((qs.map λq=>Value.ref q.it).zipIdx).drop j/\j<=qs.length/\HR s.heap h' z TI TO qs vals i j) _ ?turn ?fin _ _ ?start
 case start=>
  refine⟨rfl,0,h1,rfl,by simp,aHp _,?_⟩;refine⟨z1,⟨xs0,n0,hx0,by simp,sb1.extBut _ _ D.ne2 hTO⟩,by simp,λq hq=>?_,sb1.1,λc o c1 _ _ e=>sb1.extBut _ _ c1 e⟩;have hq' :q∈qs:=by simpa using hq
  exact(Z.at_ q hq').to λo e=>sb1.extBut _ _ (D.E6 q hq').1 e
 case turn=>
  rintro x rest b s5 ⟨hb,j,h',rfl,hd,hj,DR⟩
  have hjl:j<qs.length:=by
   refine aKa λhle=>?_;rw[List.drop_eq_nil_of_le (by simpa using hle)]at hd;cases hd
  have hd' :=hd;rw[List.drop_eq_getElem_cons (by simpa using hjl)]at hd';injection hd' with ex er;have exx:x=(Value.ref qs[j].it,j):=by rw[ex];simp
  have hqj:qs[j]? =some qs[j]:=aGp hjl;have hvj:vals[j]? =some vals[j]:=aGp (by lia);generalize hqq:qs[j]=q at hqj exx;generalize hvv:vals[j]'(by lia)=v at hvj;subst exx;have hqm:q∈qs:=aGo hqj;obtain⟨items,hSq,hit⟩:=hq j q v hqj hvj;obtain⟨l1,l2,l3⟩:=D.src q hqm;have hSq' :q.Sq h' items:=hSq.to λo e=>DR.keep _ o l1 l2 l3 e;have hAt:q.At h' i:=DR.todo q (by rw[List.drop_eq_getElem_cons hjl,hqq];exact aGf);refine aGb (wpAny_onRaise ?_);show wpAny _ _ (Builtin.SmallTypes.nextOf (.ref q.it) >>=_) _ _ _;refine aGb (Src.item (s:={s with heap:=h'}) hAt hSq' hit λh2 at2 sb2=>aGd ?_);obtain⟨xs,n,hxl,hxt,hO⟩:=DR.own;have hqz:=D.E6 q hqm;have hO2:h2.get? TO=some {cls:= .type "tuple",data:= .seq xs.toArray n}:=sb2.extBut _ _ (aHh hqz.2.2) hO;refine aGb (m:=seqItems? (.ref TO)) (aHc hO2 rfl ?_);refine aGb (aHq hO2 rfl ?_);refine aGb (wpAny_letGo (aGd ?_))
  have apart:∀(k:Nat) p,qs[k]? =some p->k≠j->p.it≠q.it:=λk p hk hne e=>by
   have h1:(qs.map (·.it))[k]? =some q.it:=by rw[List.getElem?_map,hk];simp[e]
   have h2:(qs.map (·.it))[j]? =some q.it:=by rw[List.getElem?_map,hqj];rfl
   obtain⟨a1,b1⟩:=aGc.mp h1;obtain⟨a2,b2⟩:=aGc.mp h2;refine hne ?_;have pw:=aHa.mp D.nd;rcases aK7 k j with hlt | heq | hlt
   ·exact absurd (b1.trans b2.symm) (pw k j a1 a2 hlt)
   ·exact heq
   ·exact absurd (b2.trans b1.symm) (pw j k a2 a1 hlt)
  have up:∀c o,c≠TO->c≠q.it->h'.get? c=some o->(h2.update TO (Obj.mapSeq λx=>x.setIfInBounds j v)).get? c=some o:=λc o c1 c2 e=>(aHm ..).extBut _ _ c1 (sb2.extBut _ _ c2 e);refine⟨rfl,j+1,_,rfl,er,hjl,⟨up _ _ (aHh D.ne2) (aHh hqz.1) DR.obj,⟨xs.set j v,n,by simpa using hxl,?_,?_⟩,λp hp=>?_,λp hp=>?_,?_,λc o c1 c2 c3 e=>up c o c2 (c3 q hqm) (DR.keep c o c1 c2 c3 e)⟩⟩
  ·have hvj' :vals[j]? =some v:=hvj;have hjx:j<xs.length:=by lia
   rw[List.take_add_one,List.take_add_one,hvj',List.getElem?_set_self hjx,List.take_set_of_le (Nat.le_refl j),hxt]
  ·rw[Heap.get?_update_self _ hO2 (by rfl)];simp[Obj.mapSeq]
  ·rw[List.take_add_one,hqj]at hp;rcases aGh.mp hp with z | z
   ·obtain⟨k,hk⟩:=aI3 z
    have hkj:k<j:=by
     have:=(aGc.mp hk).1;rw[List.length_take]at this;lia
    rw[List.getElem?_take_of_lt hkj]at hk;exact(DR.done p z).to λo e=>up _ o (D.E6 p (aGo hk)).2.2 (apart k p hk (by lia)) e
   ·have:p=q:=by simpa using z
    subst this;exact at2.to λo e=>(aHm ..).extBut _ _ hqz.2.2 e
  ·obtain⟨k,hk⟩:=aI3 hp;rw[List.getElem?_drop]at hk;have hp' :p∈qs.drop j:=by rw[List.drop_eq_getElem_cons hjl];exact aGg _ hp
   exact(DR.todo p hp').to λo e=>up _ o (D.E6 p (aGo hk)).2.2 (apart _ p hk (by lia)) e
  ·rw[Heap.size_update,sb2.1];exact DR.size
 case fin=>
  rintro⟨b1,b2⟩ s5 ⟨hb,j,h',rfl,hd,hj,DR⟩
  have hje:j=qs.length:=by
   have:=aHk List.length hd;simp at this
   lia
  subst hje;have hb' :b1=none:=hb;subst hb';obtain⟨xs,n,hxl,hxt,hO⟩:=DR.own
  have hxv:xs=vals:=by
   rw[List.take_of_length_le (by lia),List.take_of_length_le (by lia)]at hxt;exact hxt
  subst hxv;refine aGb (m:=seqItems? (.ref TO)) (aHc hO rfl ?_);refine aGb (aIw ?_ (by simpa using aH5 (Nat.le_of_eq hxl) hsz));refine aGb (m:=Builtin.SmallTypes.ownedTupleHandOut (.ref z) (.ref h'.objs.size)) ?_;have z5:(h'.push {cls:= .type "tuple",data:= .seq xs.toArray}).get? z=some {cls:= .type "zip",dict:=none,data:= .fields #[.ellipsis,.bool false,.bool false,.ref TI,.ref TO],slots:= #[]}:=aGe _ DR.obj;refine aGb (aH8 z5 (by simp) λh7 z7 sb7=>?_);refine aH8 z7 (by simp) λh8 z8 sb8=>aGd ⟨_,rfl,?_⟩;have zlt:z<h'.objs.size:=aGl DR.obj;have up:∀c o,c≠z->(h'.push {cls:= .type "tuple",data:= .seq xs.toArray}).get? c=some o->h8.get? c=some o:=λc o c1 e=>sb8.extBut _ _ c1 (sb7.extBut _ _ c1 e);have upp:∀c o,c≠z->h'.get? c=some o->h8.get? c=some o:=λc o c1 e=>up c o c1 (aGe _ e);show Q (.ref h'.objs.size) _;have hs:=DR.size;rw[hs];refine hQ h8 ⟨?_,⟨nI,?_⟩,⟨xs,n,hxl,upp _ _ D.ne2 hO⟩,λq hq=>?_⟩ ?_ ?_ λc o c1 c2 c3 e=>upp c o c1 (DR.keep c o c1 c2 c3 e)
  ·rw[z8,hs];rfl
  ·exact upp _ _ D.ne1 (DR.keep _ _ D.ne1 D.ne3 (λq hq=>aHh (D.E6 q hq).2.1) hTI)
  ·exact(DR.done q (by rw[List.take_length];exact hq)).to λo e=>upp _ o (D.E6 q hq).1 e
  ·rw[<-hs];exact up _ _ (aIz zlt) (aGj _ rfl)
  ·rw[sb8.1,sb7.1,Heap.size_push,hs]
end
section
variable {prog:Program}{w:World}{A:Around}{E:aKe}{s:Shared}
theorem PL{z TI TO:Addr}{qs:List Src}{i k:Nat}{Q:PySem.Fin->Shared->Prop}(hh:A.handled=none)(D:dG z TI TO qs)(Z:fQ s.heap z TI TO qs .none i)
  (hq:∀(j:Nat) q,qs[j]? =some q->j<k->∃items x,q.Sq s.heap items/\items[i]? =some x) (hk:∃q items,qs[k]? =some q/\q.Sq s.heap items/\items[i]? =none) (hsz:qs.length<=sizeLine)
  (hE:∀h' e,(∀c o,c≠z->c≠TO->(∀q∈qs,c≠q.it)->s.heap.get? c=some o->h'.get? c=some o)->(∃o,h'.get? e=some o/\o.cls= .type "StopIteration")->E (.ref e) {s with heap:=h'}):
  wpAny (model prog w) A (Builtin.«zip.__next__» ⟨[.ref z],[]⟩) Q E s:=by
 obtain⟨nI,hTI⟩:=Z.aI;obtain⟨xs0,n0,hx0,hTO⟩:=Z.own;obtain⟨qk,itemsk,hqk,hSk,hik⟩:=hk;have hkl:k<qs.length:=(aGc.mp hqk).1;refine aGb (m:=field (.ref z) 2) (aHe Z.obj rfl (x:= .bool false) rfl ?_);refine aGb (m:=field (.ref z) 3) (aHe Z.obj rfl (x:= .ref TI) rfl ?_);refine aGb (m:=seqItems? (.ref TI)) (aHc hTI rfl ?_)
 have hemp:(qs.map λq=>Value.ref q.it).toArray.isEmpty=false:=by cases qs with | nil=>simp at hkl | cons a r=>rfl
 simp only[hemp];refine aGb (m:=Builtin.SmallTypes.ownedTupleIsFree (.ref z)) ?_;refine aGb (m:=field (.ref z) 0) (aHe Z.obj rfl (x:= .none) rfl (aGd ?_));simp only[if_true];refine aGb (aHg ?_);refine aGb (aHe Z.obj rfl (x:= .ref TO) rfl ?_);refine aGb (aH8 Z.obj (by simp) λh1 z1 sb1=>?_);refine aGb ?_;refine wpAny_forIn_list _ (λrest b s' =>∃j h' vals,s' ={s with heap:=h'}/\rest=((qs.map λq=>Value.ref q.it).zipIdx).drop j/\j<=k/\HR s.heap h' z TI TO qs vals i j) _ ?turn ?fin _ _ ?start
 case start=>
  refine⟨0,h1,xs0,rfl,by simp,aHp _,?_⟩;refine⟨z1,⟨xs0,n0,hx0,by simp,sb1.extBut _ _ D.ne2 hTO⟩,by simp,λq hq=>?_,sb1.1,λc o c1 _ _ e=>sb1.extBut _ _ c1 e⟩;have hq' :q∈qs:=by simpa using hq
  exact(Z.at_ q hq').to λo e=>sb1.extBut _ _ (D.E6 q hq').1 e
 case fin=>
  rintro b s5 ⟨j,h',vals,rfl,hd,hj,DR⟩;have:=aHk List.length hd;simp at this
  lia
 case turn=>
  rintro x rest b s5 ⟨j,h',vals,rfl,hd,hj,DR⟩;have hjl:j<qs.length:=by lia
  have hd' :=hd;rw[List.drop_eq_getElem_cons (by simpa using hjl)]at hd';injection hd' with ex er;have exx:x=(Value.ref qs[j].it,j):=by rw[ex];simp
  have hqj:qs[j]? =some qs[j]:=aGp hjl;generalize hqq:qs[j]=q at hqj exx;subst exx;have hqm:q∈qs:=aGo hqj;have hqz:=D.E6 q hqm;obtain⟨l1,l2,l3⟩:=D.src q hqm;have hAt:q.At h' i:=DR.todo q (by rw[List.drop_eq_getElem_cons hjl,hqq];exact aGf);refine aGb (wpAny_onRaise ?_);show wpAny _ _ (Builtin.SmallTypes.nextOf (.ref q.it) >>=_) _ _ _;by_cases hjk:j=k
  ·subst hjk;obtain rfl:qk=q:=(aGv (hqj.symm.trans hqk)).symm;have hSq' :=hSk.to (h' :=h') λo e=>DR.keep _ o l1 l2 l3 e;refine aGb (Src.done (s:={s with heap:=h'}) hh hAt hSq' hik λh2 e sb2 he=>?_);obtain⟨oe,hoe,hce⟩:=he;have z2:h2.get? z=some {cls:= .type "zip",dict:=none,data:= .fields #[.ellipsis,.bool false,.bool false,.ref TI,.ref TO],slots:= #[]}:=sb2 _ _ (aHh hqz.1) DR.obj;have hez:e≠z:=λx=>by subst x;rw[z2]at hoe;cases hoe;simp at hce
   refine aH8 z2 (by simp) λh3 _ sb3=>hE h3 e (λc o c1 c2 c3 q' =>sb3.extBut _ _ c1 (sb2 _ _ (c3 _ hqm) (DR.keep c o c1 c2 c3 q'))) ⟨oe,sb3.extBut _ _ hez hoe,hce⟩
  ·obtain⟨items,v,hSq,hit⟩:=hq j q hqj (by lia);have hSq' :q.Sq h' items:=hSq.to λo e=>DR.keep _ o l1 l2 l3 e;refine aGb (Src.item (s:={s with heap:=h'}) hAt hSq' hit λh2 at2 sb2=>aGd ?_);obtain⟨xs,n,hxl,hxt,hO⟩:=DR.own;have hO2:h2.get? TO=some {cls:= .type "tuple",data:= .seq xs.toArray n}:=sb2.extBut _ _ (aHh hqz.2.2) hO;refine aGb (m:=seqItems? (.ref TO)) (aHc hO2 rfl ?_);refine aGb (aHq hO2 rfl ?_);refine aGb (wpAny_letGo (aGd ?_))
   have apart:∀(k:Nat) p,qs[k]? =some p->k≠j->p.it≠q.it:=λk p hk hne e=>by
    have h1:(qs.map (·.it))[k]? =some q.it:=by rw[List.getElem?_map,hk];simp[e]
    have h2:(qs.map (·.it))[j]? =some q.it:=by rw[List.getElem?_map,hqj];rfl
    obtain⟨a1,b1⟩:=aGc.mp h1;obtain⟨a2,b2⟩:=aGc.mp h2;refine hne ?_;have pw:=aHa.mp D.nd;rcases aK7 k j with hlt | heq | hlt
    ·exact absurd (b1.trans b2.symm) (pw k j a1 a2 hlt)
    ·exact heq
    ·exact absurd (b2.trans b1.symm) (pw j k a2 a1 hlt)
   have up:∀c o,c≠TO->c≠q.it->h'.get? c=some o->(h2.update TO (Obj.mapSeq λx=>x.setIfInBounds j v)).get? c=some o:=λc o c1 c2 e=>(aHm ..).extBut _ _ c1 (sb2.extBut _ _ c2 e);refine⟨j+1,_,xs.set j v,rfl,er,by lia,⟨up _ _ (aHh D.ne2) (aHh hqz.1) DR.obj,⟨xs.set j v,n,by simpa using hxl,rfl,?_⟩,λp hp=>?_,λp hp=>?_,?_,λc o c1 c2 c3 e=>up c o c2 (c3 q hqm) (DR.keep c o c1 c2 c3 e)⟩⟩
   ·rw[Heap.get?_update_self _ hO2 (by rfl)];simp[Obj.mapSeq]
   ·rw[List.take_add_one,hqj]at hp;rcases aGh.mp hp with z | z
    ·obtain⟨k,hk⟩:=aI3 z
     have hkj:k<j:=by
      have:=(aGc.mp hk).1;rw[List.length_take]at this;lia
     rw[List.getElem?_take_of_lt hkj]at hk;exact(DR.done p z).to λo e=>up _ o (D.E6 p (aGo hk)).2.2 (apart k p hk (by lia)) e
    ·have:p=q:=by simpa using z
     subst this;exact at2.to λo e=>(aHm ..).extBut _ _ hqz.2.2 e
   ·obtain⟨k,hk⟩:=aI3 hp;rw[List.getElem?_drop]at hk;have hp' :p∈qs.drop j:=by rw[List.drop_eq_getElem_cons hjl];exact aGg _ hp
    exact(DR.todo p hp').to λo e=>up _ o (D.E6 p (aGo hk)).2.2 (apart _ p hk (by lia)) e
   ·rw[Heap.size_update,sb2.1];exact DR.size
theorem nH{z TI TO:Addr}{qs:List Src}{i:Nat}{vals:List Value}{Q:Option Value->Shared->Prop}(D:dG z TI TO qs)(Z:fQ s.heap z TI TO qs .none i)(hne:qs≠[])
  (hv:vals.length=qs.length) (hq:∀(k:Nat) q x,qs[k]? =some q->vals[k]? =some x->∃items,q.Sq s.heap items/\items[i]? =some x) (hsz:qs.length<=sizeLine)
  (hQ:∀h',fQ h' z TI TO qs (rawInt s.heap.objs.size) (i+1)->h'.get? s.heap.objs.size=some {cls:= .type "tuple",data:= .seq vals.toArray}->h'.objs.size=s.heap.objs.size+1->
   (∀c o,c≠z->c≠TO->(∀q∈qs,c≠q.it)->s.heap.get? c=some o->h'.get? c=some o)->Q (some (.ref s.heap.objs.size)) {s with heap:=h'}):
  wpAny (model prog w) A (pyNext (.ref z)) Q E s:=by
 have hT:s.TypeIs (.ref z) "zip":=⟨_,Z.obj,rfl⟩
 unfold pyNext
 exact aGb (aHy (aH2 (name:=Str.ofString "__next__") hT aHr (aGw aHr hT aJl
  (KR D Z hne hv hq hsz λh' a1 a2 a3 a4=>aGd (hQ h' a1 a2 a3 a4)) (aJe _))))
theorem pJ{z TI TO:Addr}{qs:List Src}{i k:Nat}{Q:Option Value->Shared->Prop}(hh:A.handled=none)(D:dG z TI TO qs)(Z:fQ s.heap z TI TO qs .none i)
  (hq:∀(j:Nat) q,qs[j]? =some q->j<k->∃items x,q.Sq s.heap items/\items[i]? =some x) (hk:∃q items,qs[k]? =some q/\q.Sq s.heap items/\items[i]? =none) (hsz:qs.length<=sizeLine)
  (hQ:∀h',(∀c o,c≠z->c≠TO->(∀q∈qs,c≠q.it)->s.heap.get? c=some o->h'.get? c=some o)->Q none {s with heap:=h'}):wpAny (model prog w) A (pyNext (.ref z)) Q E s:=by
 have hT:s.TypeIs (.ref z) "zip":=⟨_,Z.obj,rfl⟩
 unfold pyNext
 refine aGb (aHy (aH2 (name:=Str.ofString "__next__") hT aHr (aGw aHr hT aJl
  (PL hh D Z hq hk hsz λh' e kp he=>?_) (aJe _))))
 obtain⟨o,ho,hc⟩:=he;refine aGb (aJ0 (T:= "StopIteration") (b:=true) ⟨o,ho,hc⟩ isSubtype_stop ?_);exact aGd (hQ _ kp)
theorem YX{elts:List Expr}{x1}{pos:Pos}{z TI TO T:Addr}{qs:List Src}{i:Nat}{Q:Unit->Shared->Prop}(D:dG z TI TO qs)(Z:fQ s.heap z TI TO qs (rawInt T) i)
  (hQ:∀h',fQ h' z TI TO qs .none i->Heap.SameBut z s.heap h' ->Q () {s with heap:=h'}):wpAny (model prog w) A (letOwnedTupleGo (.Tuple elts x1 pos) (.ref z) (.ref T)) Q E s:=by
 unfold letOwnedTupleGo;refine aGb (aK0 Z.obj ?_);show wpAny _ _ (if (["enumerate","zip","dict_itemiterator","dict_reverseitemiterator","odict_iterator","itertools.zip_longest","itertools.pairwise"].contains "zip" && (#[rawInt T,.bool false,.bool false,.ref TI,.ref TO]:Array Value)[0]? ==some (rawInt T))=true then _ else _) Q E s;rw[if_pos (by simp)];refine aGb (aHg ?_);show wpAny _ _ (setField (.ref z) 0 .none) Q E s;refine aH8 Z.obj (by simp) λh' hz' sb=>hQ h' ⟨hz',?_,?_,λq hq=>(Z.at_ q hq).to λo e=>sb.extBut _ _ (D.E6 q hq).1 e⟩ sb
 ·obtain⟨n,e⟩:=Z.aI;exact⟨n,sb.extBut _ _ D.ne1 e⟩
 ·obtain⟨xs,n,l,e⟩:=Z.own;exact⟨xs,n,l,sb.extBut _ _ D.ne2 e⟩
theorem CI{z TI TO:Addr}{qs:List Src}{f0:Value}{i:Nat}{Q:aKe}(Z:fQ s.heap z TI TO qs f0 i)(h:Q (.ref z) s):wpAny (model prog w) A (pyIter (.ref z)) Q E s:=by
 have hT:s.TypeIs (.ref z) "zip":=⟨_,Z.obj,rfl⟩
 refine aIu hT aJs (aGw aJs hT F.entry_zip_iter ?_ (F.args_zip_iter_1 _));exact aGd ⟨_,rfl,"zip",_,hT,aHr.lookup,h⟩
end
section
variable {prog:Program}{w:World}{A:Around}{E:aKe}{s:Shared}
def bN:Nat->List Src->List Src
 | _,[]=>[]
 | n,q::r=>⟨n,q.l,q.tup⟩::bN (n+1) r
theorem fB:∀(n:Nat) (qs:List Src),(bN n qs).length=qs.length
 | _,[]=>rfl
 | n,_::r=>by simp[bN,fB (n+1) r]
theorem dY:∀{n:Nat} {qs:List Src} {p:Src},p∈bN n qs->n<=p.it/\p.it<n+qs.length/\∃q∈qs,p.l=q.l/\p.tup=q.tup
 | n,q::r,p,h=>by
  rcases aGk.mp h with rfl | h
  ·exact⟨aGi _,by simp,q,aGf,rfl,rfl⟩
  ·obtain⟨h1,h2,q',h3,h4⟩:=dY h;exact⟨Nat.le_of_succ_le h1,Nat.lt_of_lt_of_eq h2 (by simp only[List.length_cons];lia),q',aGg _ h3,h4⟩
theorem pM:∀(n:Nat) (qs:List Src),((bN n qs).map (·.it)).Nodup
 | _,[]=>by simp[bN]
 | n,q::r=>by
  simp only[bN,List.map_cons,List.nodup_cons];refine⟨λh=>?_,pM (n+1) r⟩;obtain⟨p,hp,e⟩:=aGm.mp h;have h1:=(dY hp).1;have e' :p.it=n:=e;exact absurd h1 (by rw[e'];exact Nat.not_succ_le_self n)
theorem rQ{Q:Array Value->Shared->Prop}:∀(qs:List Src) (acc:Array Value) (s:Shared),(∀q∈qs,∃items,q.Sq s.heap items)->
  (∀h',h'.objs.size=s.heap.objs.size+qs.length->(∀b o,s.heap.get? b=some o->h'.get? b=some o)->(∀p∈bN s.heap.objs.size qs,p.At h' 0)->Q (acc++((bN s.heap.objs.size qs).map λp=>Value.ref p.it).toArray) {s with heap:=h'})->
  wpAny (model prog w) A (forIn (qs.map λq=>Value.ref q.l) acc λx aI=>do let r<-holding aI.toList (pyIter x);pure (ForInStep.yield (aI.push r))) Q E s
 | [],acc,s,_,hQ=>by
  have:=hQ s.heap (by simp) (λ_ _ e=>e) (by simp[bN]);simp only[List.map_nil,List.forIn_nil];refine aGd ?_;simpa[bN] using this
 | q::r,acc,s,hs,hQ=>by
  obtain⟨items,hq⟩:=hs q aGf;simp only[List.map_cons,List.forIn_cons];refine aGb (aGb (aH7 (Src.start hq λh' at' sz kp=>aGd ?_)));refine rQ r (acc.push (.ref s.heap.objs.size)) {s with heap:=h'} (λq' hq' =>?_) λh2 sz2 kp2 at2=>?_
  ·obtain⟨it',h1⟩:=hs q' (aGg _ hq');exact⟨it',h1.to λo e=>kp _ o e⟩
  ·have e1:h2.objs.size=s.heap.objs.size+(q::r).length:=by
    have:h2.objs.size=h'.objs.size+r.length:=sz2;rw[this,sz,List.length_cons];lia
   have sz' :h'.objs.size=s.heap.objs.size+1:=sz;have at2' :∀p∈bN (s.heap.objs.size+1) r,p.At h2 0:=by rw[<-sz'];exact at2
   have:=hQ h2 e1 (λb o e=>kp2 b o (kp b o e)) (λp hp=>by
    rcases aGk.mp hp with rfl | hp
    ·exact at'.to λo e=>kp2 _ o e
    ·exact at2' p hp)
   have ee:(acc.push (.ref s.heap.objs.size)++((bN h'.objs.size r).map λp=>Value.ref p.it).toArray)=(acc++((bN s.heap.objs.size (q::r)).map λp=>Value.ref p.it).toArray):=by
    rw[sz'];simp[bN]
   show Q (acc.push (.ref s.heap.objs.size)++((bN h'.objs.size r).map λp=>Value.ref p.it).toArray) _;rw[ee];exact this
theorem S3:(5:Nat)<=sizeLine+2:=Nat.add_le_add_right (by decide:3<=sizeLine) 2
theorem ET(qs:List Src)(hsz:qs.length<=sizeLine):Meets (Builtin.«zip.__new__» ⟨.type "zip"::(qs.map λq=>Value.ref q.l),[]⟩) (λ_ R s=>(∀q∈qs,∃items,q.Sq s.heap items)/\
   ∀h' z TI TO,s.heap.objs.size+qs.length<=TI->TI≠TO->TI≠z->TO≠z->s.heap.objs.size+qs.length<=TO->s.heap.objs.size+qs.length<=z->fQ h' z TI TO (bN s.heap.objs.size qs) .none 0->(∀b o,s.heap.get? b=some o->h'.get? b=some o)->R (.ok (.ret (.ref z))) {s with heap:=h'}):=
 .of_wp λprog w A R s h=>by
  obtain⟨hs,hR⟩:=h;unfold Builtin.«zip.__new__»;have hsub:=sub_zip;refine aGb (m:=Builtin.SmallTypes.newClass "zip" _) ?_;unfold Builtin.SmallTypes.newClass
  wp_walk
  refine rQ qs #[] s hs λh' sz kp at' =>?_;have el:(bN s.heap.objs.size qs).length=qs.length:=fB _ _;have ea:((#[]:Array Value)++((bN s.heap.objs.size qs).map λp=>Value.ref p.it).toArray).toList=(bN s.heap.objs.size qs).map λp=>Value.ref p.it:=by simp
  refine aGd ?_;simp only[ea];refine aGb (aIw ?_ (by simp[el];exact hsz));refine aGb (aIw ?_ (by simp[el];exact hsz));unfold Builtin.SmallTypes.newRecord;dsimp only;refine aGb (aH3 ?_ S3);refine aGd ⟨_,rfl,?_⟩;generalize hls:bN s.heap.objs.size qs=ls at el at' hR⊢;have z1:(h'.push {cls:= .type "tuple",data:= .seq ((ls.map λp=>Value.ref p.it).toArray)}).objs.size=h'.objs.size+1:=aK4 ..;have g1:(h'.push {cls:= .type "tuple",data:= .seq ((ls.map λp=>Value.ref p.it).toArray)}).get? h'.objs.size=some _:=aGj _ rfl;have k1:∀b o,h'.get? b=some o->(h'.push {cls:= .type "tuple",data:= .seq ((ls.map λp=>Value.ref p.it).toArray)}).get? b=some o:=λb o e=>aGe _ e;generalize hh1:h'.push {cls:= .type "tuple",data:= .seq ((ls.map λp=>Value.ref p.it).toArray)}=h1 at z1 g1 k1⊢;have z2:(h1.push {cls:= .type "tuple",data:= .seq ((List.map (λx=>Value.none) (ls.map λp=>Value.ref p.it)).toArray)}).objs.size=h1.objs.size+1:=aK4 ..;have g2:(h1.push {cls:= .type "tuple",data:= .seq ((List.map (λx=>Value.none) (ls.map λp=>Value.ref p.it)).toArray)}).get? h1.objs.size=some _:=aGj _ rfl;have k2:∀b o,h1.get? b=some o->(h1.push {cls:= .type "tuple",data:= .seq ((List.map (λx=>Value.none) (ls.map λp=>Value.ref p.it)).toArray)}).get? b=some o:=λb o e=>aGe _ e;generalize hh2:h1.push {cls:= .type "tuple",data:= .seq ((List.map (λx=>Value.none) (ls.map λp=>Value.ref p.it)).toArray)}=h2 at z2 g2 k2⊢;refine hR _ h2.objs.size h'.objs.size h1.objs.size (by lia) (by lia) (by lia) (by lia) (by lia) (by lia) ⟨?_,⟨0,?_⟩,⟨List.map (λx=>Value.none) (ls.map λp=>Value.ref p.it),0,by simp[hls],?_⟩,λq hq=>?_⟩ λb o e=>aGe _ (k2 _ _ (k1 _ _ (kp b o e)))
  ·exact aGj _ rfl
  ·exact aGe _ (k2 _ _ g1)
  ·exact aGe _ g2
  ·exact(at' q hq).to λo e=>aGe _ (k2 _ _ (k1 _ _ e))
theorem yD{qs:List Src}{Q:aKe}(hsz:qs.length<=sizeLine)(hT:checkTypeCall "zip" ⟨qs.map λq=>Value.ref q.l,[]⟩=pure ())(hN:checkBuiltinCall "zip.__new__" ⟨.type "zip"::qs.map λq=>Value.ref q.l,[]⟩=pure ())
  (hI:∀obj,argsOk "object.__init__" ⟨obj::qs.map λq=>Value.ref q.l,[]⟩) (hs:∀q∈qs,∃items,q.Sq s.heap items)
  (h:∀h' z TI TO,s.heap.objs.size<=TI->s.heap.objs.size<=TO->s.heap.objs.size<=z->dG z TI TO (bN s.heap.objs.size qs)->fQ h' z TI TO (bN s.heap.objs.size qs) .none 0->(∀b o,s.heap.get? b=some o->h'.get? b=some o)->Q (.ref z) {s with heap:=h'}):
  wpAny (model prog w) A (call (.type "zip") (qs.map λq=>Value.ref q.l)) Q E s:=by
 refine callType_new F.called_zip (by decide) hT hN hI F.entry_zip_new (ET qs hsz) ⟨hs,λh' z TI TO t1 t2 t3 t4 t5 t6 Z kp=>?_⟩;refine⟨⟨_,Z.obj,rfl⟩,h h' z TI TO (by lia) (by lia) (by lia) ⟨t3,t4,t2,λq hq=>?_,pM _ _,λq hq=>?_⟩ Z kp⟩
 ·obtain⟨h1,h2,_⟩:=dY hq;exact⟨aGu (aGz h2 t6),aGu (aGz h2 t1),aGu (aGz h2 t5)⟩
 ·obtain⟨h1,h2,q',hq',e1,_⟩:=dY hq;obtain⟨items,hs'⟩:=hs q' hq';obtain⟨o,n,ho,_⟩:=hs'.obj;have hlt:q.l<s.heap.objs.size:=by rw[e1];exact aGl ho
  exact⟨aGu (aGz hlt (aH5 (Nat.le_add_right _ _) t6)),aGu (aGz hlt (aH5 (Nat.le_add_right _ _) t5)),λr hr=>aGu (aGz hlt (dY hr).1)⟩
end
def HN(K:aKd)(H:Hp)(t:Bool)(a:Addr)(xs:List V):Prop:=match t with | true=>oG K H a xs | false=>oH K H a xs
def Itz(K:aKd)(src:List (Addr×Bool)):It where
 go:=λi H=>∃vs:List V,vs.length=src.length/\∀(k:Nat) a t v,src[k]? =some (a,t)->vs[k]? =some v->∃xs,HN K H t a xs/\xs[i]? =some v
 ZX:=λi H x H' =>∃p vs,H p=none/\x= .ref p/\H' =upd H p (.tup vs)/\vs.length=src.length/\∀(k:Nat) a t v,src[k]? =some (a,t)->vs[k]? =some v->∀xs,HN K H t a xs->xs[i]? =some v
 stop:=λi H=>∃(k:Nat) (a:Addr) (t:Bool) (xs:List V),src[k]? =some (a,t)/\HN K H t a xs/\xs.length<=i/\∀(j:Nat) b u,j<k->src[j]? =some (b,u)->∃ys,HN K H u b ys/\i<ys.length
section
variable {X:Cx}{pins:List (Addr×Obj)}{σ:St}{H:Hp}{s:Shared}
theorem Inv.ZZ{t:Bool}{a:Addr}{xs:List V}(I:Inv X pins σ H s)(h:HN X.K H t a xs):∃aI:List Value,Vals xs aI/\∀it,(⟨it,a,t⟩:Src).Sq s.heap aI.toArray:=by
 cases t with
 | true=>obtain⟨aI,r,p,_⟩:=I.tuple h;exact⟨aI,r,λ_=>p⟩
 | false=>obtain⟨aI,r,p,_⟩:=I.list h;exact⟨aI,r,λ_=>p.isList⟩
theorem Inv.QD{t:Bool}{a:Addr}{xs ys:List V}(I:Inv X pins σ H s)(h:HN X.K H t a xs)(h' :HN X.K H t a ys):xs=ys:=by
 cases t with
 | true=>exact I.wR h h'
 | false=>exact I.B7 h h'
theorem Inv.aCq{fp:List Addr}{h' :Heap}{t' :Nat}{p:Addr}{o:HO}(I:Inv X pins σ H s)(hf:∀b∈fp,mZ X pins H b)(k:∀b o,b∉fp->s.heap.get? b=some o->h'.get? b=some o)
  (hp:s.heap.objs.size<=p) (new:dA X.prog X.w (upd H p o) h' p o):Inv X pins σ (upd H p o) {s with heap:=h',toks:=t'}:=by
 have hn:H p=none:=I.bZ.fresh hp;have ntr:∀b u,H b=some u->b∉fp:=λb u e z=>by rw[(hf b z).1]at e;cases e
 refine I.step (g' :=s.gens) (d' :=s.drawn) (ch:=fp) (λb hb=>⟨(hf b hb).2.2.2.1,(hf b hb).2.1,(hf b hb).2.2.2.2.1,(hf b hb).2.2.2.2.2⟩) (λb o _ _ hc e _=>k b o hc e) (λb o _ _ hc e _=>⟨o.slots,k b o hc e⟩)
  (λb o _ e n=>by rw[aP (Nat.ne_of_lt (Nat.lt_of_lt_of_le (Heap.lt_size e) hp))];exact n) (λb o hc e=>⟨o,k b o hc e⟩) (λb xs e=>by rw[aP (bM e hn)];exact e) (λb o u e=>by rw[aP (bM e hn)];exact e)
  (λb ps e=>⟨#[],by rw[aP (bM e hn),e];simp⟩) (λm hm=>?_) (λb u e=>?_) I.bare
 ·obtain⟨o,es,ep,ho,r⟩:=hm;exact⟨o,es,ep,k _ o (λz=>(hf _ z).2.1 rfl) ho,r⟩
 ·by_cases hb:b=p
  ·subst hb;rw[bK]at e;cases e;exact new
  ·rw[aP hb]at e;refine(I.bZ b u e).sA (λc v hc q=>k c v ?_ q) (λc q=>by rw[aP (bM q hn)];exact q) λc xs q=>by rw[aP (bM q hn)];exact q
   rcases hc with rfl | hc
   ·exact ntr _ u e
   ·exact ntr _ _ hc
theorem Inv.YY{fp:List Addr}{h' :Heap}{t' :Nat}(I:Inv X pins σ H s)(hf:∀b∈fp,mZ X pins H b)(k:∀b o,b∉fp->s.heap.get? b=some o->h'.get? b=some o):Inv X pins σ H {s with heap:=h',toks:=t'}:=by
 have ntr:∀b u,H b=some u->b∉fp:=λb u e z=>by rw[(hf b z).1]at e;cases e
 refine I.step (g' :=s.gens) (d' :=s.drawn) (ch:=fp) (λb hb=>⟨(hf b hb).2.2.2.1,(hf b hb).2.1,(hf b hb).2.2.2.2.1,(hf b hb).2.2.2.2.2⟩) (λb o _ _ hc e _=>k b o hc e) (λb o _ _ hc e _=>⟨o.slots,k b o hc e⟩)
  (λb o _ e n=>n) (λb o hc e=>⟨o,k b o hc e⟩) (λb xs e=>e) (λb o u e=>e) (λb ps e=>⟨#[],by rw[e];simp⟩) (λm hm=>?_) (λb u e=>?_) I.bare
 ·obtain⟨o,es,ep,ho,r⟩:=hm;exact⟨o,es,ep,k _ o (λz=>(hf _ z).2.1 rfl) ho,r⟩
 ·refine(I.bZ b u e).sA (λc v hc q=>k c v ?_ q) (λ_ q=>q) λ_ _ q=>q;rcases hc with rfl | hc
  ·exact ntr _ u e
  ·exact ntr _ _ hc
end
theorem MC{P:Nat->Value->Prop}:∀{vs:List V},(∀(k:Nat) v,vs[k]? =some v->∃u,RelV v u/\P k u)->∃us,Vals vs us/\∀(k:Nat) u,us[k]? =some u->P k u
 | [],_=>⟨[],.nil,λk u e=>by simp at e⟩
 | v::r,h=>by
  obtain⟨u,ru,pu⟩:=h 0 v rfl;obtain⟨us,rs,ps⟩:=MC (P:=λk u=>P (k+1) u) (vs:=r) λk v e=>h (k+1) v (by simpa using e);refine⟨u::us,.cons ru rs,λk w e=>?_⟩
  cases k with
  | zero=>simp at e;subst e;exact pu
  | succ k=>exact ps k w (by simpa using e)
theorem LB{P:Program}{w:World}{K:aKd}{elts:List Expr}{x1}{pos:Pos}{z TI TO:Addr}{qs:List Src}(D:dG z TI TO qs)(hne:qs≠[])(hsz:qs.length<=sizeLine):
  Turn P w K (.Tuple elts x1 pos) (Itz K (qs.map λq=>(q.l,q.tup))) (z::TI::TO::qs.map (·.it)) z (λi h=>fQ h z TI TO qs .none i) where
 mem:=aGf
 obj:=λi h Z b hb=>by
  rcases aGk.mp hb with rfl | hb
  ·exact⟨_,Z.obj,λv e=>by cases e⟩
  rcases aGk.mp hb with rfl | hb
  ·obtain⟨n,e⟩:=Z.aI;exact⟨_,e,λv e=>by cases e⟩
  rcases aGk.mp hb with rfl | hb
  ·obtain⟨xs,n,_,e⟩:=Z.own;exact⟨_,e,λv e=>by cases e⟩
  obtain⟨q,hq,rfl⟩:=aGm.mp hb;obtain⟨o,ho,hd⟩:=(Z.at_ q hq).obj;exact⟨o,ho,λv e=>by rw[hd]at e;cases e⟩
 keep:=λi h h' Z k=>by
  refine⟨k z (by simp) _ Z.obj,?_,?_,λq hq=>(Z.at_ q hq).to λo e=>k q.it (by simp;exact .inr (.inr (.inr ⟨q,hq,rfl⟩))) o e⟩
  ·obtain⟨n,e⟩:=Z.aI;exact⟨n,k TI (by simp) _ e⟩
  ·obtain⟨xs,n,l,e⟩:=Z.own;exact⟨xs,n,l,k TO (by simp) _ e⟩
 item:=by
  intro X hP hw hK hc i pins s σ H E I hf Z hg;subst hP hw hK;obtain⟨vs,hl,hv⟩:=hg;have hlq:vs.length=qs.length:=by simpa using hl
  obtain⟨us,ru,pu⟩:=MC (P:=λk u=>∀q,qs[k]? =some q->∃items,q.Sq s.heap items/\items[i]? =some u) (vs:=vs) λk v e=>by
   have hk:k<qs.length:=by have:=(aGc.mp e).1;lia
   have hqk:qs[k]? =some qs[k]:=aGp hk;obtain⟨xs,hx,hi⟩:=hv k qs[k].l qs[k].tup v (by rw[List.getElem?_map,hqk];rfl) e;obtain⟨aI,rv,hs⟩:=I.ZZ hx;obtain⟨u,hu,r⟩:=rv.get hi;refine⟨u,r,λq hq=>?_⟩;rw[hqk]at hq;cases hq;exact⟨aI.toArray,hs qs[k].it,by simpa using hu⟩
  have hul:us.length=qs.length:=by rw[<-ru.length,hlq]
  refine nH D Z hne hul (λk q x hq hx=>pu k x hx q hq) hsz λh1 Z1 t1 z1 k1=>?_;refine⟨_,rfl,YX (s:={s with heap:=h1}) D Z1 λh2 Z2 sb2=>?_⟩;have hplt:s.heap.objs.size≠z:=aIz (aGl Z.obj)
  have kk:∀b o,b∉(z::TI::TO::qs.map (·.it))->s.heap.get? b=some o->h2.get? b=some o:=λb o hb e=>by
   have b1:b≠z:=λz=>hb (by simp[z]);have b2:b≠TO:=λz=>hb (by simp[z]);exact sb2.extBut _ _ b1 (k1 b o b1 b2 (λq hq z=>hb (by simp;exact .inr (.inr (.inr ⟨q,hq,z.symm⟩)))) e)
  refine⟨.ref s.heap.objs.size,upd H s.heap.objs.size (.tup vs),I.aCq (t' :=s.toks) hf kk (aGi _) ⟨by lia,us,ru,⟨_,sb2.extBut _ _ hplt t1,rfl,0,rfl⟩,λo e=>by rw[sb2.extBut _ _ hplt t1]at e;cases e;rfl⟩,rfl,?_,Z2,λb hb=>?_⟩
  ·refine⟨s.heap.objs.size,vs,I.bZ.fresh (aGi _),rfl,rfl,hl,λk a t v hs hvk xs hx=>?_⟩;obtain⟨ys,hy,hi⟩:=hv k a t v hs hvk;rw[I.QD hx hy];exact hi
  ·have hb0:=(hf b hb).1
   have:b≠s.heap.objs.size:=by
    rintro rfl
    have ho:∃o,s.heap.get? s.heap.objs.size=some o:=by
     rcases aGk.mp hb with e | hb
     ·rw[e];exact⟨_,Z.obj⟩
     rcases aGk.mp hb with e | hb
     ·rw[e];obtain⟨n,e⟩:=Z.aI;exact⟨_,e⟩
     rcases aGk.mp hb with e | hb
     ·rw[e];obtain⟨xs,n,_,e⟩:=Z.own;exact⟨_,e⟩
     obtain⟨q,hq,e⟩:=aGm.mp hb;have e' :q.it=s.heap.objs.size:=e;rw[<-e'];obtain⟨o,ho,_⟩:=(Z.at_ q hq).obj;exact⟨o,ho⟩
    obtain⟨o,ho⟩:=ho;exact absurd (aGl ho) (aHx _)
   rw[aP this];exact hb0
 done:=by
  intro X hP hw hK hc i pins s σ H E I hf Z hg;subst hP hw hK;obtain⟨k,a,t,xs,hk,hx,hle,hlt⟩:=hg;rw[List.getElem?_map]at hk
  cases hqk:qs[k]? with
  | none=>rw[hqk]at hk;cases hk
  | some q=>
   rw[hqk]at hk;have hk' :(q.l,q.tup)=(a,t):=aGv hk;injection hk' with e1 e2;subst e1 e2
   refine pJ (k:=k) (I.ok.hd hc) D Z (λj q' hj hjk=>?_) ⟨q,?_⟩ hsz λh' kp=>⟨rfl,I.YY (t' :=s.toks) hf λb o hb e=>kp b o (λz=>hb (by simp[z])) (λz=>hb (by simp[z])) (λq hq z=>hb (by simp;exact .inr (.inr (.inr ⟨q,hq,z.symm⟩)))) e⟩
   ·obtain⟨ys,hy,hl⟩:=hlt j q'.l q'.tup hjk (by rw[List.getElem?_map,hj];rfl);obtain⟨aI,r,hs⟩:=I.ZZ hy;obtain⟨u,hu,_⟩:=r.get (aGp hl);exact⟨aI.toArray,u,hs q'.it,by simpa using hu⟩
   ·obtain⟨aI,r,hs⟩:=I.ZZ hx;refine⟨aI.toArray,hqk,hs q.it,?_⟩;have:=r.length;rw[List.getElem?_toArray];exact aI0.mpr (by lia)
 self:=λA i s Q E Z h=>CI Z h
structure KA(m:Nat):Prop where
 t:∀us:List Value,us.length=m->checkTypeCall "zip" ⟨us,[]⟩=pure ()
 n:∀us:List Value,us.length=m->checkBuiltinCall "zip.__new__" ⟨.type "zip"::us,[]⟩=pure ()
 i:∀(us:List Value) (o:Value),us.length=m->argsOk "object.__init__" ⟨o::us,[]⟩
theorem TZ:KA 2:=⟨λus h=>match us,h with | [a,b],_=>F.typeCall_zip_2 a b,λus h=>match us,h with | [a,b],_=>F.newCall_zip_2 a b,λus o h=>match us,h with | [a,b],_=>F.args_object_init_3 o a b⟩
theorem UZ(a b c:Value):checkTypeCall "zip" ⟨[a,b,c],[]⟩=pure ():=by kernel_rfl
theorem U0(a b c:Value):checkBuiltinCall "zip.__new__" ⟨[.type "zip",a,b,c],[]⟩=pure ():=by kernel_rfl
theorem U1(o a b c:Value):argsOk "object.__init__" ⟨[o,a,b,c],[]⟩:=by
 unfold argsOk;rw[signature?_of (id:= "object.__init__") (n:=['_','_','t','i','n','i','_','_']) (o:=['t','c','e','j','b','o']) (by kernel_rfl) F.owner_object];kernel_rfl
theorem aA5:KA 3:=⟨λus h=>match us,h with | [a,b,c],_=>UZ a b c,λus h=>match us,h with | [a,b,c],_=>U0 a b c,λus o h=>match us,h with | [a,b,c],_=>U1 o a b c⟩
def aFp(K:aKd)(n:Nat)(ta:TA):TI:=λσ H R=>ta σ H λvs H1=>∃src:List (Addr×Bool),vs=src.map (λp=>V.ref p.1)/\src.length=n/\(∀p∈src,∃xs,HN K H1 p.2 p.1 xs)/\R (Itz K src) H1
theorem gI:∀{src:List (Addr×Bool)} {us:List Value},Vals (src.map λp=>V.ref p.1) us->us=src.map λp=>Value.ref p.1
 | [],us,h=>by cases h;rfl
 | p::r,us,h=>by
  cases h with
  | cons a b=>rw[gI b];cases a;rfl
theorem n4:∀(src:List (Addr×Bool)) (m:Nat),((bN m (src.map λp=>(⟨0,p.1,p.2⟩:Src))).map λq=>(q.l,q.tup))=src
 | [],_=>rfl
 | p::r,m=>by simp only[List.map_cons,bN];rw[n4 r (m+1)]
theorem V4{X:Cx}{n:Nat}{e:Expr}{es:List Expr}{ta:TA}{p pos:Pos}{elts:List Expr}{x1}{tpos:Pos}(z:KA n)(hn:0<n/\n<=1000)(hg:Gl X "zip")(hm:X.mg "zip"=none)(ha:PA X (e::es) ta)
  (hv:bootBuiltins "zip"=some (.type "zip"):=by decide+kernel)
  (he:starEach (e::es) X.env=(false,eval e X.env)::starEach es X.env:=by rfl) (hpl:(backTo pos (starEach es X.env)).any (·.1)=false:=by rfl):
  PI X (.Tuple elts x1 tpos) (.Call (.Name "zip" p) (e::es) [] pos) (aFp X.K n ta):=by
 intro pins s σ H R I h;refine aIa (nZ I hg hm hv ?_);refine aHw (cD (ha pos pins s σ H _ I h) λus s1 ⟨vs,H1,I1,r1,q1⟩=>?_) he hpl;obtain⟨src,rfl,hl,hs,hR⟩:=q1;have hu:=gI r1;subst hu;have em:(src.map λp=>Value.ref p.1)=(src.map λp=>(⟨0,p.1,p.2⟩:Src)).map λq=>Value.ref q.l:=by rw[List.map_map];rfl
 have hz:src.length<=sizeLine:=aIh (wW (by lia));rw[em];refine yD (by simpa using hz) (z.t _ (by simpa using hl)) (z.n _ (by simpa using hl)) (λobj=>z.i _ obj (by simpa using hl)) (λq hq=>?_) λh' zz TI TO t1 t2 t3 D Z kp=>?_
 ·obtain⟨p,hp,rfl⟩:=aGm.mp hq;obtain⟨xs,hx⟩:=hs p hp;obtain⟨aI,_,hsq⟩:=I1.ZZ hx;exact⟨aI.toArray,hsq 0⟩
 ·generalize hqs:bN s1.heap.objs.size (src.map λp=>(⟨0,p.1,p.2⟩:Src))=qs at D Z;have hql:qs.length=src.length:=by rw[<-hqs,fB];simp
  have hqsrc:(qs.map λq=>(q.l,q.tup))=src:=by rw[<-hqs];exact n4 _ _
  have I2:Inv X pins σ H1 {s1 with heap:=h'}:=I1.kept (t' :=s1.toks) kp;have T:=LB (P:=X.prog) (w:=X.w) (K:=X.K) (elts:=elts) (x1:=x1) (pos:=tpos) D (by intro e0;rw[e0]at hql;simp at hql;lia) (by lia);rw[hqsrc]at T;refine CI Z ⟨zz,_,_,Itz X.K src,H1,rfl,I2,T,Z,λb hb=>?_,hR⟩
  have hb0:s1.heap.objs.size<=b:=by
   rcases aGk.mp hb with e | hb
   ·rw[e];exact t3
   rcases aGk.mp hb with e | hb
   ·rw[e];exact t1
   rcases aGk.mp hb with e | hb
   ·rw[e];exact t2
   obtain⟨q,hq,e⟩:=aGm.mp hb;rw[<-hqs]at hq;have e' :q.it=b:=e;rw[<-e'];exact(dY hq).1
  exact(I1.OG hb0 (I1.bZ.fresh hb0):mZ X pins H1 b)
abbrev cE(elt tg iter:Expr)(ifs:List Expr)(tg2 aT:Expr)(cT:List Expr)(scope:Scope)(pos:Pos):Expr:= .ListComp elt [⟨tg,iter,ifs,0⟩,⟨tg2,aT,cT,0⟩] scope pos
def BodyOk(X:Cx)(o1 o:Nat)(e aT:Expr)(acc:Addr)(tb:TBd):Prop:=∀(pins:List (Addr×Obj)) (s:Shared) (σ:St) (H:Hp) (ys:List V) (N:List V->Hp->Prop),Inv X pins σ H s->(∀j,o1<=j->j<o->σ[j]? =some none)->tb ys σ H N->
 wpAny (model X.prog X.w) X.A (eval aT X.env) (λx s1=>wpAny (model X.prog X.w) X.A (pyIter x) (λitv s2=>
  codeAny (model X.prog X.w) X.A (.compStart e 1 itv (.ref acc) X.env) (λr s' =>r= .ok .next/\∃ys' H',Inv X pins σ H' s' /\N ys' H') s2) (λ_ _=>False) s1) (λ_ _=>False) s
theorem AJ(elt tg iter:Expr)(ifs:List Expr)(tg2 aT:Expr)(cT:List Expr)(scope:Scope)(pos:Pos)(it:Value)(acc:Addr)(env:Env):
  compTurn (cE elt tg iter ifs tg2 aT cT scope pos) 0 it (.ref acc) env=(do
   standAt iter.pos
   match<-pyNext it with
   | none=>pure (.done .next)
   | some v=>
    letOwnedTupleGo tg it v
    assign tg env v
    let mut ok:=true
    for c in ifs do
     if ok then ok<-isTrue c env (eval c env)
    if ok then
     let x<-eval aT env
     standAt aT.pos
     let x<-foldedSetIterable aT env x
     let _<-runOwn (.compStart (cE elt tg iter ifs tg2 aT cT scope pos) 1 (<-holding [x] (pyIter x)) (.ref acc) env) env
    again (.compLoop (cE elt tg iter ifs tg2 aT cT scope pos) 0 it (.ref acc) env)):=by rfl
theorem v9(elt tg iter:Expr)(ifs:List Expr)(tg2 aT:Expr)(cT:List Expr)(scope:Scope)(pos:Pos)(it acc:Value)(env:Env):
  compTurn (cE elt tg iter ifs tg2 aT cT scope pos) 1 it acc env=(do
   standAt aT.pos
   match<-pyNext it with
   | none=>pure (.done .next)
   | some v=>
    letOwnedTupleGo tg2 it v
    assign tg2 env v
    let mut ok:=true
    for c in cT do
     if ok then ok<-isTrue c env (eval c env)
    if ok then
     (do let _<-call (.builtin "list.append") [acc,<-eval elt env])
    again (.compLoop (cE elt tg iter ifs tg2 aT cT scope pos) 1 it acc env)):=by rfl
theorem AK{prog:Program}{w:World}{A:Around}{R:Result->Shared->Prop}{s:Shared}{elt target iter tg2 aT:Expr}{ifs cT:List Expr}{scope:Scope}{pos:Pos}{it:Value}{acc:Addr}{env:Env}(I:Nat->Shared->Prop)
  (turn:∀n s,I n s->wpAny (model prog w) A (pyNext it) (λr s₁=>match r with
   | none=>R (.ok .next) s₁
   | some v=>wpAny (model prog w) A (letOwnedTupleGo target it v) (λ_ s₁=>wpAny (model prog w) A (assign target env v) (λ_ s₂=>
     wpAny (model prog w) A (forIn ifs true λc r=>if r=true then do let ok<-isTrue c env (eval c env);pure (ForInStep.yield ok) else pure (ForInStep.yield r)) (λok s₃=>
      if ok=true then wpAny (model prog w) A (eval aT env) (λx s₄=>wpAny (model prog w) A (pyIter x) (λitv s₅=>
       codeAny (model prog w) A (.compStart (cE elt target iter ifs tg2 aT cT scope pos) 1 itv (.ref acc) env) (λr s₆=>r= .ok .next/\∃m,m<n/\I m s₆) s₅) (λ_ _=>False) s₄) (λ_ _=>False) s₃
      else ∃m,m<n/\I m s₃) (λ_ _=>False) s₂) (λ_ _=>False) s₁) (λ_ _=>False) s₁) (λ_ _=>False) s)
  (n:Nat) (h:I n s) (hs2:∀x,foldedSetIterable aT env x=pure x):codeAny (model prog w) A (.compLoop (.ListComp elt [⟨target,iter,ifs,0⟩,⟨tg2,aT,cT,0⟩] scope pos) 0 it (.ref acc) env) R s:=by
 refine codeAny_loop rfl I (λn s hI=>?_) n h;show wpAny _ A ((compTurn (cE elt target iter ifs tg2 aT cT scope pos) 0 it (.ref acc) env).onRaise (λx=>do noteFrame x env;theTreesLotGoes x)) _ _ s;refine wpAny_noted ?_;rw[AJ];refine aGb (aI8 (aGb (aH6 (turn n s hI) (λr s₁ h₁=>?_) λ_ _ h' =>h'.elim)))
 cases r with
 | none=>exact aGd h₁
 | some v=>
  refine aGb (aH6 h₁ (λ_ s₁ h₁=>?_) λ_ _ h' =>h'.elim);refine aGb (aH6 h₁ (λ_ s₂ h₂=>aGb (aH6 h₂ (λok s₃ h₃=>?_) λ_ _ h' =>h'.elim)) λ_ _ h' =>h'.elim)
  cases ok with
  | false=>exact aGd ⟨rfl,h₃⟩
  | true=>
   refine aGb (aH6 h₃ (λx s₄ h₄=>aGb (aI8 ?_)) λ_ _ h' =>h'.elim);rw[hs2];refine aGb (aGd ?_);refine aGb (aH7 (aH6 h₄ (λitv s₅ h₅=>?_) λ_ _ h' =>h'.elim));refine aGb (wpAny_runOwn (aIi h₅ λr s₆ h₆=>?_));obtain⟨rfl,h₆⟩:=h₆;exact aGd ⟨rfl,h₆⟩
theorem wA{prog:Program}{w:World}{A:Around}{R:Result->Shared->Prop}{s:Shared}{elt target iter tg2 aT:Expr}{ifs cT:List Expr}{scope:Scope}{pos:Pos}{it acc:Value}{env:Env}(I:Nat->Shared->Prop)
  (turn:∀n s,I n s->wpAny (model prog w) A (pyNext it) (λr s₁=>match r with
   | none=>R (.ok .next) s₁
   | some v=>wpAny (model prog w) A (letOwnedTupleGo tg2 it v) (λ_ s₁=>wpAny (model prog w) A (assign tg2 env v) (λ_ s₂=>
     wpAny (model prog w) A (forIn cT true λc r=>if r=true then do let ok<-isTrue c env (eval c env);pure (ForInStep.yield ok) else pure (ForInStep.yield r)) (λok s₃=>
      if ok=true then wpAny (model prog w) A (eval elt env) (λx s₄=>
       wpAny (model prog w) A (call (.builtin "list.append") [acc,x]) (λ_ s₅=>∃m,m<n/\I m s₅) (λ_ _=>False) s₄) (λ_ _=>False) s₃
      else ∃m,m<n/\I m s₃) (λ_ _=>False) s₂) (λ_ _=>False) s₁) (λ_ _=>False) s₁) (λ_ _=>False) s)
  (n:Nat) (h:I n s):codeAny (model prog w) A (.compLoop (cE elt target iter ifs tg2 aT cT scope pos) 1 it acc env) R s:=by
 refine codeAny_loop rfl I (λn s hI=>?_) n h;show wpAny _ A ((compTurn (cE elt target iter ifs tg2 aT cT scope pos) 1 it acc env).onRaise (λx=>do noteFrame x env;theTreesLotGoes x)) _ _ s;refine wpAny_noted ?_;rw[v9];refine aGb (aI8 (aGb (aH6 (turn n s hI) (λr s₁ h₁=>?_) λ_ _ h' =>h'.elim)))
 cases r with
 | none=>exact aGd h₁
 | some v=>
  refine aGb (aH6 h₁ (λ_ s₁ h₁=>?_) λ_ _ h' =>h'.elim);refine aGb (aH6 h₁ (λ_ s₂ h₂=>aGb (aH6 h₂ (λok s₃ h₃=>?_) λ_ _ h' =>h'.elim)) λ_ _ h' =>h'.elim)
  cases ok with
  | false=>exact aGd ⟨rfl,h₃⟩
  | true=>
   exact aGb (aGb (aH6 h₃ (λx s₄ h₄=>aGb (aH6 h₄ (λ_ s₅ h₅=>aGd (aGd ⟨rfl,h₅⟩)) λ_ _ h' =>h'.elim)) λ_ _ h' =>h'.elim))
theorem WD{X:Cx}{tg iter tg2 aT elt:Expr}{ifs cT:List Expr}{scope sc:Scope}{N:List Str}{pos:Pos}{wi:TI}{g:TG}{tt:TT}{tb:Addr->TBd}(own:List Str)(o1:Nat)(aD:List Nat)
  (hN:X.N=N) (hsc:X.env.scope=sc) (chk:dR N sc scope aD=true) (fO:X.calm=true) (hi:PI X tg iter wi) (ho1:o1<=own.length) (ho:qT o1 g)
  (hg:∀cl C fp s₀ H₀,PG (aL X own aD scope cl C fp s₀ H₀) tg g) (ht:∀cl C fp s₀ H₀,UW (aL X own aD scope cl C fp s₀ H₀) ifs tt)
  (he:∀acc cl C fp s₀ H₀,BodyOk (aL X own aD scope cl C fp s₀ H₀) o1 own.length (cE elt tg iter ifs tg2 aT cT scope pos) aT acc (tb acc))
  (hs2:∀env x,foldedSetIterable aT env x=pure x)
  (hs:∀x,foldedSetIterable iter X.env x=pure x:=by intro _;rfl):PE X (.ListComp elt [⟨tg,iter,ifs,0⟩,⟨tg2,aT,cT,0⟩] scope pos) (QA own aD wi g tt tb):=by
 intro pins s σ H Q I h;rw[eval_ListComp]
 refine x8 own o1 aD (λenv acc K s=>wpAny (model X.prog X.w) X.A (eval aT env) (λx s1=>wpAny (model X.prog X.w) X.A (pyIter x) (λitv s2=>
  codeAny (model X.prog X.w) X.A (.compStart (cE elt tg iter ifs tg2 aT cT scope pos) 1 itv (.ref acc) env) (λr s' =>r= .ok .next/\K s') s2) (λ_ _=>False) s1) (λ_ _=>False) s)
  hN hsc chk fO hi ho1 ho hg ht (λacc cl C fp s₀ H₀ pins s σ H ys NN K I9 fresh q k=>?_) (λit acc env R I turn n s h=>AK I turn n h (hs2 _)) hs I h DD
 refine cD (he _ _ _ _ _ _ _ s σ H ys NN I9 fresh q) λx sa ha=>cD ha λitv sb hb=>aIi hb λr sc hc=>?_;obtain⟨rfl,ysn,H10,I10,q10⟩:=hc;exact⟨rfl,k _ _ _ I10 q10⟩
theorem kK{prog:Program}{w:World}{A:Around}{R:Result->Shared->Prop}{s:Shared}{elt tg iter tg2 aT:Expr}{ifs cT:List Expr}{scope:Scope}{pos:Pos}{it acc:Value}{env:Env}
  (h0:codeAny (model prog w) A (.compLoop (cE elt tg iter ifs tg2 aT cT scope pos) 1 it acc env) R s)
  (h:wpAny (model prog w) A (pyIter it) (λit' s' =>codeAny (model prog w) A (.compLoop (cE elt tg iter ifs tg2 aT cT scope pos) 1 it' acc env) R s')
   (notedBy (model prog w) A env λx s' =>R (.error x) s') s):
  codeAny (model prog w) A (.compStart (cE elt tg iter ifs tg2 aT cT scope pos) 1 it acc env) R s:=by
 refine aJt ?_;show wpAny _ _ ((compStart (cE elt tg iter ifs tg2 aT cT scope pos) 1 it acc env).onRaise (λx=>do noteFrame x env;standAt theWindowsPlace)) _ _ s;refine wpAny_notedAt ?_;unfold compStart;show wpAny _ _ (ask >>=_) _ _ s;refine aGb (aJm (wpAny_ite ?_));split
 ·first
   | exact aGb (aGd (aGd (And.intro rfl h0)))
   | exact aGd (And.intro rfl h0)
 ·first
   | exact aGb (aHg (aGb (aI8 (aGb (aH6 h (λit' s' h' =>aGd (And.intro rfl h')) λ_ _ x=>x)))))
   | (refine aGb (aHg ?_);show wpAny _ _ (standAt aT.pos >>=_) _ _ s;exact aGb (aI8 (aGb (aH6 h (λit' s' h' =>aGd (And.intro rfl h')) λ_ _ x=>x))))
def GIn(lo hi:Nat)(g:TG):Prop:=∀v σ H Q,g v σ H Q->g v σ H λσ' H' =>Q σ' H' /\σ'.length=σ.length/\∀j,(j<lo\/hi<=j)->σ'[j]? =σ[j]?
def TR(lo hi:Nat)(g:DQ):Prop:=∀vs σ H Q,g vs σ H Q->g vs σ H λσ' H' =>Q σ' H' /\σ'.length=σ.length/\∀j,(j<lo\/hi<=j)->σ'[j]? =σ[j]?
theorem OD{lo hi i:Nat}(h:lo<=i)(h2:i<hi):GIn lo hi (pR i):=λv σ H Q q=>⟨q,by simp,λj hj=>by rw[List.getElem?_set_ne (by lia)]⟩
theorem S1{lo hi:Nat}:TR lo hi JP:=λvs σ H Q q=>⟨q.1,q.2,rfl,λ_ _=>rfl⟩
theorem OE{lo hi:Nat}{t:TG}{u:DQ}(mt:∀v σ H Q Q',(∀σ' H',Q σ' H' ->Q' σ' H')->t v σ H Q->t v σ H Q')(mu:∀v σ H Q Q',(∀σ' H',Q σ' H' ->Q' σ' H')->u v σ H Q->u v σ H Q')(h1:GIn lo hi t)(h2:TR lo hi u):TR lo hi (xT t u):=by
 intro vs σ H Q q;obtain⟨v,r,e,q⟩:=q;refine⟨v,r,e,mt _ _ _ _ _ (λσ' H' ⟨q',l,k⟩=>?_) (h1 _ _ _ _ q)⟩;refine mu _ _ _ _ _ (λσ2 H2 ⟨q2,l2,k2⟩=>?_) (h2 _ _ _ _ q');exact⟨q2,l2.trans l,λj hj=>(k2 j hj).trans (k j hj)⟩
theorem S0{lo hi m:Nat}{K:aKd}{u:DQ}(h:TR lo hi u):GIn lo hi (S2 K m u):=by
 intro v σ H Q q;obtain⟨a,xs,e,hs,hl,q⟩:=q;exact⟨a,xs,e,hs,hl,h _ _ _ _ q⟩
def DZ(wi:TI)(g:TG)(tt:TT)(te:TE)(acc:Addr):TBd:=λys σ H N=>wi σ H λJ H1=>
 ∃W:Nat->Nat->List V->Hp->Prop,(∃m,W 0 m ys H1)/\∀i m ys H,W i m ys H->
  ((J.stop i H/\N ys H)\/(J.go i H/\∃NN:List V->Hp->Prop,(∀ys' H',NN ys' H' ->∃m',m'<m/\W (i+1) m' ys' H')/\
   ∀x H',J.ZX i H x H' ->g x σ H' λσ2 H2=>tt σ2 H2 λb H3=>if b=true then ys.length<sizeLine/\te σ2 H3 λy H4=>H4 acc=some (.lst ys)/\NN (ys++[y]) (upd H4 acc (.lst (ys++[y]))) else NN ys H3))
theorem J4{X:Cx}{o1 o:Nat}{elt tg iter tg2 aT:Expr}{ifs cT:List Expr}{scope:Scope}{pos:Pos}{acc:Addr}{wi:TI}{g:TG}{tt:TT}{te:TE}(hc:X.calm=true)(hx:X.xe=λ_ _=>False)(hi:PI X tg2 aT wi)(hg:PG X tg2 g)(hn:GIn o1 o g)(ht:UW X cT tt)(he:PE X elt te):
  BodyOk X o1 o (cE elt tg iter ifs tg2 aT cT scope pos) aT acc (DZ wi g tt te acc):=by
 intro pins s σ H ys N I fresh h;have hi' :=hi pins s σ H _ I h;rw[hx]at hi';refine cD hi' λv s1 h1=>cD h1 λitv s2 h2=>?_;obtain⟨it,fp,tn,J,H2,e,I2,T,st2,f2,W,⟨m0,w0⟩,turn⟩:=h2;subst e
 have stat:∀{H' :Hp},(∀b∈fp,H' b=none)->∀b∈fp,mZ X pins H' b:=λhn b hb=>⟨hn b hb,(f2 b hb).2⟩
 have loop:codeAny (model X.prog X.w) X.A (.compLoop (cE elt tg iter ifs tg2 aT cT scope pos) 1 (.ref it) (.ref acc) X.env) (λr s' =>r= .ok .next/\∃ys' H',Inv X pins σ H' s' /\N ys' H') s2:=by
  refine wA (λn s' =>∃i ys H',Inv X pins σ H' s' /\tn i s'.heap/\(∀b∈fp,H' b=none)/\W i n ys H') ?_ m0 ⟨0,ys,H2,I2,st2,λb hb=>(f2 b hb).1,w0⟩;rintro n s3 ⟨i,ys3,H3,I3,st3,fr3,w3⟩
  rcases turn i n ys3 H3 w3 with ⟨stop,qn⟩ | ⟨go,NN,hNN,step⟩
  ·refine cD (T.done X rfl rfl rfl hc i pins s3 σ H3 (λ_ _=>False) I3 (stat fr3) st3 stop) λr s4 zz0=>?_;obtain⟨hr,I4⟩:=zz0;subst hr;exact⟨rfl,ys3,H3,I4,qn⟩
  ·refine cD (T.item X rfl rfl rfl hc i pins s3 σ H3 (λ_ _=>False) I3 (stat fr3) st3 go) λr s4 zz1=>?_;obtain⟨u,hr,h4⟩:=zz1;subst hr;refine cD h4 λ_ s5 zz2=>?_;obtain⟨x,H5,I5,r5,y5,st5,fr5⟩:=zz2;have I5' :=I5.pinned (stat fr5) (T.obj _ _ st5);have hg' :=hg _ s5 σ H5 x u _ I5' r5 (hn _ _ _ _ (step x H5 y5));rw[hx]at hg';refine cD hg' λ_ s6 zz3=>?_;obtain⟨σ6,H6,I6,q6,l6,k6⟩:=zz3;have ht' :=ht _ s6 σ6 H6 _ I6 q6;rw[hx]at ht';refine cD ht' λok s7 zz4=>?_;obtain⟨H7,I7,q7⟩:=zz4
   have again:∀{ysn:List V} {H8:Hp} {s8:Shared},Inv X (pins++qH fp s5.heap) σ6 H8 s8->NN ysn H8->∃m,m<n/\∃i ys H',Inv X pins σ H' s8/\tn i s8.heap/\(∀b∈fp,H' b=none)/\W i m ys H' :=λ{ysn H8 s8} I8 n8=>by
    obtain⟨m',hm,w8⟩:=hNN ysn H8 n8
    have I8' :Inv X pins σ H8 s8:=I8.lC.weak l6.symm λj v e=>by
     by_cases hj:j<o1\/o<=j
     ·rw[k6 j hj];exact e
     ·rw[fresh j (by lia) (by lia)]at e;cases e
    refine⟨m',hm,i+1,ysn,H8,I8',T.keep _ _ _ st5 λb hb o e=>(I8.pin (b,o) (aGs _ (aGs _ (eT hb e)))).1,λb hb=>?_,w8⟩;obtain⟨o,e,d⟩:=T.obj _ _ st5 b hb;exact(I8.pin (b,o) (aGs _ (aGs _ (eT hb e)))).2.1
   cases ok with
   | false=>exact again I7 q7
   | true=>
    rw[if_pos rfl]at q7⊢;obtain⟨hsz,q7⟩:=q7;have he' :=he _ s7 σ6 H7 _ I7 q7;rw[hx]at he';refine cD he' λyv s8 zz5=>?_;obtain⟨y,H8,I8,ry,hacc8,q8⟩:=zz5;have ma:=qJ _ s8 σ6 H8 (.ref acc) [y] (.ref acc) [yv] (λv H' =>v= .b6/\NN (ys3++[y]) H') I8 rfl (.cons ry .nil) ⟨_,_,_,rfl,rfl,hacc8,hsz,rfl,q8⟩;rw[hx]at ma;refine cD ma λ_ s9 zz6=>?_;obtain⟨_,H9,I9,_,_,q9⟩:=zz6;exact again I9 q9
 refine kK loop (T.self _ 0 _ _ _ st2 loop)
end L2
namespace TS
open PySem PyProof.Rows
structure Wk(lt:aKf):Prop where
 qR:∀x y,lt x y=true->lt y x=false
 tr:∀x y z,lt y x=false->lt z y=false->lt z x=false
theorem Wk.JG{lt:aKf}(O:Wk lt)(x:Keyed):lt x x=false:=by
 cases h:lt x x with
 | false=>rfl
 | true=>exact(O.qR x x h).symm.trans h |>.symm▸rfl
def aR(xs:aKh)(i:Nat):Keyed:=(xs[i]?).getD (Value.none,Value.none)
theorem JE{xs ys:aKh}{i j:Nat}(h:xs[i]? =ys[j]?):aR xs i=aR ys j:=by unfold aR;rw[h]
theorem gG{xs:aKh}{i:Nat}(h:i<xs.size):xs[i]? =some (aR xs i):=by unfold aR;rw[getElem?_pos xs i h];rfl
def Seg(lt:aKf)(xs:aKh)(i j:Nat):Prop:=∀p q,i<=p->p<=q->q<j->lt (aR xs q) (aR xs p)=false
def TX(lt:aKf)(xs:aKh)(i j:Nat):Prop:=∀p q,i<=p->p<=q->q<j->lt (aR xs p) (aR xs q)=false
structure Base(κ:SortKind)(a₀:aKh)(st:SortSt):Prop where
 perm:(arrOf st).Perm a₀
 kind:kindOf st=κ
 JS:failedOf st=none
theorem Base.size{κ:SortKind}{a₀:aKh}{st:SortSt}(h:Base κ a₀ st):(arrOf st).size=a₀.size:=h.perm.size_eq
theorem Base.arr{κ:SortKind}{a₀:aKh}{st:SortSt}(h:Base κ a₀ st){xs:aKh}(p:xs.Perm (arrOf st)):Base κ a₀ (setArr st xs):=⟨p.trans h.perm,h.kind,h.JS⟩
theorem Base.mem{κ:SortKind}{a₀:aKh}{st:SortSt}(h:Base κ a₀ st){i:Nat}(hi:i<a₀.size):aR (arrOf st) i∈a₀.toList:=by
 have hz:i<(arrOf st).size:=by rw[h.size];exact hi
 have e:=gG hz;have:aR (arrOf st) i∈arrOf st:=Array.mem_of_getElem? e;exact(Array.perm_iff_toList_perm.mp h.perm).mem_iff.mp this.val
def mT(prog:Program)(w:World)(A:Around)(s:Shared)(κ:SortKind)(lt:aKf)(a₀:aKh):Prop:=
 ∀x y,x∈a₀.toList->y∈a₀.toList->∀Q:Bool->Shared->Prop,Q (lt x y) s->wpAny (model prog w) A (keyLt' κ x.1 y.1) Q (λ_ _=>False) s
section
variable {prog:Program}{w:World}{A:Around}{E:aKe}{s:Shared}{a₀:aKh}{κ:SortKind}{lt:aKf}
theorem wlt{st:SortSt}{x y:Keyed}{Q:Option Bool->SortSt->Prop}(C:mT prog w A s κ lt a₀)(hk:kindOf st=κ)(hx:x∈a₀.toList)(hy:y∈a₀.toList)(h:Q (some (lt x y)) st):wpS (model prog w) A E s (lt' x y) Q st:=by
 rw[lt'_eq];refine aGn (wpS_get ?_);rw[hk];refine aGn (wpS_lift (aHy (aH6 (C x y hx hy (λb s' =>b=lt x y/\s' =s) ⟨rfl,rfl⟩) (λb s' hb=>?_) λ_ _ e=>e.elim)));obtain⟨rfl,rfl⟩:=hb;exact⟨rfl,aGq h⟩
theorem cV{st:SortSt}{arr:aKh}{i:Nat}{Q:Keyed->SortSt->Prop}(hi:i<arr.size)(h:Q (aR arr i) st):wpS (model prog w) A E s (elem' arr i) Q st:=by
 rw[elem'_eq,gG hi];exact aGq h
theorem A4{st:SortSt}{i j:Nat}{Q:Option Bool->SortSt->Prop}(C:mT prog w A s κ lt a₀)(hB:Base κ a₀ st)(hi:i<a₀.size)(hj:j<a₀.size)(h:Q (some (lt (aR (arrOf st) i) (aR (arrOf st) j))) st):
  wpS (model prog w) A E s (ltAt' i j) Q st:=by
 rw[ltAt'_eq];refine aGn (wpS_get ?_);have z:=hB.size;exact aGn (cV (by rw[z];exact hi) (aGn (cV (by rw[z];exact hj) (wlt C hB.kind (hB.mem hi) (hB.mem hj) h))))
theorem n6{xs:aKh}{src d:Nat}(hs:src<xs.size)(hd:d<=src)(k:Nat):aR (bubble xs src d) k=if k=src-d then aR xs src else if src-d<k/\k<=src then aR xs (k-1) else aR xs k:=by
 have e:=getElem?_bubble hs d hd k;unfold aR;rw[e]
 repeat' split
 all_goals rfl
theorem gW{xs:aKh}{i j:Nat}(hj:j<=xs.size)(k:Nat):aR (mirror xs i j ((j-i) / 2)) k=if i<=k/\k<j then aR xs (i+j-1-k) else aR xs k:=by
 have e:=getElem?_mirror_all (i:=i) hj k;unfold aR;rw[e];split <;> rfl
theorem PV(O:Wk lt)(C:mT prog w A s κ lt a₀){st:SortSt}{lo n ok:Nat}{Q:Bool->SortSt->Prop}(hn:lo+n<=a₀.size)(bZ:ok<=n)(hB:Base κ a₀ st)(hs:Seg lt (arrOf st) lo (lo+ok))
  (h:∀st',Base κ a₀ st' ->Seg lt (arrOf st') lo (lo+n)->(∀k,k<lo->aR (arrOf st') k=aR (arrOf st) k)->pendingOf st' =pendingOf st->Q true st'):wpS (model prog w) A E s (binarySort' lo n ok) Q st:=by
 rw[binarySort'_eq]
 refine aGn (aIc (aHz (I:=λk c st' =>c=(none,())/\Base κ a₀ st' /\Seg lt (arrOf st') lo (lo+min k n)/\(∀k,k<lo->aR (arrOf st') k=aR (arrOf st) k)/\pendingOf st' =pendingOf st)
  (Q:=λc st' =>c=(none,())/\Base κ a₀ st' /\Seg lt (arrOf st') lo (lo+n)/\(∀k,k<lo->aR (arrOf st') k=aR (arrOf st) k)/\pendingOf st' =pendingOf st) ?step ?fin ?init) ?post)
 case post=>
  rintro c st' ⟨rfl,hB',hs',hk',hp'⟩;exact aGq (h st' hB' hs' hk' hp')
 case init=>
  refine⟨rfl,hB,λp q hp hpq hq=>?_,λ_ _=>rfl,rfl⟩;by_cases h1:p=q
  ·subst h1;exact O.JG _
  ·exact hs p q hp hpq (by lia)
 case fin=>
  rintro c st' ⟨hc,hB',hs',r⟩;refine⟨hc,hB',?_,r⟩
  rwa [show min (max (max ok 1) n) n=n by (clear r bZ hn;lia)]at hs'
 case step=>
  rintro k c st' hak hkn ⟨rfl,hB',hs',hk',hp'⟩;rw[show min k n=k by lia]at hs';have hk:lo+k<a₀.size:=by lia
  refine aGn (aIc (aHz (I:=λx c st'' =>st'' =st' /\∃l r,c=(none,l,r)/\l<=r/\r<=k/\r-l<=k-x/\
    (∀i,i<l->lt (aR (arrOf st') (lo+k)) (aR (arrOf st') (lo+i))=false)/\(∀i,r<=i->i<k->lt (aR (arrOf st') (lo+k)) (aR (arrOf st') (lo+i))=true))
   (Q:=λc st'' =>st'' =st' /\∃l r,c=(none,l,r)/\l<=k/\
    (∀i,i<l->lt (aR (arrOf st') (lo+k)) (aR (arrOf st') (lo+i))=false)/\(∀i,l<=i->i<k->lt (aR (arrOf st') (lo+k)) (aR (arrOf st') (lo+i))=true)) ?istep ?ifin ?iinit) ?ipost)
  case iinit=>exact⟨rfl,0,k,rfl,by lia,by lia,by lia,λi hi=>by lia,λi h1 h2=>by lia⟩
  case ifin=>
   rintro c st'' ⟨rfl,l,r,rfl,hlr,hrk,hm,hlo,hhi⟩;obtain rfl:l=r:=by lia
   exact⟨rfl,l,l,rfl,hrk,hlo,hhi⟩
  case istep=>
   rintro x c st'' _ hxk ⟨rfl,l,r,rfl,hlr,hrk,hm,hlo,hhi⟩;dsimp only;by_cases hge:l>=r
   ·rw[if_pos hge];obtain rfl:l=r:=by lia
    exact aGq ⟨rfl,l,l,rfl,hrk,hlo,hhi⟩
   ·rw[if_neg hge];refine aGn (A4 C hB' hk (by lia) ?_)
    cases hless:lt (aR (arrOf st'') (lo+k)) (aR (arrOf st'') (lo+(l+r) / 2)) with
    | true=>
     simp only[if_true];refine aGq ⟨rfl,l,(l+r) / 2,rfl,by lia,by lia,by lia,hlo,λi h1 h2=>?_⟩
     cases hx:lt (aR (arrOf st'') (lo+k)) (aR (arrOf st'') (lo+i)) with
     | true=>rfl
     | false=>rw[O.tr _ _ _ (hs' (lo+(l+r) / 2) (lo+i) (by lia) (by lia) (by lia)) hx]at hless;cases hless
    | false=>
     simp only[Bool.false_eq_true,if_false];refine aGq ⟨rfl,(l+r) / 2+1,r,rfl,by lia,by lia,by lia,λi h1=>?_,hhi⟩;exact O.tr _ _ _ (hs' (lo+i) (lo+(l+r) / 2) (by lia) (by lia) (by lia)) hless
  case ipost=>
   rintro c st'' ⟨rfl,l,r,rfl,hlk,hlo,hhi⟩;show wpS _ _ _ _ (do moveDown' (lo+k) (lo+l);pure (ForInStep.yield (none,()))) _ _;rw[moveDown'_eq];have hks:lo+k<(arrOf st'').size:=by rw[hB'.size];exact hk
   have e1:lo+k-(lo+l)=k-l:=by lia
   refine aGn (aJn (aGq ⟨rfl,hB'.arr (bubble_perm _ _ _),?_,λj hj=>?_,hp'⟩))
   ·rw[show min (k+1) n=k+1 by lia];intro p q hp hpq hq;show lt (aR (bubble (arrOf st'') (lo+k) (lo+k-(lo+l))) q) (aR (bubble (arrOf st'') (lo+k) (lo+k-(lo+l))) p)=false;rw[n6 hks (by lia),n6 hks (by lia),show lo+k-(lo+k-(lo+l))=lo+l by (clear hq hpq hp e1 hks hk hkn hak bZ hn;lia)]
    repeat' split
    all_goals first
     | (exfalso;lia)
     | exact O.JG _
     | (have:=hlo (p-lo) (by lia);rwa [show lo+(p-lo)=p by lia]at this)
     | (have:=O.qR _ _ (hhi (q-1-lo) (by lia) (by lia));rwa [show lo+(q-1-lo)=q-1 by lia]at this)
     | exact hs' _ _ (by lia) (by lia) (by lia)
   ·show aR (bubble (arrOf st'') (lo+k) (lo+k-(lo+l))) j=_;rw[n6 hks (by lia),if_neg (by lia),if_neg (by lia)];exact hk' j hj
end
def upL(lo a b7:Nat):StateT SortSt Sem (Option (Option Nat)×Nat):=
 forIn [a:b7] ((none,a):Option (Option Nat)×Nat) λ_ c=>do
  let x<-ltAt' (lo+c.snd) (lo+c.snd-1)
  match x with
  | some smaller=>if smaller=true then pure (ForInStep.done (none,c.snd)) else pure (ForInStep.yield (none,c.snd+1))
  | _=>pure (ForInStep.done (some none,c.snd))
def CA(lo n b7:Nat):StateT SortSt Sem (Option Nat):=do
 reverseSlice' lo (lo+n)
 let c<-upL lo n b7
 match c.fst with
 | some r=>pure r
 | none=>pure (some c.snd)
def HE(lo n b7:Nat):StateT SortSt Sem (Option (Option Nat)×Nat×Nat):=
 forIn [n:b7] ((none,n,0):Option (Option Nat)×Nat×Nat) λ_ c=>do
  let x<-ltAt' (lo+c.snd.fst) (lo+c.snd.fst-1)
  match x with
  | some smaller=>
   if smaller=true then
    if c.snd.snd > 0 then do
     reverseSlice' (lo+c.snd.fst-(c.snd.snd+1)) (lo+c.snd.fst)
     pure (ForInStep.yield (none,c.snd.fst+1,0))
    else pure (ForInStep.yield (none,c.snd.fst+1,0))
   else do
    let y<-ltAt' (lo+c.snd.fst-1) (lo+c.snd.fst)
    match y with
    | some larger=>if larger=true then pure (ForInStep.done (none,c.snd.fst,c.snd.snd)) else pure (ForInStep.yield (none,c.snd.fst+1,c.snd.snd+1))
    | _=>pure (ForInStep.done (some none,c.snd.fst,c.snd.snd))
  | _=>pure (ForInStep.done (some none,c.snd.fst,c.snd.snd))
def CP(lo n b7:Nat):StateT SortSt Sem (Option Nat):=do
 liftM (rule "list.sort.descending-run")
 let c<-HE lo (n+1) b7
 match c.fst with
 | some r=>pure r
 | none=>
  if c.snd.snd > 0 then do
   reverseSlice' (lo+c.snd.fst-(c.snd.snd+1)) (lo+c.snd.fst)
   CA lo c.snd.fst b7
  else CA lo c.snd.fst b7
theorem JY(lo b7:Nat):countRun' lo b7=(do
  let c<-upL lo 1 b7
  match c.fst with
  | some r=>pure r
  | none=>
   if (c.snd==b7)=true then pure (some c.snd)
   else if c.snd > 1 then do
    let x<-ltAt' lo (lo+c.snd-1)
    match x with
    | some rose=>if rose=true then pure (some c.snd) else do
      reverseSlice' lo (lo+c.snd)
      CP lo c.snd b7
    | _=>pure none
   else CP lo c.snd b7):=by
 rw[countRun'_eq];dsimp only;unfold CP CA HE upL;congr 1;funext c;obtain⟨r,n⟩:=c
 cases r with
 | some r=>rfl
 | none=>
  dsimp only;have fin:∀(c3:Option (Option Nat)×Nat),(match c3.fst with | some r=>(pure r:StateT SortSt Sem (Option Nat)) | none=>pure (some c3.snd))=(match c3.fst with | some r=>pure r | none=>pure (some c3.snd)):=λ_=>rfl;split
  ·rfl
  ·split
   ·congr 1;funext x
    cases x with
    | none=>rfl
    | some rose=>
     dsimp only;split
     ·rfl
     ·congr 1;funext u;congr 1;funext u1;congr 1;congr 1;funext c2;obtain⟨r2,n2,q2⟩:=c2
      cases r2 with
      | some r2=>rfl
      | none=>
       dsimp only;split
       ·congr 1;funext v;congr 1;funext v1;congr 1;funext c3;obtain⟨r3,n3⟩:=c3;cases r3 <;> rfl
       ·congr 1;funext v1;congr 1;funext c3;obtain⟨r3,n3⟩:=c3;cases r3 <;> rfl
   ·congr 1;funext u1;congr 1;congr 1;funext c2;obtain⟨r2,n2,q2⟩:=c2
    cases r2 with
    | some r2=>rfl
    | none=>
     dsimp only;split
     ·congr 1;funext v;congr 1;funext v1;congr 1;funext c3;obtain⟨r3,n3⟩:=c3;cases r3 <;> rfl
     ·congr 1;funext v1;congr 1;funext c3;obtain⟨r3,n3⟩:=c3;cases r3 <;> rfl
section
variable {prog:Program}{w:World}{A:Around}{E:aKe}{s:Shared}{a₀:aKh}{κ:SortKind}{lt:aKf}
theorem PQ{st:SortSt}{i j:Nat}{Q:Unit->SortSt->Prop}(h:Q () (setArr st (mirror (arrOf st) i j ((j-i) / 2)))):wpS (model prog w) A E s (reverseSlice' i j) Q st:=by
 rw[reverseSlice'_eq];exact aJn h
def i8(lo:Nat)(st st' :SortSt):Prop:=(∀k,k<lo->aR (arrOf st') k=aR (arrOf st) k)/\pendingOf st' =pendingOf st
theorem i8.refl{lo:Nat}{st:SortSt}:i8 lo st st:=⟨λ_ _=>rfl,rfl⟩
theorem i8.trans{lo:Nat}{a b c:SortSt}(h:i8 lo a b)(h' :i8 lo b c):i8 lo a c:=⟨λk hk=>(h'.1 k hk).trans (h.1 k hk),h'.2.trans h.2⟩
theorem i8.mirror{lo i j:Nat}{st:SortSt}(hi:lo<=i)(hj:j<=(arrOf st).size):i8 lo st (setArr st (PyProof.Rows.mirror (arrOf st) i j ((j-i) / 2))):=
 ⟨λk hk=>by show aR (PyProof.Rows.mirror (arrOf st) i j ((j-i) / 2)) k=_;rw[gW hj,if_neg (by lia)],rfl⟩
theorem wup(O:Wk lt)(C:mT prog w A s κ lt a₀){st:SortSt}{lo a b7:Nat}{Q:Option (Option Nat)×Nat->SortSt->Prop}(hn:lo+b7<=a₀.size)(ha:1<=a)(han:a<=b7)(hB:Base κ a₀ st)(hs:Seg lt (arrOf st) lo (lo+a))
  (h:∀n,a<=n->n<=b7->Seg lt (arrOf st) lo (lo+n)->(n=b7\/lt (aR (arrOf st) (lo+n)) (aR (arrOf st) (lo+n-1))=true)->Q (none,n) st):wpS (model prog w) A E s (upL lo a b7) Q st:=by
 unfold upL;refine aHz (I:=λx c st' =>st' =st/\c=(none,x)/\Seg lt (arrOf st) lo (lo+x)) ?step ?fin ⟨rfl,rfl,hs⟩
 case fin=>
  rintro c st' ⟨rfl,rfl,hs'⟩;rw[show max a b7=b7 by lia]at hs' ⊢;exact h b7 han (aGi _) hs' (.inl rfl)
 case step=>
  rintro x c st' hax hxn ⟨rfl,rfl,hs'⟩;dsimp only;refine aGn (A4 C hB (by lia) (by lia) ?_)
  cases hless:lt (aR (arrOf st') (lo+x)) (aR (arrOf st') (lo+x-1)) with
  | true=>
   simp only[if_true];exact aGq (h x hax (by lia) hs' (.inr hless))
  | false=>
   simp only[Bool.false_eq_true,if_false];refine aGq ⟨rfl,rfl,λp q hp hpq hq=>?_⟩;by_cases hqx:q<lo+x
   ·exact hs' p q hp hpq hqx
   ·obtain rfl:q=lo+x:=by lia
    by_cases hi' :p=lo+x
    ·subst hi';exact O.JG _
    ·exact O.tr _ _ _ (hs' p (lo+x-1) hp (by lia) (by lia)) hless
theorem T3(O:Wk lt)(C:mT prog w A s κ lt a₀){st:SortSt}{lo n b7:Nat}{Q:Option Nat->SortSt->Prop}(hn:lo+b7<=a₀.size)(h1:1<=n)(hnn:n<=b7)(hB:Base κ a₀ st)(hs:TX lt (arrOf st) lo (lo+n))
  (h:∀m st',Base κ a₀ st' ->1<=m->m<=b7->Seg lt (arrOf st') lo (lo+m)->i8 lo st st' ->Q (some m) st'):wpS (model prog w) A E s (CA lo n b7) Q st:=by
 unfold CA;have hsz:lo+n<=(arrOf st).size:=by rw[hB.size];lia
 refine aGn (PQ ?_);have hB' :Base κ a₀ (setArr st (mirror (arrOf st) lo (lo+n) ((lo+n-lo) / 2))):=hB.arr (mirror_perm _ _ _ _);refine aGn (wup O C hn h1 hnn hB' ?_ λm hm1 hm2 hsm _=>aGq (h m _ hB' (by lia) hm2 hsm (i8.mirror (aGi _) hsz)));intro p q hp hpq hq;show lt (aR (mirror (arrOf st) lo (lo+n) ((lo+n-lo) / 2)) q) (aR (mirror (arrOf st) lo (lo+n) ((lo+n-lo) / 2)) p)=false;rw[gW hsz,gW hsz,if_pos (by lia),if_pos (by lia)];exact hs _ _ (by lia) (by lia) (by lia)
def Alike(lt:aKf)(xs:aKh)(i j:Nat):Prop:=∀p q,i<=p->p<j->i<=q->q<j->lt (aR xs p) (aR xs q)=false
theorem oC(O:Wk lt){xs:aKh}{lo i j n:Nat}(hj:j<=xs.size)(he:Alike lt xs i j)(hs:TX lt xs lo n)(hi:lo<=i)(hjn:j<=n):TX lt (mirror xs i j ((j-i) / 2)) lo n:=by
 intro p q hp hpq hq;rw[gW hj,gW hj];by_cases h1:i<=p/\p<j
 ·rw[if_pos h1];by_cases h2:i<=q/\q<j
  ·rw[if_pos h2];exact he _ _ (by lia) (by lia) (by lia) (by lia)
  ·rw[if_neg h2];exact hs _ _ (by lia) (by lia) hq
 ·rw[if_neg h1];by_cases h2:i<=q/\q<j
  ·rw[if_pos h2];exact hs _ _ hp (by lia) (by lia)
  ·rw[if_neg h2];exact hs _ _ hp hpq hq
theorem aAe(O:Wk lt)(C:mT prog w A s κ lt a₀){st:SortSt}{lo n b7:Nat}{Q:Option (Option Nat)×Nat×Nat->SortSt->Prop}(hn:lo+b7<=a₀.size)(h1:1<=n)(hnn:n<=b7)(hB:Base κ a₀ st)(hs:TX lt (arrOf st) lo (lo+n))
  (h:∀m neq st',Base κ a₀ st' ->n<=m->m<=b7->TX lt (arrOf st') lo (lo+m)->neq+1<=m->Alike lt (arrOf st') (lo+m-(neq+1)) (lo+m)->i8 lo st st' ->Q (none,m,neq) st'):wpS (model prog w) A E s (HE lo n b7) Q st:=by
 unfold HE
 have one:∀(xs:aKh) (x:Nat),1<=x->Alike lt xs (lo+x-(0+1)) (lo+x):=λxs x hx p q h1 h2 h3 h4=>by
  obtain rfl:p=q:=by lia
  exact O.JG _
 refine aHz (I:=λx c st' =>∃neq,c=(none,x,neq)/\Base κ a₀ st' /\TX lt (arrOf st') lo (lo+x)/\neq+1<=x/\Alike lt (arrOf st') (lo+x-(neq+1)) (lo+x)/\i8 lo st st') ?step ?fin ⟨0,rfl,hB,hs,by lia,one _ _ h1,i8.refl⟩
 case fin=>
  rintro c st' ⟨neq,rfl,hB',hs',hq,he,hh⟩;rw[show max n b7=b7 by lia]at hs' hq he⊢;exact h b7 neq st' hB' hnn (aGi _) hs' hq he hh
 case step=>
  rintro x c st' hax hxn ⟨neq,rfl,hB',hs',hq,he,hh⟩;dsimp only;have hsz:lo+x<=(arrOf st').size:=by rw[hB'.size];lia
  refine aGn (A4 C hB' (by lia) (by lia) ?_)
  cases hless:lt (aR (arrOf st') (lo+x)) (aR (arrOf st') (lo+x-1)) with
  | true=>
   simp only[if_true]
   have step1:TX lt (arrOf st') lo (lo+x+1):=by
    intro p q hp hpq hq;by_cases hqx:q<lo+x
    ·exact hs' p q hp hpq hqx
    ·obtain rfl:q=lo+x:=by lia
     by_cases hi' :p=lo+x
     ·subst hi';exact O.JG _
     ·exact O.tr _ _ _ (O.qR _ _ hless) (hs' p (lo+x-1) hp (by lia) (by lia))
   by_cases hneq:neq > 0
   ·rw[if_pos hneq];refine aGn (PQ (aGq ⟨0,rfl,hB'.arr (mirror_perm _ _ _ _),?_,by lia,one _ _ (by lia),hh.trans (i8.mirror (by lia) hsz)⟩));exact oC O hsz he step1 (by lia) (by lia)
   ·rw[if_neg hneq];exact aGq ⟨0,rfl,hB',step1,by lia,one _ _ (by lia),hh⟩
  | false=>
   simp only[Bool.false_eq_true,if_false];refine aGn (A4 C hB' (by lia) (by lia) ?_)
   cases hlarger:lt (aR (arrOf st') (lo+x-1)) (aR (arrOf st') (lo+x)) with
   | true=>
    simp only[if_true];exact aGq (h x neq st' hB' hax (by lia) hs' hq he hh)
   | false=>
    simp only[Bool.false_eq_true,if_false];refine aGq ⟨neq+1,rfl,hB',λp q hp hpq hq=>?_,by lia,λp q h1 h2 h3 h4=>?_,hh⟩
    ·by_cases hqx:q<lo+x
     ·exact hs' p q hp hpq hqx
     ·obtain rfl:q=lo+x:=by lia
      by_cases hi' :p=lo+x
      ·subst hi';exact O.JG _
      ·exact O.tr _ _ _ hlarger (hs' p (lo+x-1) hp (by lia) (by lia))
    ·by_cases hpx:p=lo+x
     ·subst hpx;by_cases hqx:q=lo+x
      ·subst hqx;exact O.JG _
      ·exact O.tr _ _ _ (he (lo+x-1) q (by lia) (by lia) (by lia) (by lia)) hless
     ·by_cases hqx:q=lo+x
      ·subst hqx;exact O.tr _ _ _ hlarger (he p (lo+x-1) (by lia) (by lia) (by lia) (by lia))
      ·exact he p q (by lia) (by lia) (by lia) (by lia)
theorem T5(O:Wk lt)(C:mT prog w A s κ lt a₀){st:SortSt}{lo n b7:Nat}{Q:Option Nat->SortSt->Prop}(hn:lo+b7<=a₀.size)(hnn:n+1<=b7)(hB:Base κ a₀ st)(hs:TX lt (arrOf st) lo (lo+(n+1)))
  (h:∀m st',Base κ a₀ st' ->1<=m->m<=b7->Seg lt (arrOf st') lo (lo+m)->i8 lo st st' ->Q (some m) st'):wpS (model prog w) A E s (CP lo n b7) Q st:=by
 unfold CP;refine aGn (wpS_lift (aHg ⟨rfl,?_⟩));refine aGn (aAe O C hn (by lia) hnn hB hs λm neq st' hB' hm1 hm2 hs' hq he hh=>?_);dsimp only;have hsz:lo+m<=(arrOf st').size:=by rw[hB'.size];lia
 by_cases hneq:neq > 0
 ·rw[if_pos hneq];refine aGn (PQ (T3 O C hn (by lia) hm2 (hB'.arr (mirror_perm _ _ _ _)) ?_ λm st2 b1 b2 b3 b4 b5=>h m st2 b1 b2 b3 b4 (hh.trans ((i8.mirror (by lia) hsz).trans b5))));exact oC O hsz he hs' (by lia) (aGi _)
 ·rw[if_neg hneq];exact T3 O C hn (by lia) hm2 hB' hs' λm st2 b1 b2 b3 b4 b5=>h m st2 b1 b2 b3 b4 (hh.trans b5)
theorem U4(O:Wk lt)(C:mT prog w A s κ lt a₀){st:SortSt}{lo b7:Nat}{Q:Option Nat->SortSt->Prop}(hn:lo+b7<=a₀.size)(h1:1<=b7)(hB:Base κ a₀ st)
  (h:∀m st',Base κ a₀ st' ->1<=m->m<=b7->Seg lt (arrOf st') lo (lo+m)->i8 lo st st' ->Q (some m) st'):wpS (model prog w) A E s (countRun' lo b7) Q st:=by
 rw[JY]
 refine aGn (wup O C hn (aGi 1) h1 hB (λp q h1 h2 h3=>by
  obtain rfl:p=q:=by lia
  exact O.JG _) λn hn1 hn2 hsn hor=>?_)
 dsimp only;by_cases hnn:n=b7
 ·rw[if_pos (by simpa using hnn)];exact aGq (h n st hB hn1 hn2 hsn i8.refl)
 ·rw[if_neg (by simpa using hnn)];have hlt:lt (aR (arrOf st) (lo+n)) (aR (arrOf st) (lo+n-1))=true:=hor.resolve_left hnn;by_cases hgt:n > 1
  ·rw[if_pos hgt];refine aGn (A4 C hB (by lia) (by lia) ?_)
   cases hrose:lt (aR (arrOf st) lo) (aR (arrOf st) (lo+n-1)) with
   | true=>
    simp only[if_true];exact aGq (h n st hB hn1 hn2 hsn i8.refl)
   | false=>
    simp only[Bool.false_eq_true,if_false];have hsz:lo+n<=(arrOf st).size:=by rw[hB.size];lia
    have hall:Alike lt (arrOf st) lo (lo+n):=λp q a1 a2 a3 a4=>by
     have e1:=hsn lo p (aGi _) (by lia) (by lia);have e2:=hsn q (lo+n-1) a3 (by lia) (by lia);exact O.tr _ _ _ (O.tr _ _ _ e2 hrose) e1
    have hd:TX lt (arrOf st) lo (lo+(n+1)):=λp q hp hpq hq=>by
     by_cases hqn:q<lo+n
     ·exact hall p q hp (by lia) (by lia) hqn
     ·obtain rfl:q=lo+n:=by lia
      by_cases hi' :p=lo+n
      ·subst hi';exact O.JG _
      ·exact O.tr _ _ _ (O.qR _ _ hlt) (hall p (lo+n-1) hp (by lia) (by lia) (by lia))
    refine aGn (PQ (T5 O C hn (by lia) (hB.arr (mirror_perm _ _ _ _)) ?_ λm st2 b1 b2 b3 b4 b5=>h m st2 b1 b2 b3 b4 ((i8.mirror (aGi _) hsz).trans b5)));exact oC O hsz hall hd (aGi _) (by lia)
  ·rw[if_neg hgt];obtain rfl:n=1:=by lia
   refine T5 O C hn (by lia) hB (λp q hp hpq hq=>?_) h;by_cases hi' :p=q
   ·subst hi';exact O.JG _
   ·obtain rfl:p=lo:=by lia
    obtain rfl:q=p+1:=by lia
    exact O.qR _ _ hlt
end
def dQ:Bool->Keyed->Array Keyed->Nat->Nat->Nat->StateT SortSt Sem (Option Nat):=sortPriv% PySem.Builtin.gallop
def jS(left:Bool)(key:Keyed)(arr:aKh)(base i:Nat):StateT SortSt Sem (Option Bool):=do
 let x<-elem' arr (base+i)
 if left then lt' x key else return (<-lt' key x).map (!·)
theorem FE(left:Bool)(key:Keyed)(arr:aKh)(base n hint:Nat):dQ left key arr base n hint=(do
 let mut lastofs:=0;let mut ofs:=1;let mut lo:=0;let mut hi:=0
 let some right<-jS left key arr base hint | return none
 if right then
  let maxofs:=n-hint
  for _ in [0:n] do
   if ofs>=maxofs then break
   let some more<-jS left key arr base (hint+ofs) | return none
   if !more then break
   lastofs:=ofs;ofs:=2*ofs+1
  lo:=hint+lastofs+1;hi:=hint+min ofs maxofs
 else
  let maxofs:=hint+1
  for _ in [0:n] do
   if ofs>=maxofs then break
   let some found<-jS left key arr base (hint-ofs) | return none
   if found then break
   lastofs:=ofs;ofs:=2*ofs+1
  lo:=hint+1-min ofs maxofs;hi:=hint-lastofs
 for _ in [0:n] do
  if lo>=hi then break
  let m:=lo+(hi-lo) / 2
  let some more<-jS left key arr base m | return none
  if more then lo:=m+1 else hi:=m
 return some hi):=rfl
section
variable {prog:Program}{w:World}{A:Around}{E:aKe}{s:Shared}{a₀:aKh}{κ:SortKind}{lt:aKf}
def jT(lt:aKf)(left:Bool)(key:Keyed)(arr:aKh)(base i:Nat):Bool:=if left then lt (aR arr (base+i)) key else !(lt key (aR arr (base+i)))
theorem sH(C:mT prog w A s κ lt a₀){st:SortSt}{left:Bool}{key:Keyed}{arr:aKh}{base i:Nat}{Q:Option Bool->SortSt->Prop}(hk:kindOf st=κ)(hi:base+i<arr.size)(hx:aR arr (base+i)∈a₀.toList)(hy:key∈a₀.toList)
  (h:Q (some (jT lt left key arr base i)) st):wpS (model prog w) A E s (jS left key arr base i) Q st:=by
 unfold jS;refine aGn (cV hi ?_)
 cases left with
 | true=>
  simp only[if_true];exact wlt C hk hx hy h
 | false=>
  simp only[Bool.false_eq_true,if_false];exact aGn (wlt C hk hy hx (aGq h))
theorem p5(O:Wk lt){left:Bool}{key:Keyed}{arr:aKh}{base n i j:Nat}(hs:Seg lt arr base (base+n))(hij:i<=j)(hj:j<n)(h:jT lt left key arr base j=true):jT lt left key arr base i=true:=by
 have e:=hs (base+i) (base+j) (by lia) (by lia) (by lia);unfold jT at h⊢
 cases left with
 | true=>
  simp only[if_true]at h⊢
  cases hx:lt (aR arr (base+i)) key with
  | true=>rfl
  | false=>rw[O.tr _ _ _ hx e]at h;cases h
 | false=>
  simp only[Bool.false_eq_true,if_false]at h⊢;have h' :lt key (aR arr (base+j))=false:=by simpa using h
  rw[O.tr _ _ _ e h'];rfl
theorem qQ(O:Wk lt){left:Bool}{key:Keyed}{arr:aKh}{base n i j:Nat}(hs:Seg lt arr base (base+n))(hij:i<=j)(hj:j<n)(h:jT lt left key arr base i=false):jT lt left key arr base j=false:=by
 cases hx:jT lt left key arr base j with
 | false=>rfl
 | true=>rw[p5 O hs hij hj hx]at h;cases h
def TH(left:Bool)(key:Keyed)(arr:aKh)(base n lo0 hi0:Nat):StateT SortSt Sem (Option Nat):=do
 let mut lo:=lo0;let mut hi:=hi0
 for _ in [0:n] do
  if lo>=hi then break
  let m:=lo+(hi-lo) / 2
  let some more<-jS left key arr base m | return none
  if more then lo:=m+1 else hi:=m
 return some hi
theorem aAf(O:Wk lt)(C:mT prog w A s κ lt a₀){st:SortSt}{left:Bool}{key:Keyed}{arr:aKh}{base n lo hi:Nat}{Q:Option Nat->SortSt->Prop}(hk:kindOf st=κ)(hb:base+n<=arr.size)(hs:Seg lt arr base (base+n))
  (hm:∀i,i<n->aR arr (base+i)∈a₀.toList) (hy:key∈a₀.toList) (hlh:lo<=hi) (hhn:hi<=n) (hlo:∀i,i<lo->jT lt left key arr base i=true) (hhi:∀i,hi<=i->i<n->jT lt left key arr base i=false)
  (h:∀k,k<=n->(∀i,i<k->jT lt left key arr base i=true)->(∀i,k<=i->i<n->jT lt left key arr base i=false)->Q (some k) st):wpS (model prog w) A E s (TH left key arr base n lo hi) Q st:=by
 unfold TH;dsimp only
 refine aGn (aIc (aHz (I:=λx c st' =>st' =st/\∃l r,c=(none,l,r)/\l<=r/\r<=n/\r-l<=n-x/\(∀i,i<l->jT lt left key arr base i=true)/\(∀i,r<=i->i<n->jT lt left key arr base i=false))
  (Q:=λc st' =>st' =st/\∃r,c=(none,r,r)/\r<=n/\(∀i,i<r->jT lt left key arr base i=true)/\(∀i,r<=i->i<n->jT lt left key arr base i=false)) ?step ?fin ⟨rfl,lo,hi,rfl,hlh,hhn,by lia,hlo,hhi⟩) ?post)
 case post=>
  rintro c st' ⟨rfl,r,rfl,h1,h2,h3⟩;exact aGq (h r h1 h2 h3)
 case fin=>
  rintro c st' ⟨rfl,l,r,rfl,h1,h2,h3,h4,h5⟩;obtain rfl:l=r:=by lia
  exact⟨rfl,l,rfl,h2,h4,h5⟩
 case step=>
  rintro x c st' _ hx ⟨rfl,l,r,rfl,h1,h2,h3,h4,h5⟩;dsimp only;by_cases hge:l>=r
  ·rw[if_pos hge];obtain rfl:l=r:=by lia
   exact aGq ⟨rfl,l,rfl,h2,h4,h5⟩
  ·rw[if_neg hge];refine aGn (sH C hk (by (clear h3 h1 hx hhn hlh;lia)) (hm _ (by (clear h3 h1 hx hhn hlh hb;lia))) hy ?_)
   cases hb' :jT lt left key arr base (l+(r-l) / 2) with
   | true=>
    simp only[if_true];exact aGq ⟨rfl,_,r,rfl,by (clear h3 h2 h1 hx hhn hlh hb;lia),h2,by lia,λi hi=>p5 O hs (by lia) (by lia) hb',h5⟩
   | false=>
    simp only[Bool.false_eq_true,if_false];exact aGq ⟨rfl,l,_,rfl,by lia,by lia,by lia,h4,λi h6 h7=>qQ O hs h6 h7 hb'⟩
theorem mD(O:Wk lt)(C:mT prog w A s κ lt a₀){st:SortSt}{left:Bool}{key:Keyed}{arr:aKh}{base n hint:Nat}{Q:Option Nat->SortSt->Prop}(hk:kindOf st=κ)(hb:base+n<=arr.size)(hh:hint<n)(hs:Seg lt arr base (base+n))
  (hm:∀i,i<n->aR arr (base+i)∈a₀.toList) (hy:key∈a₀.toList)
  (h:∀k,k<=n->(∀i,i<k->jT lt left key arr base i=true)->(∀i,k<=i->i<n->jT lt left key arr base i=false)->Q (some k) st):wpS (model prog w) A E s (dQ left key arr base n hint) Q st:=by
 rw[FE];refine aGn (sH C hk (by lia) (hm hint hh) hy ?_);dsimp only
 cases hr:jT lt left key arr base hint with
 | true=>
  simp only[if_true]
  refine aGn (aIc (aHz (I:=λx c st' =>st' =st/\∃lastofs ofs,c=(none,lastofs,ofs)/\lastofs<ofs/\x+1<=ofs/\hint+lastofs<n/\jT lt left key arr base (hint+lastofs)=true)
   (Q:=λc st' =>st' =st/\∃lastofs ofs,c=(none,lastofs,ofs)/\lastofs<ofs/\hint+lastofs<n/\jT lt left key arr base (hint+lastofs)=true/\(n-hint<=ofs\/(hint+ofs<n/\jT lt left key arr base (hint+ofs)=false))) ?step ?fin ⟨rfl,0,1,rfl,by lia,by lia,by lia,by simpa using hr⟩) ?post)
  case fin=>
   rintro c st' ⟨rfl,l,o,rfl,h1,h2,h3,h4⟩;exact⟨rfl,l,o,rfl,h1,h3,h4,.inl (by lia)⟩
  case step=>
   rintro x c st' _ hx ⟨rfl,l,o,rfl,h1,h2,h3,h4⟩;dsimp only;by_cases hge:o>=n-hint
   ·rw[if_pos hge];exact aGq ⟨rfl,l,o,rfl,h1,h3,h4,.inl hge⟩
   ·rw[if_neg hge];refine aGn (sH C hk (by lia) (hm _ (by lia)) hy ?_)
    cases hb' :jT lt left key arr base (hint+o) with
    | true=>
     simp only[Bool.not_true,Bool.false_eq_true,if_false];exact aGq ⟨rfl,o,_,rfl,by lia,by lia,by lia,hb'⟩
    | false=>
     simp only[Bool.not_false,if_true];exact aGq ⟨rfl,l,o,rfl,h1,h3,h4,.inr ⟨by lia,hb'⟩⟩
  case post=>
   rintro c st' ⟨rfl,l,o,rfl,h1,h3,h4,h5⟩;dsimp only;show wpS _ _ _ _ (TH left key arr base n (hint+l+1) (hint+min o (n-hint))) _ _;refine aAf (lo:=hint+l+1) (hi:=hint+min o (n-hint)) O C hk hb hs hm hy (by (clear h5 hh hb;lia)) (by (clear h5 h3 h1 hb;lia)) (λi hi=>p5 O hs (by lia) h3 h4) (λi h6 h7=>?_) h;rcases h5 with h5 | ⟨h5,h8⟩
   ·lia
   ·exact qQ O hs (by lia) h7 h8
 | false=>
  simp only[Bool.false_eq_true,if_false]
  refine aGn (aIc (aHz (I:=λx c st' =>st' =st/\∃lastofs ofs,c=(none,lastofs,ofs)/\lastofs<ofs/\x+1<=ofs/\lastofs<=hint/\jT lt left key arr base (hint-lastofs)=false)
   (Q:=λc st' =>st' =st/\∃lastofs ofs,c=(none,lastofs,ofs)/\lastofs<ofs/\lastofs<=hint/\jT lt left key arr base (hint-lastofs)=false/\(hint+1<=ofs\/(ofs<=hint/\jT lt left key arr base (hint-ofs)=true))) ?step ?fin ⟨rfl,0,1,rfl,by lia,by lia,by lia,by simpa using hr⟩) ?post)
  case fin=>
   rintro c st' ⟨rfl,l,o,rfl,h1,h2,h3,h4⟩;exact⟨rfl,l,o,rfl,h1,h3,h4,.inl (by lia)⟩
  case step=>
   rintro x c st' _ hx ⟨rfl,l,o,rfl,h1,h2,h3,h4⟩;dsimp only;by_cases hge:o>=hint+1
   ·rw[if_pos hge];exact aGq ⟨rfl,l,o,rfl,h1,h3,h4,.inl hge⟩
   ·rw[if_neg hge];refine aGn (sH C hk (by lia) (hm _ (by lia)) hy ?_)
    cases hb' :jT lt left key arr base (hint-o) with
    | true=>
     simp only[if_true];exact aGq ⟨rfl,l,o,rfl,h1,h3,h4,.inr ⟨by lia,hb'⟩⟩
    | false=>
     simp only[Bool.false_eq_true,if_false];exact aGq ⟨rfl,o,_,rfl,by lia,by lia,by lia,hb'⟩
  case post=>
   rintro c st' ⟨rfl,l,o,rfl,h1,h3,h4,h5⟩;dsimp only;show wpS _ _ _ _ (TH left key arr base n (hint+1-min o (hint+1)) (hint-l)) _ _;refine aAf (lo:=hint+1-min o (hint+1)) (hi:=hint-l) O C hk hb hs hm hy (by (clear h5 h3 hh hb;lia)) (by lia) (λi hi=>?_) (λi h6 h7=>qQ O hs h6 h7 h4) h;rcases h5 with h5 | ⟨h5,h8⟩
   ·lia
   ·exact p5 O hs (by lia) (by lia) h8
end
structure Mg(lt:aKf)(all o p q:List Keyed):Prop where
 perm:(o++(p++q)).Perm all
 so:o.Pairwise λx y=>lt y x=false
 sp:p.Pairwise λx y=>lt y x=false
 sq:q.Pairwise λx y=>lt y x=false
 low:∀x∈o,∀y∈p++q,lt y x=false
theorem Mg.left{lt:aKf}{all o u p q:List Keyed}(M:Mg lt all o (u++p) q)(h:∀x∈u,∀y∈q,lt y x=false):Mg lt all (o++u) p q:=by
 have sp:=aGr.mp M.sp;refine⟨?_,aGr.mpr ⟨M.so,sp.1,λx hx y hy=>M.low x hx y (by simp[hy])⟩,sp.2.1,M.sq,λx hx y hy=>?_⟩
 ·have:=M.perm;simpa[List.append_assoc] using this
 ·rcases aGh.mp hx with hx | hx
  ·exact M.low x hx y (by rcases aGh.mp hy with z | z <;> simp[z])
  ·rcases aGh.mp hy with z | z
   ·exact sp.2.2 x hx y z
   ·exact h x hx y z
theorem Mg.right{lt:aKf}{all o u p q:List Keyed}(M:Mg lt all o p (u++q))(h:∀x∈u,∀y∈p,lt y x=false):Mg lt all (o++u) p q:=by
 have sq:=aGr.mp M.sq;refine⟨?_,aGr.mpr ⟨M.so,sq.1,λx hx y hy=>M.low x hx y (by simp[hy])⟩,M.sp,sq.2.1,λx hx y hy=>?_⟩
 ·refine List.Perm.trans ?_ M.perm;rw[List.append_assoc];refine aIq o ?_;rw[<-List.append_assoc,<-List.append_assoc];exact aIn q aIr
 ·rcases aGh.mp hx with hx | hx
  ·exact M.low x hx y (by rcases aGh.mp hy with z | z <;> simp[z])
  ·rcases aGh.mp hy with z | z
   ·exact h x hx y z
   ·exact sq.2.2 x hx y z
def Good(lt:aKf)(all r:List Keyed):Prop:=r.Perm all/\r.Pairwise λx y=>lt y x=false
theorem Mg.fin{lt:aKf}{all o p q:List Keyed}(M:Mg lt all o p q)(h:p=[]\/q=[]):Good lt all (o++(p++q)):=by
 refine⟨M.perm,aGr.mpr ⟨M.so,?_,M.low⟩⟩;rcases h with rfl | rfl
 ·simpa using M.sq
 ·simpa using M.sp
theorem Mg.aFv{lt:aKf}{all o q:List Keyed}{x:Keyed}(M:Mg lt all o [x] q)(h:∀y∈q,lt x y=false):Good lt all (o++(q++[x])):=by
 refine⟨(aIq o aIr).trans M.perm,aGr.mpr ⟨M.so,aGr.mpr ⟨M.sq,by simp,λa ha b hb=>?_⟩,λa ha b hb=>M.low a ha b ?_⟩⟩
 ·have:b=x:=by simpa using hb
  rw[this];exact h a ha
 ·rcases aGh.mp hb with z | z <;> simp[z] <;> simp_all
def pK:Array Keyed->Array Keyed->StateT SortSt Sem (aKh):=sortPriv% PySem.Builtin.mergeLo
def e7(g:Nat):StateT SortSt Sem Unit:=modify λs=>SortSt.mk' (kindOf s) (arrOf s) (pendingOf s) g (failedOf s)
def d5(a b out:aKh)(ia ib:Nat):aKh:=out++a.extract ia a.size++b.extract ib b.size
def gZ(a b out:aKh)(ia ib:Nat):aKh:=out++b.extract ib b.size++a.extract ia a.size
abbrev PH:=Option (aKh)×aKh×Nat×Nat×Nat×Nat×Nat
abbrev KC:=Option (aKh)×aKh×Nat×Nat×Nat×Nat
abbrev O5:=Option (aKh)×aKh×Nat×Nat×Nat
def lo4(a b:aKh)(mg ac bc:Nat)(out:aKh)(ia ib:Nat):StateT SortSt Sem (ForInStep PH):=do
 let y<-elem' a ia
 if (ia+1+1==a.size)=true then pure (.done (some (gZ a b (out.push y) (ia+1) ib),out.push y,ia+1,ib,mg,ac,bc))
 else if (decide (ac<7) && decide (bc<7))=true then pure (.done (none,out.push y,ia+1,ib,mg,ac,bc)) else pure (.yield (none,out.push y,ia+1,ib,mg,ac,bc))
def lo3(a b:aKh)(mg ac bc:Nat)(out:aKh)(ia ib:Nat):StateT SortSt Sem (ForInStep PH):=do
 let x<-elem' a ia
 let r<-dQ true x b ib (b.size-ib) 0
 match r with
 | some k=>if k > 0 then (if (ib+k==b.size)=true then pure (.done (some (d5 a b (out++b.extract ib (ib+k)) ia (ib+k)),out++b.extract ib (ib+k),ia,ib+k,mg,ac,k)) else lo4 a b mg ac k (out++b.extract ib (ib+k)) ia (ib+k)) else lo4 a b mg ac k out ia ib
 | _=>pure (.done (some (d5 a b out ia ib),out,ia,ib,mg,ac,bc))
def lo2(a b:aKh)(mg ac bc:Nat)(out:aKh)(ia ib:Nat):StateT SortSt Sem (ForInStep PH):=do
 let y<-elem' b ib
 if (ib+1==b.size)=true then pure (.done (some (d5 a b (out.push y) ia (ib+1)),out.push y,ia,ib+1,mg,ac,bc)) else lo3 a b mg ac bc (out.push y) ia (ib+1)
def lo1(a b:aKh)(mg ac bc:Nat)(out:aKh)(ia ib:Nat):StateT SortSt Sem (ForInStep PH):=do
 e7 mg
 let x<-elem' b ib
 let r<-dQ false x a ia (a.size-ia) 0
 match r with
 | some k=>if k > 0 then (if (ia+k+1==a.size)=true then pure (.done (some (gZ a b (out++a.extract ia (ia+k)) (ia+k) ib),out++a.extract ia (ia+k),ia+k,ib,mg,k,bc)) else
   if (ia+k==a.size)=true then pure (.done (some (d5 a b (out++a.extract ia (ia+k)) (ia+k) ib),out++a.extract ia (ia+k),ia+k,ib,mg,k,bc)) else lo2 a b mg k bc (out++a.extract ia (ia+k)) (ia+k) ib) else lo2 a b mg k bc out ia ib
 | _=>pure (.done (some (d5 a b out ia ib),out,ia,ib,mg,ac,bc))
def loB(a b:aKh)(mg:Nat)(c:KC):StateT SortSt Sem (ForInStep KC):=do
 let y<-elem' b c.snd.snd.snd.fst
 if (c.snd.snd.snd.fst+1==b.size)=true then pure (.done (some (d5 a b (c.snd.fst.push y) c.snd.snd.fst (c.snd.snd.snd.fst+1)),c.snd.fst.push y,c.snd.snd.fst,c.snd.snd.snd.fst+1,0,c.snd.snd.snd.snd.snd+1))
 else if c.snd.snd.snd.snd.snd+1>=mg then pure (.done (none,c.snd.fst.push y,c.snd.snd.fst,c.snd.snd.snd.fst+1,0,c.snd.snd.snd.snd.snd+1))
 else pure (.yield (none,c.snd.fst.push y,c.snd.snd.fst,c.snd.snd.snd.fst+1,0,c.snd.snd.snd.snd.snd+1))
def loA(a b:aKh)(mg:Nat)(c:KC):StateT SortSt Sem (ForInStep KC):=do
 let x<-elem' a c.snd.snd.fst
 if (c.snd.snd.fst+1+1==a.size)=true then pure (.done (some (gZ a b (c.snd.fst.push x) (c.snd.snd.fst+1) c.snd.snd.snd.fst),c.snd.fst.push x,c.snd.snd.fst+1,c.snd.snd.snd.fst,c.snd.snd.snd.snd.fst+1,0))
 else if c.snd.snd.snd.snd.fst+1>=mg then pure (.done (none,c.snd.fst.push x,c.snd.snd.fst+1,c.snd.snd.snd.fst,c.snd.snd.snd.snd.fst+1,0))
 else pure (.yield (none,c.snd.fst.push x,c.snd.snd.fst+1,c.snd.snd.snd.fst,c.snd.snd.snd.snd.fst+1,0))
def lo0(a b:aKh)(mg:Nat)(c:KC):StateT SortSt Sem (ForInStep KC):=do
 let y<-elem' b c.snd.snd.snd.fst
 let x<-elem' a c.snd.snd.fst
 let r<-lt' y x
 match r with
 | some bWins=>if bWins=true then loB a b mg c else loA a b mg c
 | _=>pure (.done (some (d5 a b c.snd.fst c.snd.snd.fst c.snd.snd.snd.fst),c.snd.fst,c.snd.snd.fst,c.snd.snd.snd.fst,c.snd.snd.snd.snd.fst,c.snd.snd.snd.snd.snd))
def EY(a b:aKh)(c:O5):StateT SortSt Sem (ForInStep O5):=do
 let d<-forIn [:a.size+b.size] ((none,c.snd.fst,c.snd.snd.fst,c.snd.snd.snd.fst,0,0):KC) λ_ d=>lo0 a b c.snd.snd.snd.snd d
 match d.fst with
 | some r=>pure (.done (some r,d.snd.fst,d.snd.snd.fst,d.snd.snd.snd.fst,c.snd.snd.snd.snd))
 | none=>do
  liftM (rule "list.sort.gallop")
  let e<-forIn [:a.size+b.size] ((none,d.snd.fst,d.snd.snd.fst,d.snd.snd.snd.fst,c.snd.snd.snd.snd+1,d.snd.snd.snd.snd.fst,d.snd.snd.snd.snd.snd):PH) λ_ e=>
   if e.snd.snd.snd.snd.fst > 1 then lo1 a b (e.snd.snd.snd.snd.fst-1) e.snd.snd.snd.snd.snd.fst e.snd.snd.snd.snd.snd.snd e.snd.fst e.snd.snd.fst e.snd.snd.snd.fst else lo1 a b e.snd.snd.snd.snd.fst e.snd.snd.snd.snd.snd.fst e.snd.snd.snd.snd.snd.snd e.snd.fst e.snd.snd.fst e.snd.snd.snd.fst
  match e.fst with
  | some r=>pure (.done (some r,e.snd.fst,e.snd.snd.fst,e.snd.snd.snd.fst,e.snd.snd.snd.snd.fst))
  | none=>do
   e7 (e.snd.snd.snd.snd.fst+1)
   pure (.yield (none,e.snd.fst,e.snd.snd.fst,e.snd.snd.snd.fst,e.snd.snd.snd.snd.fst+1))
theorem B0(a b:aKh):pK a b=(do
 rule "list.sort.merge-lo"
 let total:=a.size+b.size;let mut out:aKh:= #[<-elem' b 0];let mut ia:=0;let mut ib:=1
 if ib==b.size then return d5 a b out ia ib
 if ia+1==a.size then return gZ a b out ia ib
 let mut minGallop:=gallopOf (<-get)
 for _ in [0:total] do
  let mut acount:=0;let mut bcount:=0
  for _ in [0:total] do
   let some bWins<-lt' (<-elem' b ib) (<-elem' a ia) | return d5 a b out ia ib
   if bWins then
    out:=out.push (<-elem' b ib);ib:=ib+1;bcount:=bcount+1;acount:=0
    if ib==b.size then return d5 a b out ia ib
    if bcount>=minGallop then break
   else
    out:=out.push (<-elem' a ia);ia:=ia+1;acount:=acount+1;bcount:=0
    if ia+1==a.size then return gZ a b out ia ib
    if acount>=minGallop then break
  rule "list.sort.gallop"
  minGallop:=minGallop+1
  for _ in [0:total] do
   if minGallop > 1 then minGallop:=minGallop-1
   e7 minGallop
   let some k<-dQ false (<-elem' b ib) a ia (a.size-ia) 0 | return d5 a b out ia ib
   acount:=k
   if k > 0 then
    out:=out++a.extract ia (ia+k);ia:=ia+k
    if ia+1==a.size then return gZ a b out ia ib
    if ia==a.size then return d5 a b out ia ib
   out:=out.push (<-elem' b ib);ib:=ib+1
   if ib==b.size then return d5 a b out ia ib
   let some k<-dQ true (<-elem' a ia) b ib (b.size-ib) 0 | return d5 a b out ia ib
   bcount:=k
   if k > 0 then
    out:=out++b.extract ib (ib+k);ib:=ib+k
    if ib==b.size then return d5 a b out ia ib
   out:=out.push (<-elem' a ia);ia:=ia+1
   if ia+1==a.size then return gZ a b out ia ib
   if acount<7 && bcount<7 then break
  minGallop:=minGallop+1
  e7 minGallop
 unsupported "internal:list.sort.merge-bound"):=rfl
theorem BZ(a b:aKh):pK a b=(do
 liftM (rule "list.sort.merge-lo")
 let y<-elem' b 0
 if (1==b.size)=true then pure (d5 a b #[y] 0 1)
 else if (0+1==a.size)=true then pure (gZ a b #[y] 0 1)
 else do
  let g<-get
  let c<-forIn [:a.size+b.size] ((none,#[y],0,1,gallopOf g):O5) λ_ c=>EY a b c
  match c.fst with
  | some r=>pure r
  | none=>unsupported "internal:list.sort.merge-bound"):=by
 rw[B0];refine aHo λu=>?_;refine aHo λy=>?_;refine aJ9 rfl (λ_=>rfl) (λ_=>?_);refine aJ9 rfl (λ_=>rfl) (λ_=>?_);refine aHo λg=>?_;have key:∀(f f' :Nat->O5->StateT SortSt Sem (ForInStep O5)) (k k' :O5->StateT SortSt Sem (aKh)) (i:O5),f=f' ->k=k' ->(forIn [:a.size+b.size] i f >>=k)=(forIn [:a.size+b.size] i f' >>=k'):=λf f' k k' i h1 h2=>by rw[h1,h2]
 refine key _ _ _ _ _ (funext λx=>funext λc=>?_) ?_
 ·have key2:∀(f f' :Nat->KC->StateT SortSt Sem (ForInStep KC)) (k k' :KC->StateT SortSt Sem (ForInStep O5)) (i:KC),f=f' ->k=k' ->(forIn [:a.size+b.size] i f >>=k)=(forIn [:a.size+b.size] i f' >>=k'):=λf f' k k' i h1 h2=>by rw[h1,h2]
  refine key2 _ _ _ _ _ (funext λx=>funext λd=>?_) (funext λd=>?_)
  ·rfl
  ·obtain⟨d0,d1⟩:=d
   cases d0 with
   | some r=>rfl
   | none=>
    refine aHo λv=>?_;have key3:∀(f f' :Nat->PH->StateT SortSt Sem (ForInStep PH)) (k k' :PH->StateT SortSt Sem (ForInStep O5)) (i:PH),f=f' ->k=k' ->(forIn [:a.size+b.size] i f >>=k)=(forIn [:a.size+b.size] i f' >>=k'):=λf f' k k' i h1 h2=>by rw[h1,h2]
    refine key3 _ _ _ _ _ (funext λx=>funext λe=>?_) (funext λe=>?_)
    ·refine aJ9 rfl (λ_=>?_) (λ_=>?_)
     ·rfl
     ·rfl
    ·obtain⟨e0,e1⟩:=e;cases e0 <;> rfl
 ·funext c;obtain⟨c0,c1⟩:=c;cases c0 <;> rfl
def bT(s t:SortSt):Prop:=kindOf t=kindOf s/\arrOf t=arrOf s/\pendingOf t=pendingOf s/\failedOf t=failedOf s
theorem bT.refl(s:SortSt):bT s s:=⟨rfl,rfl,rfl,rfl⟩
theorem bT.trans{a b c:SortSt}(h:bT a b)(h' :bT b c):bT a c:=⟨h'.1.trans h.1,h'.2.1.trans h.2.1,h'.2.2.1.trans h.2.2.1,h'.2.2.2.trans h.2.2.2⟩
theorem pY{a:aKh}{i:Nat}(h:i<a.size):a.toList.drop i=aR a i::a.toList.drop (i+1):=by
 have hl:i<a.toList.length:=by simpa using h
 rw[List.drop_eq_getElem_cons hl]
 have e:aR a i=a.toList[i]:=by
  have:=gG h;rw[getElem?_pos a i h]at this;have:=aGv this;rw[<-this];simp
 rw[e]
theorem dP{a:aKh}{i:Nat}(h:i<a.size):aR a i∈a.toList:=by
 have:=pY h;exact List.mem_of_mem_drop (i:=i) (by rw[this];exact aGf)
theorem dC{a:aKh}{i:Nat}{x:Keyed}(h:x∈a.toList.drop i):∃j,i<=j/\j<a.size/\x=aR a j:=by
 obtain⟨n,hn,e⟩:=aJx h;simp only[List.length_drop,Array.length_toList]at hn;refine⟨i+n,by lia,by lia,?_⟩
 have e2:aR a (i+n)=a.toList[i+n]'(by simp;lia):=by
  have:=gG (xs:=a) (i:=i+n) (by lia);rw[getElem?_pos a (i+n) (by lia)]at this;have:=aGv this;rw[<-this];simp
 rw[e2,<-e];simp
theorem CU{a:aKh}{i k:Nat}:(a.extract i (i+k)).toList=(a.toList.drop i).take k:=by
 rw[Array.toList_extract,List.extract_eq_take_drop];congr 1;lia
theorem jL{a:aKh}{i k:Nat}{x:Keyed}(h:x∈(a.toList.drop i).take k):∃j,j<k/\i+j<a.size/\x=aR a (i+j):=by
 obtain⟨n,hn,e⟩:=aJx h;simp only[List.length_take,List.length_drop,Array.length_toList]at hn;refine⟨n,by lia,by lia,?_⟩
 have e2:aR a (i+n)=a.toList[i+n]'(by simp;lia):=by
  have:=gG (xs:=a) (i:=i+n) (by lia);rw[getElem?_pos a (i+n) (by lia)]at this;have:=aGv this;rw[<-this];simp
 rw[e2,<-e];simp
theorem aY{lt:aKf}(O:Wk lt){a:aKh}(h:a.toList.Pairwise λx y=>lt y x=false):∀p q,p<=q->q<a.size->lt (aR a q) (aR a p)=false:=by
 intro p q hpq hq;by_cases e:p=q
 ·subst e;exact O.JG _
 ·rw[List.pairwise_iff_getElem]at h;have:=h p q (by simp;lia) (by simpa using hq) (by lia)
  have e2:∀i (hi:i<a.size),aR a i=a.toList[i]'(by simpa using hi):=λi hi=>by
   have:=gG (xs:=a) (i:=i) hi;rw[getElem?_pos a i hi]at this;have:=aGv this;rw[<-this];simp
  rw[e2 p (by lia),e2 q hq];exact this
theorem u6(a b out:aKh)(ia ib:Nat):(d5 a b out ia ib).toList=out.toList++(a.toList.drop ia++b.toList.drop ib):=by
 unfold d5;simp only[Array.toList_append,Array.toList_extract,List.extract_eq_take_drop,List.append_assoc];rw[List.take_of_length_le (by simp),List.take_of_length_le (by simp)]
theorem CY(a b out:aKh)(ia ib:Nat):(gZ a b out ia ib).toList=out.toList++(b.toList.drop ib++a.toList.drop ia):=by
 unfold gZ;simp only[Array.toList_append,Array.toList_extract,List.extract_eq_take_drop,List.append_assoc];rw[List.take_of_length_le (by simp),List.take_of_length_le (by simp)]
section
variable {prog:Program}{w:World}{A:Around}{E:aKe}{s:Shared}{a₀ a b:aKh}{κ:SortKind}{lt:aKf}
structure DP(lt:aKf)(a₀ a b:aKh):Prop where
 ma:∀x∈a.toList,x∈a₀.toList
 mb:∀x∈b.toList,x∈a₀.toList
 sa:a.toList.Pairwise λx y=>lt y x=false
 sb:b.toList.Pairwise λx y=>lt y x=false
 pa:1<=a.size
 pb:1<=b.size
 first:∀x∈a.toList,lt x (aR b 0)=false
 last:∀y∈b.toList,lt (aR a (a.size-1)) y=false
abbrev p9(lt:aKf)(a b out:aKh)(ia ib:Nat):Prop:=Mg lt (a.toList++b.toList) out.toList (a.toList.drop ia) (b.toList.drop ib)
theorem p9.xC(O:Wk lt){a b out:aKh}{ia ib:Nat}(M:p9 lt a b out ia ib)(hb:ib<b.size)(h:∀z∈a.toList.drop ia,lt z (aR b ib)=false):p9 lt a b (out.push (aR b ib)) ia (ib+1):=by
 unfold p9 at*;rw[pY hb]at M;have:=Mg.right (u:=[aR b ib]) M (by simpa using h);simpa using this
theorem p9.xD(O:Wk lt){a b out:aKh}{ia ib:Nat}(M:p9 lt a b out ia ib)(ha:ia<a.size)(h:∀z∈b.toList.drop ib,lt z (aR a ia)=false):p9 lt a b (out.push (aR a ia)) (ia+1) ib:=by
 unfold p9 at*;rw[pY ha]at M;have:=Mg.left (u:=[aR a ia]) M (by simpa using h);simpa using this
theorem p9.MY{a b out:aKh}{ia ib k:Nat}(M:p9 lt a b out ia ib)(h:∀x∈(a.toList.drop ia).take k,∀y∈b.toList.drop ib,lt y x=false):p9 lt a b (out++a.extract ia (ia+k)) (ia+k) ib:=by
 unfold p9 at*;rw[<-List.take_append_drop k (a.toList.drop ia),List.drop_drop]at M;have:=Mg.left M h;rw[Array.toList_append,CU];exact this
theorem p9.MX{a b out:aKh}{ia ib k:Nat}(M:p9 lt a b out ia ib)(h:∀x∈(b.toList.drop ib).take k,∀y∈a.toList.drop ia,lt y x=false):p9 lt a b (out++b.extract ib (ib+k)) ia (ib+k):=by
 unfold p9 at*;rw[<-List.take_append_drop k (b.toList.drop ib),List.drop_drop]at M;have:=Mg.right M h;rw[Array.toList_append,CU];exact this
theorem p9.AB{a b out:aKh}{ia ib:Nat}(M:p9 lt a b out ia ib)(h:ib=b.size):Good lt (a.toList++b.toList) (d5 a b out ia ib).toList:=by
 rw[u6];exact Mg.fin M (.inr (by rw[h];simp))
theorem p9.FJ{a b out:aKh}{ia ib:Nat}(M:p9 lt a b out ia ib)(h:ia=a.size):Good lt (a.toList++b.toList) (d5 a b out ia ib).toList:=by
 rw[u6];exact Mg.fin M (.inl (by rw[h];simp))
theorem p9.G5(T:DP lt a₀ a b){out:aKh}{ia ib:Nat}(M:p9 lt a b out ia ib)(h:ia+1=a.size):Good lt (a.toList++b.toList) (gZ a b out ia ib).toList:=by
 rw[CY];unfold p9 at M
 have e:a.toList.drop ia=[aR a ia]:=by
  rw[pY (by lia),List.drop_of_length_le (by simp;lia)]
 rw[e]at M⊢;refine Mg.aFv M λy hy=>?_;have:=T.last y (List.mem_of_mem_drop hy)
 rwa [show a.size-1=ia by lia]at this
structure J(lt:aKf)(a b out:aKh)(ia ib:Nat):Prop where
 m:p9 lt a b out ia ib
 ha:ia+1<a.size
 hb:ib<b.size
 n:out.size=ia+ib
def After(lt:aKf)(a b:aKh)(n:Nat){γ:Type}(c:Option (aKh)×aKh×Nat×Nat×γ):Prop:=
 (∃r,c.1=some r/\Good lt (a.toList++b.toList) r.toList)\/(c.1=none/\J lt a b c.2.1 c.2.2.1 c.2.2.2.1/\n<=c.2.1.size)
def nS(lt:aKf)(a b:aKh)(n:Nat){γ:Type}(st:SortSt)(r:ForInStep (Option (aKh)×aKh×Nat×Nat×γ))(st' :SortSt):Prop:=
 bT st st' /\match r with | .done c=>After lt a b n c | .yield c=>c.1=none/\After lt a b n c
theorem aA8(O:Wk lt)(T:DP lt a₀ a b){st:SortSt}{mg ac bc:Nat}{out:aKh}{ia ib n:Nat}(M:p9 lt a b out ia ib)(ha:ia+1<a.size)(hb:ib<b.size)(hn:out.size=ia+ib)(hn2:n<=out.size+1)(h:∀z∈b.toList.drop ib,lt z (aR a ia)=false):
  wpS (model prog w) A E s (lo4 a b mg ac bc out ia ib) (nS lt a b n st) st:=by
 unfold lo4;refine aGn (cV (by lia) ?_);have M2:=M.xD O (by lia) h;by_cases c:ia+1+1=a.size
 ·rw[if_pos (by simp[c])];exact aGq ⟨bT.refl _,.inl ⟨_,rfl,M2.G5 T c⟩⟩
 ·rw[if_neg (by simp[c])]
  have j:J lt a b (out.push (aR a ia)) (ia+1) ib:=⟨M2,by lia,hb,by simp;lia⟩
  split
  ·exact aGq ⟨bT.refl _,.inr ⟨rfl,j,by simpa using hn2⟩⟩
  ·exact aGq ⟨bT.refl _,rfl,.inr ⟨rfl,j,by simpa using hn2⟩⟩
theorem aDu(O:Wk lt)(C:mT prog w A s κ lt a₀)(T:DP lt a₀ a b){st:SortSt}{mg ac bc:Nat}{out:aKh}{ia ib n:Nat}(hk:kindOf st=κ)(M:p9 lt a b out ia ib)(ha:ia+1<a.size)(hb:ib<b.size)(hn:out.size=ia+ib)(hn2:n<=out.size+1):
  wpS (model prog w) A E s (lo3 a b mg ac bc out ia ib) (nS lt a b n st) st:=by
 unfold lo3;have sga:=aY O T.sa;have sgb:=aY O T.sb;refine aGn (cV (by lia) ?_);refine aGn (mD O C hk (by lia) (by lia) (λp q h1 h2 h3=>sgb p q h2 (by lia)) (λi hi=>T.mb _ (dP (by lia))) (T.ma _ (dP (by lia))) λk hk1 h1 h2=>?_)
 have key:∀z∈a.toList.drop ia,lt z (aR a ia)=false:=λz hz=>by
  obtain⟨j,hj1,hj2,rfl⟩:=dC hz;exact sga _ _ hj1 hj2
 have b1:∀x∈(b.toList.drop ib).take k,∀y∈a.toList.drop ia,lt y x=false:=λx hx y hy=>by
  obtain⟨j,hj1,hj2,rfl⟩:=jL hx;have e:=h1 j hj1;simp only[jT,if_true]at e;exact O.tr _ _ _ (O.qR _ _ e) (key y hy)
 have b2:∀z∈b.toList.drop (ib+k),lt z (aR a ia)=false:=λz hz=>by
  obtain⟨j,hj1,hj2,rfl⟩:=dC hz;have e:=h2 (j-ib) (by lia) (by lia);simp only[jT,if_true]at e
  rwa [show ib+(j-ib)=j by lia]at e
 dsimp only;by_cases c:k > 0
 ·rw[if_pos c];have M2:=M.MX b1;by_cases c2:ib+k=b.size
  ·rw[if_pos (by simp[c2])];exact aGq ⟨bT.refl _,.inl ⟨_,rfl,M2.AB c2⟩⟩
  ·rw[if_neg (by simp[c2])];have sz:(b.extract ib (ib+k)).size=k:=by rw[Array.size_extract];lia
   exact aA8 O T M2 ha (by lia) (by rw[Array.size_append,sz];lia) (by rw[Array.size_append,sz];lia) b2
 ·obtain rfl:k=0:=by lia
  rw[if_neg (by lia)];exact aA8 O T M ha hb hn hn2 b2
theorem aA9(O:Wk lt)(C:mT prog w A s κ lt a₀)(T:DP lt a₀ a b){st:SortSt}{mg ac bc:Nat}{out:aKh}{ia ib n:Nat}(hk:kindOf st=κ)(M:p9 lt a b out ia ib)(ha:ia+1<a.size)(hb:ib<b.size)(hn:out.size=ia+ib)(hn2:n<=out.size+1)(h:∀z∈a.toList.drop ia,lt z (aR b ib)=false):
  wpS (model prog w) A E s (lo2 a b mg ac bc out ia ib) (nS lt a b n st) st:=by
 unfold lo2;refine aGn (cV (by lia) ?_);have M2:=M.xC O hb h;by_cases c:ib+1=b.size
 ·rw[if_pos (by simp[c])];exact aGq ⟨bT.refl _,.inl ⟨_,rfl,M2.AB c⟩⟩
 ·rw[if_neg (by simp[c])];exact aDu O C T hk M2 ha (by lia) (by simp;lia) (by simp;lia)
theorem sG{st:SortSt}{g:Nat}{Q:Unit->SortSt->Prop}(h:∀st',bT st st' ->Q () st'):wpS (model prog w) A E s (e7 g) Q st:=by
 unfold e7;exact aJn (h _ ⟨rfl,rfl,rfl,rfl⟩)
theorem D1{n:Nat}{γ:Type}{st st1 st2:SortSt}{r:ForInStep (Option (aKh)×aKh×Nat×Nat×γ)}{a b:aKh}(h:bT st st1)(q:nS lt a b n st1 r st2):nS lt a b n st r st2:=⟨h.trans q.1,q.2⟩
theorem aAa(O:Wk lt)(C:mT prog w A s κ lt a₀)(T:DP lt a₀ a b){st:SortSt}{mg ac bc:Nat}{out:aKh}{ia ib n:Nat}(hk:kindOf st=κ)(j:J lt a b out ia ib)(hn2:n<=out.size+1):
  wpS (model prog w) A E s (lo1 a b mg ac bc out ia ib) (nS lt a b n st) st:=by
 unfold lo1;obtain⟨M,ha,hb,hn⟩:=j;have sga:=aY O T.sa;have sgb:=aY O T.sb;refine aGn (sG λst1 same=>?_);refine aIc ?_ λr st2 q=>D1 same q;have hk1:kindOf st1=κ:=same.1.trans hk;refine aGn (cV (by lia) ?_);refine aGn (mD O C hk1 (by lia) (by lia) (λp q h1 h2 h3=>sga p q h2 (by lia)) (λi hi=>T.ma _ (dP (by lia))) (T.mb _ (dP (by lia))) λk hk2 h1 h2=>?_)
 have key:∀z∈b.toList.drop ib,lt z (aR b ib)=false:=λz hz=>by
  obtain⟨j,hj1,hj2,rfl⟩:=dC hz;exact sgb _ _ hj1 hj2
 have b1:∀x∈(a.toList.drop ia).take k,∀y∈b.toList.drop ib,lt y x=false:=λx hx y hy=>by
  obtain⟨j,hj1,hj2,rfl⟩:=jL hx;have e:=h1 j hj1;simp only[jT,Bool.false_eq_true,if_false,Bool.not_eq_true']at e;exact O.tr _ _ _ e (key y hy)
 have b2:∀z∈a.toList.drop (ia+k),lt z (aR b ib)=false:=λz hz=>by
  obtain⟨j,hj1,hj2,rfl⟩:=dC hz;have e:=h2 (j-ia) (by lia) (by lia);simp only[jT,Bool.false_eq_true,if_false,Bool.not_eq_false']at e;rw[show ia+(j-ia)=j by lia]at e;exact O.qR _ _ e
 dsimp only;by_cases c:k > 0
 ·rw[if_pos c];have M2:=M.MY b1;by_cases c1:ia+k+1=a.size
  ·rw[if_pos (by simp[c1])];exact aGq ⟨bT.refl _,.inl ⟨_,rfl,M2.G5 T c1⟩⟩
  ·rw[if_neg (by simp[c1])];by_cases c2:ia+k=a.size
   ·rw[if_pos (by simp[c2])];exact aGq ⟨bT.refl _,.inl ⟨_,rfl,M2.FJ c2⟩⟩
   ·rw[if_neg (by simp[c2])];have sz:(a.extract ia (ia+k)).size=k:=by rw[Array.size_extract];lia
    exact aA9 O C T hk1 M2 (by lia) hb (by rw[Array.size_append,sz];lia) (by rw[Array.size_append,sz];lia) b2
 ·obtain rfl:k=0:=by lia
  rw[if_neg (by lia)];exact aA9 O C T hk1 M ha hb hn hn2 b2
theorem aDv(O:Wk lt)(C:mT prog w A s κ lt a₀)(T:DP lt a₀ a b){st:SortSt}{mg:Nat}{c:KC}{n:Nat}(hk:kindOf st=κ)(j:J lt a b c.2.1 c.2.2.1 c.2.2.2.1)(hn2:n<=c.2.1.size+1):
  wpS (model prog w) A E s (lo0 a b mg c) (nS lt a b n st) st:=by
 obtain⟨M,ha,hb,hn⟩:=j;have sga:=aY O T.sa;have sgb:=aY O T.sb;unfold lo0;refine aGn (cV hb ?_);refine aGn (cV (by lia) ?_);refine aGn (wlt C hk (T.mb _ (dP hb)) (T.ma _ (dP (by lia))) ?_);dsimp only
 cases hlt:lt (aR b c.2.2.2.1) (aR a c.2.2.1) with
 | true=>
  rw[if_pos rfl];unfold loB;refine aGn (cV hb ?_)
  have M2:=M.xC O hb λz hz=>by
   obtain⟨j,hj1,hj2,rfl⟩:=dC hz;exact O.tr _ _ _ (O.qR _ _ hlt) (sga _ _ hj1 hj2)
  by_cases c1:c.2.2.2.1+1=b.size
  ·rw[if_pos (by simpa using c1)];exact aGq ⟨bT.refl _,.inl ⟨_,rfl,M2.AB c1⟩⟩
  ·rw[if_neg (by simpa using c1)]
   have j2:J lt a b (c.2.1.push (aR b c.2.2.2.1)) c.2.2.1 (c.2.2.2.1+1):=⟨M2,ha,by lia,by simp;lia⟩
   split
   ·exact aGq ⟨bT.refl _,.inr ⟨rfl,j2,by simpa using hn2⟩⟩
   ·exact aGq ⟨bT.refl _,rfl,.inr ⟨rfl,j2,by simpa using hn2⟩⟩
 | false=>
  rw[if_neg Bool.false_ne_true];unfold loA;refine aGn (cV (by lia) ?_)
  have M2:=M.xD O (by lia) λz hz=>by
   obtain⟨j,hj1,hj2,rfl⟩:=dC hz;exact O.tr _ _ _ hlt (sgb _ _ hj1 hj2)
  by_cases c1:c.2.2.1+1+1=a.size
  ·rw[if_pos (by simpa using c1)];exact aGq ⟨bT.refl _,.inl ⟨_,rfl,M2.G5 T c1⟩⟩
  ·rw[if_neg (by simpa using c1)]
   have j2:J lt a b (c.2.1.push (aR a c.2.2.1)) (c.2.2.1+1) c.2.2.2.1:=⟨M2,by lia,hb,by simp;lia⟩
   split
   ·exact aGq ⟨bT.refl _,.inr ⟨rfl,j2,by simpa using hn2⟩⟩
   ·exact aGq ⟨bT.refl _,rfl,.inr ⟨rfl,j2,by simpa using hn2⟩⟩
theorem DU{γ:Type}{a b:aKh}{f:Nat->(Option (aKh)×aKh×Nat×Nat×γ)->StateT SortSt Sem (ForInStep (Option (aKh)×aKh×Nat×Nat×γ))}{c:Option (aKh)×aKh×Nat×Nat×γ}{st:SortSt}{Q:(Option (aKh)×aKh×Nat×Nat×γ)->SortSt->Prop}(Dn:(Option (aKh)×aKh×Nat×Nat×γ)->Prop)(n:Nat)
  (hc:c.1=none) (j:J lt a b c.2.1 c.2.2.1 c.2.2.2.1) (hn:n=c.2.1.size)
  (step:∀i c' st',bT st st' ->c'.1=none->J lt a b c'.2.1 c'.2.2.1 c'.2.2.2.1->n+i<=c'.2.1.size->wpS (model prog w) A E s (f i c') (λr st2=>nS lt a b (c'.2.1.size+1) st' r st2/\∀c2,r= .done c2->Dn c2) st')
  (h:∀c' st',bT st st' ->Dn c' ->After lt a b (n+1) c' ->Q c' st'):wpS (model prog w) A E s (forIn [:a.size+b.size] c f) Q st:=by
 refine aHz (I:=λi c' st' =>bT st st' /\c'.1=none/\J lt a b c'.2.1 c'.2.2.1 c'.2.2.2.1/\n+i<=c'.2.1.size) ?_ ?_ ⟨bT.refl _,hc,j,by lia⟩
 ·rintro i c' st' _ hi ⟨sm,h1,h2,h3⟩;refine aIc (step i c' st' sm h1 h2 h3) λr st2 q=>?_;obtain⟨⟨q1,q2⟩,dn⟩:=q
  cases r with
  | done c2=>
   refine h c2 st2 (sm.trans q1) (dn c2 rfl) ?_;rcases q2 with q2 | ⟨z1,z2,z3⟩
   ·exact .inl q2
   ·exact .inr ⟨z1,z2,by lia⟩
  | yield c2=>
   obtain⟨z0,z | ⟨z1,z2,z3⟩⟩:=q2
   ·obtain⟨r,e,_⟩:=z;rw[z0]at e;cases e
   ·exact⟨sm.trans q1,z1,z2,by lia⟩
 ·rintro c' st' ⟨_,_,h2,h3⟩;exfalso;have:=h2.n;have:=h2.ha;have:=h2.hb;simp at h3
  lia
end
section
variable {prog:Program}{w:World}{A:Around}{E:aKe}{s:Shared}{a₀ a b:aKh}{κ:SortKind}{lt:aKf}
theorem PR(O:Wk lt)(C:mT prog w A s κ lt a₀)(T:DP lt a₀ a b){st:SortSt}{c:O5}(hk:kindOf st=κ)(j:J lt a b c.2.1 c.2.2.1 c.2.2.2.1):
  wpS (model prog w) A E s (EY a b c) (λr st2=>nS lt a b (c.2.1.size+1) st r st2/\∀c2,r= .done c2->∃x,c2.1=some x) st:=by
 unfold EY;refine aGn (DU (lt:=lt) (c:=((none,c.snd.fst,c.snd.snd.fst,c.snd.snd.snd.fst,0,0):KC)) (λ_=>True) c.2.1.size rfl j rfl (λi c' st' sm _ j' _=>aIc (aDv O C T (sm.1.trans hk) j' (aGi _)) λ_ _ q=>⟨q,λ_ _=>trivial⟩) λd st1 sm1 _ af=>?_);obtain⟨d0,d1⟩:=d
 rcases af with ⟨r,hr,g⟩ | ⟨hr,j1,n1⟩
 ·dsimp only at hr;subst hr;exact aGq ⟨⟨sm1,.inl ⟨r,rfl,g⟩⟩,λc2 e=>by cases e;exact⟨r,rfl⟩⟩
 ·dsimp only at hr j1 n1;subst hr;dsimp only;refine aGn (wpS_lift (aHg ⟨rfl,?_⟩));refine aGn (DU (lt:=lt) (c:=((none,d1.fst,d1.snd.fst,d1.snd.snd.fst,c.snd.snd.snd.snd+1,d1.snd.snd.snd.fst,d1.snd.snd.snd.snd):PH)) (λ_=>True) d1.1.size rfl j1 rfl (λi c' st' sm _ j' _=>aIc (Q:=nS lt a b (c'.2.1.size+1) st') ?_ λ_ _ q=>⟨q,λ_ _=>trivial⟩) λe st2 sm2 _ af2=>?_)
  ·split
   ·exact aAa O C T (sm.1.trans (sm1.1.trans hk)) j' (aGi _)
   ·exact aAa O C T (sm.1.trans (sm1.1.trans hk)) j' (aGi _)
  ·obtain⟨e0,e1⟩:=e
   rcases af2 with ⟨r,hr,g⟩ | ⟨hr,j2,n2⟩
   ·dsimp only at hr;subst hr;exact aGq ⟨⟨sm1.trans sm2,.inl ⟨r,rfl,g⟩⟩,λc2 e=>by cases e;exact⟨r,rfl⟩⟩
   ·dsimp only at hr j2 n2;subst hr;dsimp only;refine aGn (sG λst3 sm3=>?_);exact aGq ⟨⟨(sm1.trans sm2).trans sm3,rfl,.inr ⟨rfl,j2,by dsimp only;lia⟩⟩,λc2 e=>by cases e⟩
theorem KZ(O:Wk lt)(C:mT prog w A s κ lt a₀)(T:DP lt a₀ a b){st:SortSt}{Q:Array Keyed->SortSt->Prop}(hk:kindOf st=κ)
  (h:∀r st',bT st st' ->Good lt (a.toList++b.toList) r.toList->Q r st'):wpS (model prog w) A E s (pK a b) Q st:=by
 rw[BZ];have pa:=T.pa;have pb:=T.pb;refine aGn (wpS_lift (aHg ⟨rfl,?_⟩));refine aGn (cV (by lia) ?_)
 have M0:p9 lt a b #[] 0 0:=⟨by simp,by simp,by simpa using T.sa,by simpa using T.sb,by simp⟩
 have M1:p9 lt a b #[aR b 0] 0 1:=by
  have:=M0.xC O (by lia) λz hz=>T.first z (by simpa using hz);simpa using this
 by_cases c1:1=b.size
 ·rw[if_pos (by simp[c1])];exact aGq (h _ _ (bT.refl _) (M1.AB c1))
 ·rw[if_neg (by simpa using c1)];by_cases c2:0+1=a.size
  ·rw[if_pos (by simpa using c2)];exact aGq (h _ _ (bT.refl _) (M1.G5 T c2))
  ·rw[if_neg (by simpa using c2)];refine aGn (wpS_get ?_)
   have j:J lt a b #[aR b 0] 0 1:=⟨M1,by lia,by lia,by simp⟩
   refine aGn (DU (lt:=lt) (c:=((none,#[aR b 0],0,1,gallopOf st):O5)) (λc=>∃x,c.1=some x) 1 rfl j rfl (λi c' st' sm _ j' _=>PR O C T (sm.1.trans hk) j') λd st1 sm1 dn af=>?_);obtain⟨d0,d1⟩:=d;obtain⟨x,e⟩:=dn;dsimp only at e;subst e
   rcases af with ⟨r,hr,g⟩ | ⟨hr,_⟩
   ·dsimp only at hr;cases hr;exact aGq (h x st1 sm1 g)
   ·cases hr
end
def pL:Array Keyed->Array Keyed->StateT SortSt Sem (aKh):=sortPriv% PySem.Builtin.mergeHi
def eK(a b out:aKh)(na nb:Nat):aKh:=a.extract 0 na++b.extract 0 nb++out.reverse
def g7(a b out:aKh)(na nb:Nat):aKh:=b.extract 0 nb++a.extract 0 na++out.reverse
abbrev PK:=Option (aKh)×Nat×Nat×aKh×Nat×Nat×Nat
abbrev KI:=Option (aKh)×Nat×Nat×aKh×Nat×Nat
abbrev O7:=Option (aKh)×Nat×Nat×aKh×Nat
def hi4(a b:aKh)(mg ac bc:Nat)(out:aKh)(na nb:Nat):StateT SortSt Sem (ForInStep PK):=do
 let y<-elem' a (na-1)
 if (na-1==0)=true then pure (.done (some (eK a b (out.push y) (na-1) nb),na-1,nb,out.push y,mg,ac,bc))
 else if (decide (ac<7) && decide (bc<7))=true then pure (.done (none,na-1,nb,out.push y,mg,ac,bc)) else pure (.yield (none,na-1,nb,out.push y,mg,ac,bc))
def hi3(a b:aKh)(mg ac bc:Nat)(out:aKh)(na nb:Nat):StateT SortSt Sem (ForInStep PK):=do
 let x<-elem' a (na-1)
 let r<-dQ true x b 0 nb (nb-1)
 match r with
 | some k=>if nb-k > 0 then (if (k==1)=true then pure (.done (some (g7 a b (out++(b.extract k nb).reverse) na k),na,k,out++(b.extract k nb).reverse,mg,ac,nb-k)) else
   if (k==0)=true then pure (.done (some (eK a b (out++(b.extract k nb).reverse) na k),na,k,out++(b.extract k nb).reverse,mg,ac,nb-k)) else hi4 a b mg ac (nb-k) (out++(b.extract k nb).reverse) na k) else hi4 a b mg ac (nb-k) out na nb
 | _=>pure (.done (some (eK a b out na nb),na,nb,out,mg,ac,bc))
def NY(a b:aKh)(mg ac bc:Nat)(out:aKh)(na nb:Nat):StateT SortSt Sem (ForInStep PK):=do
 let y<-elem' b (nb-1)
 if (nb-1==1)=true then pure (.done (some (g7 a b (out.push y) na (nb-1)),na,nb-1,out.push y,mg,ac,bc)) else hi3 a b mg ac bc (out.push y) na (nb-1)
def hi1(a b:aKh)(mg ac bc:Nat)(out:aKh)(na nb:Nat):StateT SortSt Sem (ForInStep PK):=do
 e7 mg
 let x<-elem' b (nb-1)
 let r<-dQ false x a 0 na (na-1)
 match r with
 | some k=>if na-k > 0 then (if (k==0)=true then pure (.done (some (eK a b (out++(a.extract k na).reverse) k nb),k,nb,out++(a.extract k na).reverse,mg,na-k,bc)) else NY a b mg (na-k) bc (out++(a.extract k na).reverse) k nb) else NY a b mg (na-k) bc out na nb
 | _=>pure (.done (some (eK a b out na nb),na,nb,out,mg,ac,bc))
def hiA(a b:aKh)(mg:Nat)(c:KI):StateT SortSt Sem (ForInStep KI):=do
 let y<-elem' a (c.snd.fst-1)
 if (c.snd.fst-1==0)=true then pure (.done (some (eK a b (c.snd.snd.snd.fst.push y) (c.snd.fst-1) c.snd.snd.fst),c.snd.fst-1,c.snd.snd.fst,c.snd.snd.snd.fst.push y,c.snd.snd.snd.snd.fst+1,0))
 else if c.snd.snd.snd.snd.fst+1>=mg then pure (.done (none,c.snd.fst-1,c.snd.snd.fst,c.snd.snd.snd.fst.push y,c.snd.snd.snd.snd.fst+1,0))
 else pure (.yield (none,c.snd.fst-1,c.snd.snd.fst,c.snd.snd.snd.fst.push y,c.snd.snd.snd.snd.fst+1,0))
def hiB(a b:aKh)(mg:Nat)(c:KI):StateT SortSt Sem (ForInStep KI):=do
 let x<-elem' b (c.snd.snd.fst-1)
 if (c.snd.snd.fst-1==1)=true then pure (.done (some (g7 a b (c.snd.snd.snd.fst.push x) c.snd.fst (c.snd.snd.fst-1)),c.snd.fst,c.snd.snd.fst-1,c.snd.snd.snd.fst.push x,0,c.snd.snd.snd.snd.snd+1))
 else if c.snd.snd.snd.snd.snd+1>=mg then pure (.done (none,c.snd.fst,c.snd.snd.fst-1,c.snd.snd.snd.fst.push x,0,c.snd.snd.snd.snd.snd+1))
 else pure (.yield (none,c.snd.fst,c.snd.snd.fst-1,c.snd.snd.snd.fst.push x,0,c.snd.snd.snd.snd.snd+1))
def hi0(a b:aKh)(mg:Nat)(c:KI):StateT SortSt Sem (ForInStep KI):=do
 let y<-elem' b (c.snd.snd.fst-1)
 let x<-elem' a (c.snd.fst-1)
 let r<-lt' y x
 match r with
 | some aWins=>if aWins=true then hiA a b mg c else hiB a b mg c
 | _=>pure (.done (some (eK a b c.snd.snd.snd.fst c.snd.fst c.snd.snd.fst),c.snd.fst,c.snd.snd.fst,c.snd.snd.snd.fst,c.snd.snd.snd.snd.fst,c.snd.snd.snd.snd.snd))
def E9(a b:aKh)(c:O7):StateT SortSt Sem (ForInStep O7):=do
 let d<-forIn [:a.size+b.size] ((none,c.snd.fst,c.snd.snd.fst,c.snd.snd.snd.fst,0,0):KI) λ_ d=>hi0 a b c.snd.snd.snd.snd d
 match d.fst with
 | some r=>pure (.done (some r,d.snd.fst,d.snd.snd.fst,d.snd.snd.snd.fst,c.snd.snd.snd.snd))
 | none=>do
  liftM (rule "list.sort.gallop")
  let e<-forIn [:a.size+b.size] ((none,d.snd.fst,d.snd.snd.fst,d.snd.snd.snd.fst,c.snd.snd.snd.snd+1,d.snd.snd.snd.snd.fst,d.snd.snd.snd.snd.snd):PK) λ_ e=>
   if e.snd.snd.snd.snd.fst > 1 then hi1 a b (e.snd.snd.snd.snd.fst-1) e.snd.snd.snd.snd.snd.fst e.snd.snd.snd.snd.snd.snd e.snd.snd.snd.fst e.snd.fst e.snd.snd.fst else hi1 a b e.snd.snd.snd.snd.fst e.snd.snd.snd.snd.snd.fst e.snd.snd.snd.snd.snd.snd e.snd.snd.snd.fst e.snd.fst e.snd.snd.fst
  match e.fst with
  | some r=>pure (.done (some r,e.snd.fst,e.snd.snd.fst,e.snd.snd.snd.fst,e.snd.snd.snd.snd.fst))
  | none=>do
   e7 (e.snd.snd.snd.snd.fst+1)
   pure (.yield (none,e.snd.fst,e.snd.snd.fst,e.snd.snd.snd.fst,e.snd.snd.snd.snd.fst+1))
theorem B3(a b:aKh):pL a b=(do
 rule "list.sort.merge-hi"
 let total:=a.size+b.size;let mut na:=a.size-1;let mut nb:=b.size;let mut out:aKh:= #[<-elem' a na]
 if na==0 then return eK a b out na nb
 if nb==1 then return g7 a b out na nb
 let mut minGallop:=gallopOf (<-get)
 for _ in [0:total] do
  let mut acount:=0;let mut bcount:=0
  for _ in [0:total] do
   let some aWins<-lt' (<-elem' b (nb-1)) (<-elem' a (na-1)) | return eK a b out na nb
   if aWins then
    na:=na-1;out:=out.push (<-elem' a na);acount:=acount+1;bcount:=0
    if na==0 then return eK a b out na nb
    if acount>=minGallop then break
   else
    nb:=nb-1;out:=out.push (<-elem' b nb);bcount:=bcount+1;acount:=0
    if nb==1 then return g7 a b out na nb
    if bcount>=minGallop then break
  rule "list.sort.gallop"
  minGallop:=minGallop+1
  for _ in [0:total] do
   if minGallop > 1 then minGallop:=minGallop-1
   e7 minGallop
   let some at_<-dQ false (<-elem' b (nb-1)) a 0 na (na-1) | return eK a b out na nb
   let k:=na-at_
   acount:=k
   if k > 0 then
    out:=out++(a.extract at_ na).reverse;na:=at_
    if na==0 then return eK a b out na nb
   nb:=nb-1;out:=out.push (<-elem' b nb)
   if nb==1 then return g7 a b out na nb
   let some at_<-dQ true (<-elem' a (na-1)) b 0 nb (nb-1) | return eK a b out na nb
   let k:=nb-at_
   bcount:=k
   if k > 0 then
    out:=out++(b.extract at_ nb).reverse;nb:=at_
    if nb==1 then return g7 a b out na nb
    if nb==0 then return eK a b out na nb
   na:=na-1;out:=out.push (<-elem' a na)
   if na==0 then return eK a b out na nb
   if acount<7 && bcount<7 then break
  minGallop:=minGallop+1
  e7 minGallop
 unsupported "internal:list.sort.merge-bound"):=rfl
theorem B2(a b:aKh):pL a b=(do
 liftM (rule "list.sort.merge-hi")
 let y<-elem' a (a.size-1)
 if (a.size-1==0)=true then pure (eK a b #[y] (a.size-1) b.size)
 else if (b.size==1)=true then pure (g7 a b #[y] (a.size-1) b.size)
 else do
  let g<-get
  let c<-forIn [:a.size+b.size] ((none,a.size-1,b.size,#[y],gallopOf g):O7) λ_ c=>E9 a b c
  match c.fst with
  | some r=>pure r
  | none=>unsupported "internal:list.sort.merge-bound"):=by
 rw[B3];refine aHo λu=>?_;refine aHo λy=>?_;refine aJ9 rfl (λ_=>rfl) (λ_=>?_);refine aJ9 rfl (λ_=>rfl) (λ_=>?_);refine aHo λg=>?_;have key:∀(f f' :Nat->O7->StateT SortSt Sem (ForInStep O7)) (k k' :O7->StateT SortSt Sem (aKh)) (i:O7),f=f' ->k=k' ->(forIn [:a.size+b.size] i f >>=k)=(forIn [:a.size+b.size] i f' >>=k'):=λf f' k k' i h1 h2=>by rw[h1,h2]
 refine key _ _ _ _ _ (funext λx=>funext λc=>?_) ?_
 ·have key2:∀(f f' :Nat->KI->StateT SortSt Sem (ForInStep KI)) (k k' :KI->StateT SortSt Sem (ForInStep O7)) (i:KI),f=f' ->k=k' ->(forIn [:a.size+b.size] i f >>=k)=(forIn [:a.size+b.size] i f' >>=k'):=λf f' k k' i h1 h2=>by rw[h1,h2]
  refine key2 _ _ _ _ _ (funext λx=>funext λd=>?_) (funext λd=>?_)
  ·rfl
  ·obtain⟨d0,d1⟩:=d
   cases d0 with
   | some r=>rfl
   | none=>
    refine aHo λv=>?_;have key3:∀(f f' :Nat->PK->StateT SortSt Sem (ForInStep PK)) (k k' :PK->StateT SortSt Sem (ForInStep O7)) (i:PK),f=f' ->k=k' ->(forIn [:a.size+b.size] i f >>=k)=(forIn [:a.size+b.size] i f' >>=k'):=λf f' k k' i h1 h2=>by rw[h1,h2]
    refine key3 _ _ _ _ _ (funext λx=>funext λe=>?_) (funext λe=>?_)
    ·refine aJ9 rfl (λ_=>?_) (λ_=>?_)
     ·rfl
     ·rfl
    ·obtain⟨e0,e1⟩:=e;cases e0 <;> rfl
 ·funext c;obtain⟨c0,c1⟩:=c;cases c0 <;> rfl
structure Mh(lt:aKf)(all p q o:List Keyed):Prop where
 perm:(p++(q++o)).Perm all
 so:o.Pairwise λx y=>lt y x=false
 sp:p.Pairwise λx y=>lt y x=false
 sq:q.Pairwise λx y=>lt y x=false
 high:∀x∈p++q,∀y∈o,lt y x=false
theorem Mh.left{lt:aKf}{all u p q o:List Keyed}(M:Mh lt all (p++u) q o)(h:∀x∈q,∀y∈u,lt y x=false):Mh lt all p q (u++o):=by
 have sp:=aGr.mp M.sp;refine⟨?_,aGr.mpr ⟨sp.2.1,M.so,λx hx y hy=>M.high x (by simp[hx]) y hy⟩,sp.1,M.sq,λx hx y hy=>?_⟩
 ·refine List.Perm.trans ?_ M.perm;rw[List.append_assoc];refine aIq p ?_;rw[<-List.append_assoc,<-List.append_assoc];exact aIn o aIr
 ·rcases aGh.mp hy with hy | hy
  ·rcases aGh.mp hx with z | z
   ·exact sp.2.2 x z y hy
   ·exact h x z y hy
  ·exact M.high x (by rcases aGh.mp hx with z | z <;> simp[z]) y hy
theorem Mh.right{lt:aKf}{all u p q o:List Keyed}(M:Mh lt all p (q++u) o)(h:∀x∈p,∀y∈u,lt y x=false):Mh lt all p q (u++o):=by
 have sq:=aGr.mp M.sq;refine⟨?_,aGr.mpr ⟨sq.2.1,M.so,λx hx y hy=>M.high x (by simp[hx]) y hy⟩,M.sp,sq.1,λx hx y hy=>?_⟩
 ·have:=M.perm;simpa[List.append_assoc] using this
 ·rcases aGh.mp hy with hy | hy
  ·rcases aGh.mp hx with z | z
   ·exact h x z y hy
   ·exact sq.2.2 x z y hy
  ·exact M.high x (by rcases aGh.mp hx with z | z <;> simp[z]) y hy
theorem Mh.fin{lt:aKf}{all p q o:List Keyed}(M:Mh lt all p q o)(h:p=[]\/q=[]):Good lt all (p++q++o):=by
 refine⟨by rw[List.append_assoc];exact M.perm,aGr.mpr ⟨?_,M.so,M.high⟩⟩;rcases h with rfl | rfl
 ·simpa using M.sq
 ·simpa using M.sp
theorem Mh.aFu{lt:aKf}{all p o:List Keyed}{x:Keyed}(M:Mh lt all p [x] o)(h:∀y∈p,lt y x=false):Good lt all ([x]++p++o):=by
 refine⟨?_,aGr.mpr ⟨?_,M.so,λa ha b hb=>M.high a ?_ b hb⟩⟩
 ·refine List.Perm.trans ?_ M.perm;rw[<-List.append_assoc];exact aIn o aIr
 ·exact aGr.mpr ⟨by simp,M.sp,λu hu v hv=>by rw[List.mem_singleton.mp hu];exact h v hv⟩
 ·rcases aGh.mp ha with z | z <;> simp[z] <;> simp_all
theorem tN{a:aKh}{i:Nat}(h0:1<=i)(h:i<=a.size):a.toList.take i=a.toList.take (i-1)++[aR a (i-1)]:=by
 have hl:i-1<a.toList.length:=by simp;lia
 have e:aR a (i-1)=a.toList[i-1]:=by
  have:=gG (xs:=a) (i:=i-1) (by lia);rw[getElem?_pos a (i-1) (by lia)]at this;have:=aGv this;rw[<-this];simp
 rw[e];have:=List.take_append_getElem (l:=a.toList) (i:=i-1) hl;rw[this];congr 1;lia
theorem cP{a:aKh}{i:Nat}{x:Keyed}(h:x∈a.toList.take i):∃j,j<i/\j<a.size/\x=aR a j:=by
 have:=jL (i:=0) (k:=i) (a:=a) (by simpa using h);obtain⟨j,h1,h2,h3⟩:=this;exact⟨j,h1,by lia,by rw[h3];congr 1;lia⟩
theorem zZ{a:aKh}{i k:Nat}:(a.extract i k).toList=(a.toList.take k).drop i:=by
 rw[Array.toList_extract,List.extract_eq_take_drop,List.take_drop];by_cases h:i<=k
 ·congr 2;lia
 ·rw[List.drop_of_length_le (by simp;lia),List.drop_of_length_le (by simp;lia)]
theorem mem_mid{a:aKh}{i k:Nat}{x:Keyed}(h:x∈(a.toList.take k).drop i):∃j,i<=j/\j<k/\j<a.size/\x=aR a j:=by
 obtain⟨n,hn,e⟩:=aJx h;simp only[List.length_take,List.length_drop,Array.length_toList]at hn;refine⟨i+n,by lia,by lia,by lia,?_⟩
 have e2:aR a (i+n)=a.toList[i+n]'(by simp;lia):=by
  have:=gG (xs:=a) (i:=i+n) (by lia);rw[getElem?_pos a (i+n) (by lia)]at this;have:=aGv this;rw[<-this];simp
 rw[e2,<-e];simp
theorem FI(a b out:aKh)(na nb:Nat):(eK a b out na nb).toList=a.toList.take na++b.toList.take nb++out.toList.reverse:=by
 unfold eK;simp[Array.toList_append,Array.toList_extract,List.extract_eq_take_drop]
theorem CZ(a b out:aKh)(na nb:Nat):(g7 a b out na nb).toList=b.toList.take nb++a.toList.take na++out.toList.reverse:=by
 unfold g7;simp[Array.toList_append,Array.toList_extract,List.extract_eq_take_drop]
section
variable {prog:Program}{w:World}{A:Around}{E:aKe}{s:Shared}{a₀ a b:aKh}{κ:SortKind}{lt:aKf}
abbrev sQ(lt:aKf)(a b out:aKh)(na nb:Nat):Prop:=Mh lt (a.toList++b.toList) (a.toList.take na) (b.toList.take nb) out.toList.reverse
theorem sQ.xD{out:aKh}{na nb:Nat}(M:sQ lt a b out na nb)(h0:1<=na)(h1:na<=a.size)(h:∀z∈b.toList.take nb,lt (aR a (na-1)) z=false):sQ lt a b (out.push (aR a (na-1))) (na-1) nb:=by
 unfold sQ at*;rw[tN h0 h1]at M;have:=Mh.left (u:=[aR a (na-1)]) M (by simpa using h);simpa using this
theorem sQ.xC{out:aKh}{na nb:Nat}(M:sQ lt a b out na nb)(h0:1<=nb)(h1:nb<=b.size)(h:∀z∈a.toList.take na,lt (aR b (nb-1)) z=false):sQ lt a b (out.push (aR b (nb-1))) na (nb-1):=by
 unfold sQ at*;rw[tN h0 h1]at M;have:=Mh.right (u:=[aR b (nb-1)]) M (by simpa using h);simpa using this
theorem sQ.MY{out:aKh}{na nb k:Nat}(M:sQ lt a b out na nb)(hk:k<=na)(h:∀x∈b.toList.take nb,∀y∈(a.toList.take na).drop k,lt y x=false):sQ lt a b (out++(a.extract k na).reverse) k nb:=by
 unfold sQ at*
 have e:a.toList.take na=a.toList.take k++(a.toList.take na).drop k:=by
  have:=(aIs k (a.toList.take na)).symm
  rwa [List.take_take,aKc hk]at this
 rw[e]at M;have:=Mh.left M h;simp only[Array.toList_append,Array.toList_reverse,List.reverse_append,List.reverse_reverse,zZ];exact this
theorem sQ.MX{out:aKh}{na nb k:Nat}(M:sQ lt a b out na nb)(hk:k<=nb)(h:∀x∈a.toList.take na,∀y∈(b.toList.take nb).drop k,lt y x=false):sQ lt a b (out++(b.extract k nb).reverse) na k:=by
 unfold sQ at*
 have e:b.toList.take nb=b.toList.take k++(b.toList.take nb).drop k:=by
  have:=(aIs k (b.toList.take nb)).symm
  rwa [List.take_take,aKc hk]at this
 rw[e]at M;have:=Mh.right M h;simp only[Array.toList_append,Array.toList_reverse,List.reverse_append,List.reverse_reverse,zZ];exact this
theorem sQ.FJ{out:aKh}{na nb:Nat}(M:sQ lt a b out na nb)(h:na=0\/nb=0):Good lt (a.toList++b.toList) (eK a b out na nb).toList:=by
 rw[FI];exact Mh.fin M (h.imp (λe=>by simp[e]) λe=>by simp[e])
theorem sQ.AB(T:DP lt a₀ a b){out:aKh}{na nb:Nat}(M:sQ lt a b out na nb)(h:nb=1):Good lt (a.toList++b.toList) (g7 a b out na nb).toList:=by
 rw[CZ];have pb:=T.pb
 have e:b.toList.take nb=[aR b 0]:=by
  rw[h,tN (by lia) (by lia)];simp
 unfold sQ at M;rw[e]at M⊢;exact Mh.aFu M λy hy=>T.first y (aHt hy)
structure Jh(lt:aKf)(a b out:aKh)(na nb:Nat):Prop where
 m:sQ lt a b out na nb
 ha:1<=na
 hb:2<=nb
 la:na<=a.size
 lb:nb<=b.size
 n:out.size+na+nb=a.size+b.size
def F5(lt:aKf)(a b:aKh)(n:Nat){γ:Type}(c:Option (aKh)×Nat×Nat×aKh×γ):Prop:=
 (∃r,c.1=some r/\Good lt (a.toList++b.toList) r.toList)\/(c.1=none/\Jh lt a b c.2.2.2.1 c.2.1 c.2.2.1/\n<=c.2.2.2.1.size)
def nT(lt:aKf)(a b:aKh)(n:Nat){γ:Type}(st:SortSt)(r:ForInStep (Option (aKh)×Nat×Nat×aKh×γ))(st' :SortSt):Prop:=
 bT st st' /\match r with | .done c=>F5 lt a b n c | .yield c=>c.1=none/\F5 lt a b n c
theorem aAb(T:DP lt a₀ a b){st:SortSt}{mg ac bc:Nat}{out:aKh}{na nb n:Nat}(j:Jh lt a b out na nb)(hn2:n<=out.size+1)(h:∀z∈b.toList.take nb,lt (aR a (na-1)) z=false):
  wpS (model prog w) A E s (hi4 a b mg ac bc out na nb) (nT lt a b n st) st:=by
 obtain⟨M,ha,hb,la,lb,hn⟩:=j;unfold hi4;refine aGn (cV (by lia) ?_);have M2:=M.xD ha la h;by_cases c:na-1=0
 ·rw[if_pos (by simp[c])];exact aGq ⟨bT.refl _,.inl ⟨_,rfl,M2.FJ (.inl c)⟩⟩
 ·rw[if_neg (by simpa using c)]
  have j2:Jh lt a b (out.push (aR a (na-1))) (na-1) nb:=⟨M2,by lia,hb,by lia,lb,by simp;lia⟩
  split
  ·exact aGq ⟨bT.refl _,.inr ⟨rfl,j2,by simpa using hn2⟩⟩
  ·exact aGq ⟨bT.refl _,rfl,.inr ⟨rfl,j2,by simpa using hn2⟩⟩
theorem aDw(O:Wk lt)(C:mT prog w A s κ lt a₀)(T:DP lt a₀ a b){st:SortSt}{mg ac bc:Nat}{out:aKh}{na nb n:Nat}(hk:kindOf st=κ)(j:Jh lt a b out na nb)(hn2:n<=out.size+1):
  wpS (model prog w) A E s (hi3 a b mg ac bc out na nb) (nT lt a b n st) st:=by
 have j0:=j;obtain⟨M,ha,hb,la,lb,hn⟩:=j;unfold hi3;have sga:=aY O T.sa;have sgb:=aY O T.sb;refine aGn (cV (by lia) ?_);refine aGn (mD O C hk (by lia) (by lia) (λp q h1 h2 h3=>sgb p q h2 (by lia)) (λi hi=>T.mb _ (dP (by lia))) (T.ma _ (dP (by lia))) λk hk1 h1 h2=>?_)
 have key:∀z∈a.toList.take na,lt (aR a (na-1)) z=false:=λz hz=>by
  obtain⟨j,hj1,hj2,rfl⟩:=cP hz;exact sga _ _ (by lia) (by lia)
 have b1:∀x∈a.toList.take na,∀y∈(b.toList.take nb).drop k,lt y x=false:=λx hx y hy=>by
  obtain⟨j,hj0,hj1,hj2,rfl⟩:=mem_mid hy;have e:=h2 j hj0 hj1;simp only[jT,if_true,Nat.zero_add]at e;exact O.tr _ _ _ (key x hx) e
 have b2:∀z∈b.toList.take k,lt (aR a (na-1)) z=false:=λz hz=>by
  obtain⟨j,hj1,hj2,rfl⟩:=cP hz;have e:=h1 j hj1;simp only[jT,if_true,Nat.zero_add]at e;exact O.qR _ _ e
 dsimp only;by_cases c:nb-k > 0
 ·rw[if_pos c];have M2:=M.MX (k:=k) (by lia) b1;have sz:(b.extract k nb).reverse.size=nb-k:=by rw[Array.size_reverse,Array.size_extract];lia
  by_cases c2:k=1
  ·rw[if_pos (by simpa using c2)];exact aGq ⟨bT.refl _,.inl ⟨_,rfl,M2.AB T c2⟩⟩
  ·rw[if_neg (by simpa using c2)];by_cases c3:k=0
   ·rw[if_pos (by simpa using c3)];exact aGq ⟨bT.refl _,.inl ⟨_,rfl,M2.FJ (.inr c3)⟩⟩
   ·rw[if_neg (by simpa using c3)];exact aAb T ⟨M2,ha,by lia,la,by lia,by rw[Array.size_append,sz];lia⟩ (by rw[Array.size_append,sz];lia) b2
 ·obtain rfl:k=nb:=by lia
  rw[if_neg c];exact aAb T j0 hn2 b2
theorem aAc(O:Wk lt)(C:mT prog w A s κ lt a₀)(T:DP lt a₀ a b){st:SortSt}{mg ac bc:Nat}{out:aKh}{na nb n:Nat}(hk:kindOf st=κ)(j:Jh lt a b out na nb)(hn2:n<=out.size+1)(h:∀z∈a.toList.take na,lt (aR b (nb-1)) z=false):
  wpS (model prog w) A E s (NY a b mg ac bc out na nb) (nT lt a b n st) st:=by
 obtain⟨M,ha,hb,la,lb,hn⟩:=j;unfold NY;refine aGn (cV (by lia) ?_);have M2:=M.xC (by lia) lb h;by_cases c:nb-1=1
 ·rw[if_pos (by simpa using c)];exact aGq ⟨bT.refl _,.inl ⟨_,rfl,M2.AB T c⟩⟩
 ·rw[if_neg (by simpa using c)];exact aDw O C T hk ⟨M2,ha,by lia,la,by lia,by simp;lia⟩ (by simp;lia)
theorem D2{n:Nat}{γ:Type}{st st1 st2:SortSt}{r:ForInStep (Option (aKh)×Nat×Nat×aKh×γ)}(h:bT st st1)(q:nT lt a b n st1 r st2):nT lt a b n st r st2:=⟨h.trans q.1,q.2⟩
theorem aAd(O:Wk lt)(C:mT prog w A s κ lt a₀)(T:DP lt a₀ a b){st:SortSt}{mg ac bc:Nat}{out:aKh}{na nb n:Nat}(hk:kindOf st=κ)(j:Jh lt a b out na nb)(hn2:n<=out.size+1):
  wpS (model prog w) A E s (hi1 a b mg ac bc out na nb) (nT lt a b n st) st:=by
 have j0:=j;obtain⟨M,ha,hb,la,lb,hn⟩:=j;unfold hi1;have sga:=aY O T.sa;have sgb:=aY O T.sb;refine aGn (sG λst1 same=>?_);refine aIc ?_ λr st2 q=>D2 same q;have hk1:kindOf st1=κ:=same.1.trans hk;refine aGn (cV (by lia) ?_);refine aGn (mD O C hk1 (by lia) (by lia) (λp q h1 h2 h3=>sga p q h2 (by lia)) (λi hi=>T.ma _ (dP (by lia))) (T.mb _ (dP (by lia))) λk hk2 h1 h2=>?_)
 have key:∀z∈b.toList.take nb,lt (aR b (nb-1)) z=false:=λz hz=>by
  obtain⟨j,hj1,hj2,rfl⟩:=cP hz;exact sgb _ _ (by lia) (by lia)
 have b1:∀x∈b.toList.take nb,∀y∈(a.toList.take na).drop k,lt y x=false:=λx hx y hy=>by
  obtain⟨j,hj0,hj1,hj2,rfl⟩:=mem_mid hy;have e:=h2 j hj0 hj1;simp only[jT,Bool.false_eq_true,if_false,Bool.not_eq_false',Nat.zero_add]at e;exact O.tr _ _ _ (key x hx) (O.qR _ _ e)
 have b2:∀z∈a.toList.take k,lt (aR b (nb-1)) z=false:=λz hz=>by
  obtain⟨j,hj1,hj2,rfl⟩:=cP hz;have e:=h1 j hj1;simp only[jT,Bool.false_eq_true,if_false,Bool.not_eq_true',Nat.zero_add]at e;exact e
 dsimp only;by_cases c:na-k > 0
 ·rw[if_pos c];have M2:=M.MY (k:=k) (by lia) b1;have sz:(a.extract k na).reverse.size=na-k:=by rw[Array.size_reverse,Array.size_extract];lia
  by_cases c1:k=0
  ·rw[if_pos (by simpa using c1)];exact aGq ⟨bT.refl _,.inl ⟨_,rfl,M2.FJ (.inl c1)⟩⟩
  ·rw[if_neg (by simpa using c1)];exact aAc O C T hk1 ⟨M2,by lia,hb,by lia,lb,by rw[Array.size_append,sz];lia⟩ (by rw[Array.size_append,sz];lia) b2
 ·obtain rfl:k=na:=by lia
  rw[if_neg c];exact aAc O C T hk1 j0 hn2 b2
theorem aDx(O:Wk lt)(C:mT prog w A s κ lt a₀)(T:DP lt a₀ a b){st:SortSt}{mg:Nat}{c:KI}{n:Nat}(hk:kindOf st=κ)(j:Jh lt a b c.2.2.2.1 c.2.1 c.2.2.1)(hn2:n<=c.2.2.2.1.size+1):
  wpS (model prog w) A E s (hi0 a b mg c) (nT lt a b n st) st:=by
 obtain⟨M,ha,hb,la,lb,hn⟩:=j;have sga:=aY O T.sa;have sgb:=aY O T.sb;unfold hi0;refine aGn (cV (by lia) ?_);refine aGn (cV (by lia) ?_);refine aGn (wlt C hk (T.mb _ (dP (by lia))) (T.ma _ (dP (by lia))) ?_);dsimp only
 cases hlt:lt (aR b (c.2.2.1-1)) (aR a (c.2.1-1)) with
 | true=>
  rw[if_pos rfl];unfold hiA;refine aGn (cV (by lia) ?_)
  have M2:=M.xD ha la λz hz=>by
   obtain⟨j,hj1,hj2,rfl⟩:=cP hz;exact O.tr _ _ _ (sgb _ _ (by lia) (by lia)) (O.qR _ _ hlt)
  by_cases c1:c.2.1-1=0
  ·rw[if_pos (by simpa using c1)];exact aGq ⟨bT.refl _,.inl ⟨_,rfl,M2.FJ (.inl c1)⟩⟩
  ·rw[if_neg (by simpa using c1)]
   have j2:Jh lt a b (c.2.2.2.1.push (aR a (c.2.1-1))) (c.2.1-1) c.2.2.1:=⟨M2,by lia,hb,by lia,lb,by simp;lia⟩
   split
   ·exact aGq ⟨bT.refl _,.inr ⟨rfl,j2,by simpa using hn2⟩⟩
   ·exact aGq ⟨bT.refl _,rfl,.inr ⟨rfl,j2,by simpa using hn2⟩⟩
 | false=>
  rw[if_neg Bool.false_ne_true];unfold hiB;refine aGn (cV (by lia) ?_)
  have M2:=M.xC (by lia) lb λz hz=>by
   obtain⟨j,hj1,hj2,rfl⟩:=cP hz;exact O.tr _ _ _ (sga _ _ (by lia) (by lia)) hlt
  by_cases c1:c.2.2.1-1=1
  ·rw[if_pos (by simpa using c1)];exact aGq ⟨bT.refl _,.inl ⟨_,rfl,M2.AB T c1⟩⟩
  ·rw[if_neg (by simpa using c1)]
   have j2:Jh lt a b (c.2.2.2.1.push (aR b (c.2.2.1-1))) c.2.1 (c.2.2.1-1):=⟨M2,ha,by lia,la,by lia,by simp;lia⟩
   split
   ·exact aGq ⟨bT.refl _,.inr ⟨rfl,j2,by simpa using hn2⟩⟩
   ·exact aGq ⟨bT.refl _,rfl,.inr ⟨rfl,j2,by simpa using hn2⟩⟩
theorem yO{γ:Type}{f:Nat->(Option (aKh)×Nat×Nat×aKh×γ)->StateT SortSt Sem (ForInStep (Option (aKh)×Nat×Nat×aKh×γ))}{c:Option (aKh)×Nat×Nat×aKh×γ}{st:SortSt}{Q:(Option (aKh)×Nat×Nat×aKh×γ)->SortSt->Prop}(Dn:(Option (aKh)×Nat×Nat×aKh×γ)->Prop)(n:Nat)
  (hc:c.1=none) (j:Jh lt a b c.2.2.2.1 c.2.1 c.2.2.1) (hn:n=c.2.2.2.1.size)
  (step:∀i c' st',bT st st' ->c'.1=none->Jh lt a b c'.2.2.2.1 c'.2.1 c'.2.2.1->n+i<=c'.2.2.2.1.size->wpS (model prog w) A E s (f i c') (λr st2=>nT lt a b (c'.2.2.2.1.size+1) st' r st2/\∀c2,r= .done c2->Dn c2) st')
  (h:∀c' st',bT st st' ->Dn c' ->F5 lt a b (n+1) c' ->Q c' st'):wpS (model prog w) A E s (forIn [:a.size+b.size] c f) Q st:=by
 refine aHz (I:=λi c' st' =>bT st st' /\c'.1=none/\Jh lt a b c'.2.2.2.1 c'.2.1 c'.2.2.1/\n+i<=c'.2.2.2.1.size) ?_ ?_ ⟨bT.refl _,hc,j,by lia⟩
 ·rintro i c' st' _ hi ⟨sm,h1,h2,h3⟩;refine aIc (step i c' st' sm h1 h2 h3) λr st2 q=>?_;obtain⟨⟨q1,q2⟩,dn⟩:=q
  cases r with
  | done c2=>
   refine h c2 st2 (sm.trans q1) (dn c2 rfl) ?_;rcases q2 with q2 | ⟨z1,z2,z3⟩
   ·exact .inl q2
   ·exact .inr ⟨z1,z2,by lia⟩
  | yield c2=>
   obtain⟨z0,z | ⟨z1,z2,z3⟩⟩:=q2
   ·obtain⟨r,e,_⟩:=z;rw[z0]at e;cases e
   ·exact⟨sm.trans q1,z1,z2,by lia⟩
 ·rintro c' st' ⟨_,_,h2,h3⟩;exfalso;have:=h2.n;have:=h2.ha;have:=h2.hb;simp at h3
  lia
theorem PU(O:Wk lt)(C:mT prog w A s κ lt a₀)(T:DP lt a₀ a b){st:SortSt}{c:O7}(hk:kindOf st=κ)(j:Jh lt a b c.2.2.2.1 c.2.1 c.2.2.1):
  wpS (model prog w) A E s (E9 a b c) (λr st2=>nT lt a b (c.2.2.2.1.size+1) st r st2/\∀c2,r= .done c2->∃x,c2.1=some x) st:=by
 unfold E9;refine aGn (yO (lt:=lt) (c:=((none,c.snd.fst,c.snd.snd.fst,c.snd.snd.snd.fst,0,0):KI)) (λ_=>True) c.2.2.2.1.size rfl j rfl (λi c' st' sm _ j' _=>aIc (aDx O C T (sm.1.trans hk) j' (aGi _)) λ_ _ q=>⟨q,λ_ _=>trivial⟩) λd st1 sm1 _ af=>?_);obtain⟨d0,d1⟩:=d
 rcases af with ⟨r,hr,g⟩ | ⟨hr,j1,n1⟩
 ·dsimp only at hr;subst hr;exact aGq ⟨⟨sm1,.inl ⟨r,rfl,g⟩⟩,λc2 e=>by cases e;exact⟨r,rfl⟩⟩
 ·dsimp only at hr j1 n1;subst hr;dsimp only;refine aGn (wpS_lift (aHg ⟨rfl,?_⟩));refine aGn (yO (lt:=lt) (c:=((none,d1.fst,d1.snd.fst,d1.snd.snd.fst,c.snd.snd.snd.snd+1,d1.snd.snd.snd.fst,d1.snd.snd.snd.snd):PK)) (λ_=>True) d1.2.2.1.size rfl j1 rfl (λi c' st' sm _ j' _=>aIc (Q:=nT lt a b (c'.2.2.2.1.size+1) st') ?_ λ_ _ q=>⟨q,λ_ _=>trivial⟩) λe st2 sm2 _ af2=>?_)
  ·split
   ·exact aAd O C T (sm.1.trans (sm1.1.trans hk)) j' (aGi _)
   ·exact aAd O C T (sm.1.trans (sm1.1.trans hk)) j' (aGi _)
  ·obtain⟨e0,e1⟩:=e
   rcases af2 with ⟨r,hr,g⟩ | ⟨hr,j2,n2⟩
   ·dsimp only at hr;subst hr;exact aGq ⟨⟨sm1.trans sm2,.inl ⟨r,rfl,g⟩⟩,λc2 e=>by cases e;exact⟨r,rfl⟩⟩
   ·dsimp only at hr j2 n2;subst hr;dsimp only;refine aGn (sG λst3 sm3=>?_);exact aGq ⟨⟨(sm1.trans sm2).trans sm3,rfl,.inr ⟨rfl,j2,by dsimp only;lia⟩⟩,λc2 e=>by cases e⟩
theorem K0(O:Wk lt)(C:mT prog w A s κ lt a₀)(T:DP lt a₀ a b){st:SortSt}{Q:Array Keyed->SortSt->Prop}(hk:kindOf st=κ)
  (h:∀r st',bT st st' ->Good lt (a.toList++b.toList) r.toList->Q r st'):wpS (model prog w) A E s (pL a b) Q st:=by
 rw[B2];have pa:=T.pa;have pb:=T.pb;refine aGn (wpS_lift (aHg ⟨rfl,?_⟩));refine aGn (cV (by lia) ?_)
 have M0:sQ lt a b #[] a.size b.size:=by
  have ea:a.toList.take a.size=a.toList:=aJf (by simp);have eb:b.toList.take b.size=b.toList:=aJf (by simp);refine⟨by simp[ea,eb],by simp,by rw[ea];exact T.sa,by rw[eb];exact T.sb,by simp⟩
 have M1:sQ lt a b #[aR a (a.size-1)] (a.size-1) b.size:=by
  have:=M0.xD pa (aGi _) λz hz=>T.last z (aHt hz);simpa using this
 by_cases c1:a.size-1=0
 ·rw[if_pos (by simp[c1])];exact aGq (h _ _ (bT.refl _) (M1.FJ (.inl c1)))
 ·rw[if_neg (by simpa using c1)];by_cases c2:b.size=1
  ·rw[if_pos (by simpa using c2)];exact aGq (h _ _ (bT.refl _) (M1.AB T c2))
  ·rw[if_neg (by simpa using c2)];refine aGn (wpS_get ?_)
   have j:Jh lt a b #[aR a (a.size-1)] (a.size-1) b.size:=⟨M1,by lia,by lia,by lia,aGi _,by simp;lia⟩
   refine aGn (yO (lt:=lt) (c:=((none,a.size-1,b.size,#[aR a (a.size-1)],gallopOf st):O7)) (λc=>∃x,c.1=some x) 1 rfl j rfl (λi c' st' sm _ j' _=>PU O C T (sm.1.trans hk) j') λd st1 sm1 dn af=>?_);obtain⟨d0,d1⟩:=d;obtain⟨x,e⟩:=dn;dsimp only at e;subst e
   rcases af with ⟨r,hr,g⟩ | ⟨hr,_⟩
   ·dsimp only at hr;cases hr;exact aGq (h x st1 sm1 g)
   ·cases hr
end
theorem lS{a:aKh}{i:Nat}(h:i<a.size):aR a i=a.toList[i]'(by simpa using h):=by
 have:=gG (xs:=a) (i:=i) h;rw[getElem?_pos a i h]at this;have:=aGv this;rw[<-this];simp
def part(a:aKh)(i j:Nat):List Keyed:=(a.toList.take j).drop i
theorem lO{a:aKh}{i j:Nat}{x:Keyed}(h:x∈part a i j):∃k,i<=k/\k<j/\k<a.size/\x=aR a k:=mem_mid h
theorem gU{a:aKh}{i j:Nat}(h:j<=a.size):(part a i j).length=j-i:=by simp[part];lia
theorem EJ{a:aKh}{i m j:Nat}(h1:i<=m)(h2:m<=j):part a i j=part a i m++part a m j:=by
 unfold part;have e:(a.toList.take j).drop i=((a.toList.take j).drop i).take (m-i)++((a.toList.take j).drop i).drop (m-i):=(aIs _ _).symm;rw[e,List.drop_drop,show i+(m-i)=m by lia];congr 1;rw[<-List.drop_take,List.take_take];congr 2;lia
theorem tY{lt:aKf}(O:Wk lt){a:aKh}{i j:Nat}(hj:j<=a.size):Seg lt a i j↔(part a i j).Pairwise λx y=>lt y x=false:=by
 constructor
 ·intro h;rw[List.pairwise_iff_getElem];intro p q hp hq hpq;rw[gU hj]at hp hq
  have e:∀k (hk:k<j-i),(part a i j)[k]'(by rw[gU hj];exact hk)=aR a (i+k):=λk hk=>by
   rw[lS (by lia)];simp[part]
  rw[e p hp,e q hq];exact h _ _ (by lia) (by lia) (by lia)
 ·intro h p q hp hpq hq;by_cases e0:p=q
  ·subst e0;exact O.JG _
  ·rw[List.pairwise_iff_getElem]at h;have:=h (p-i) (q-i) (by rw[gU hj];lia) (by rw[gU hj];lia) (by lia)
   have e:∀k (hk:k<j-i),(part a i j)[k]'(by rw[gU hj];exact hk)=aR a (i+k):=λk hk=>by
    rw[lS (by lia)];simp[part]
   rw[e _ (by lia),e _ (by lia),show i+(p-i)=p by lia,show i+(q-i)=q by lia]at this;exact this
theorem A5{a:aKh}{i j:Nat}(h1:i<=j)(h2:j<=a.size):a.toList=a.toList.take i++(part a i j++a.toList.drop j):=by
 unfold part;rw[<-List.append_assoc]
 have:a.toList.take i++(a.toList.take j).drop i=a.toList.take j:=by
  have:=aIs i (a.toList.take j)
  rwa [List.take_take,aKc h1]at this
 rw[this,List.take_append_drop]
theorem BM(s:Nat):∀(r:List Keyed) (n:Nat) (a:aKh),s+n+r.length<=a.size->
  ((r.zipIdx n).foldl (λa (x:Keyed×Nat)=>a.setIfInBounds (s+x.2) x.1) a).toList=a.toList.take (s+n)++r++a.toList.drop (s+n+r.length)
 | [],n,a,h=>by simp
 | p::t,n,a,h=>by
  simp only[List.length_cons]at h;rw[List.zipIdx_cons,List.foldl_cons,BM s t (n+1) _ (by simp;lia)];have e1:(a.setIfInBounds (s+n) p).toList=a.toList.set (s+n) p:=by simp
  simp only[e1]
  have e2:(a.toList.set (s+n) p).take (s+(n+1))=a.toList.take (s+n)++[p]:=by
   rw[show s+(n+1)=s+n+1 by lia,List.take_add_one,List.take_set_of_le (Nat.le_refl _),List.getElem?_set_self (by simp;lia)];simp
  have e3:(a.toList.set (s+n) p).drop (s+(n+1)+t.length)=a.toList.drop (s+n+(p::t).length):=by
   rw[List.drop_set_of_lt (by lia)];congr 1;simp;lia
  rw[e2,e3];simp
theorem uR{a b:aKh}{i j:Nat}(h:a.toList[i]? =b.toList[j]?):aR a i=aR b j:=JE (by simpa using h)
theorem B4(i:Nat):mergeAt' i=(do
 let s<-get
 match ((pendingOf s)[i]?,(pendingOf s)[i+1]?) with
 | (some (sa,na,power),some (sb,nb,_))=>do
  set (setPending s (((pendingOf s).setIfInBounds i (sa,na+nb,power)).eraseIdxIfInBounds (i+1)))
  let x<-elem' (arrOf s) sb
  let r<-dQ false x (arrOf s) sa na 0
  match r with
  | some k=>
   if (na-k==0)=true then pure true else do
    let y<-elem' (arrOf s) (sa+k+(na-k)-1)
    let r<-dQ true y (arrOf s) sb nb (nb-1)
    match r with
    | some m=>
     if (m==0)=true then pure true else do
      let merged<-if na-k<=m then pK ((arrOf s).extract (sa+k) sb) ((arrOf s).extract sb (sb+m)) else pL ((arrOf s).extract (sa+k) sb) ((arrOf s).extract sb (sb+m))
      modify λs=>setArr s (merged.toList.zipIdx.foldl (λa (x:Keyed×Nat)=>a.setIfInBounds (sa+k+x.2) x.1) (arrOf s))
      let s<-get
      pure (failedOf s).isNone
    | _=>pure false
  | _=>pure false
 | _=>unsupported "internal:list.sort.pending"):=by
 rfl
section
variable {prog:Program}{w:World}{A:Around}{E:aKe}{s:Shared}{a₀:aKh}{κ:SortKind}{lt:aKf}
theorem KY{σ:Type}{M:Model}{A:Around}{E:aKe}{s:Shared}{x:σ}{Q:PUnit->σ->Prop}{st:σ}(h:Q ⟨⟩ x):wpS M A E s (set x:StateT σ Sem PUnit) Q st:=aJn (f:=λ_=>x) h
theorem dO{a:aKh}{i k:Nat}:(a.extract i k).toList=part a i k:=zZ
theorem HC{a:aKh}{i k j:Nat}(h:k<=a.size)(hj:i+j<k):aR (a.extract i k) j=aR a (i+j):=by
 have hs:j<(a.extract i k).size:=by rw[Array.size_extract];lia
 rw[lS hs,lS (by lia)];simp
theorem QQ{a:aKh}{r:List Keyed}{s:Nat}(h:s+r.length<=a.size):∀a2:aKh,a2.toList=a.toList.take s++r++a.toList.drop (s+r.length)->∀j,(j<s\/s+r.length<=j)->aR a2 j=aR a j:=by
 intro a2 e j hj;refine uR ?_;rw[e];have l1:(a.toList.take s).length=s:=by simp;lia
 rcases hj with hj | hj
 ·rw[List.append_assoc,List.getElem?_append_left (by lia),List.getElem?_take_of_lt hj]
 ·rw[List.getElem?_append_right (by simp;lia),List.getElem?_drop];congr 1;simp;lia
theorem K1(O:Wk lt)(C:mT prog w A s κ lt a₀){st:SortSt}{i sa na pw nb pw2:Nat}{Q:Bool->SortSt->Prop}(hi:(pendingOf st)[i]? =some (sa,na,pw))(hj:(pendingOf st)[i+1]? =some (sa+na,nb,pw2))
  (h1:1<=na) (h2:1<=nb) (hz:sa+na+nb<=a₀.size) (hB:Base κ a₀ st) (g1:Seg lt (arrOf st) sa (sa+na)) (g2:Seg lt (arrOf st) (sa+na) (sa+na+nb))
  (h:∀st',Base κ a₀ st' ->Seg lt (arrOf st') sa (sa+na+nb)->(∀k,(k<sa\/sa+na+nb<=k)->aR (arrOf st') k=aR (arrOf st) k)->
   pendingOf st' =((pendingOf st).setIfInBounds i (sa,na+nb,pw)).eraseIdxIfInBounds (i+1)->Q true st'):wpS (model prog w) A E s (mergeAt' i) Q st:=by
 rw[B4];refine aGn (wpS_get ?_);rw[hi,hj];dsimp only;refine aGn (KY ?_);have zs:=hB.size;generalize hst:setPending st (((pendingOf st).setIfInBounds i (sa,na+nb,pw)).eraseIdxIfInBounds (i+1))=st1;have B1:Base κ a₀ st1:=by rw[<-hst];exact⟨hB.perm,hB.kind,hB.JS⟩
 have ar1:arrOf st1=arrOf st:=by rw[<-hst]
 have pd1:pendingOf st1=((pendingOf st).setIfInBounds i (sa,na+nb,pw)).eraseIdxIfInBounds (i+1):=by rw[<-hst]
 clear hst;have mem:∀k,k<a₀.size->aR (arrOf st) k∈a₀.toList:=λk hk=>hB.mem hk;refine aGn (cV (by lia) ?_);refine aGn (mD O C B1.kind (by lia) (by lia) g1 (λi hi=>mem _ (by lia)) (mem _ (by lia)) λk hk b1 b2=>?_);dsimp only
 have low:∀j,j<k->lt (aR (arrOf st) (sa+na)) (aR (arrOf st) (sa+j))=false:=λj hj=>by
  have e:=b1 j hj;simpa only[jT,Bool.false_eq_true,if_false,Bool.not_eq_true'] using e
 have upp:∀j,k<=j->j<na->lt (aR (arrOf st) (sa+na)) (aR (arrOf st) (sa+j))=true:=λj h3 h4=>by
  have e:=b2 j h3 h4;simpa only[jT,Bool.false_eq_true,if_false,Bool.not_eq_false'] using e
 by_cases c1:na-k=0
 ·rw[if_pos (by simpa using c1)];refine aGq (h st1 B1 ?_ (λj _=>by rw[ar1]) pd1);rw[ar1];intro p q hp hpq hq;by_cases cp:p<sa+na
  ·by_cases cq:q<sa+na
   ·exact g1 p q hp hpq cq
   ·have e:=low (p-sa) (by lia);rw[show sa+(p-sa)=p by lia]at e;exact O.tr _ _ _ e (g2 (sa+na) q (aGi _) (by lia) (by lia))
  ·exact g2 p q (by lia) hpq (by lia)
 rw[if_neg (by simpa using c1)];refine aGn (cV (by lia) ?_);have elast:sa+k+(na-k)-1=sa+na-1:=by lia
 rw[elast];refine aGn (mD O C B1.kind (by lia) (by lia) g2 (λi hi=>mem _ (by lia)) (mem _ (by (clear elast c1 hk zs h2;lia))) λm hm d1 d2=>?_);dsimp only
 have dlow:∀j,j<m->lt (aR (arrOf st) (sa+na+j)) (aR (arrOf st) (sa+na-1))=true:=λj hj=>by
  have e:=d1 j hj;simpa only[jT,if_true] using e
 have dupp:∀j,m<=j->j<nb->lt (aR (arrOf st) (sa+na+j)) (aR (arrOf st) (sa+na-1))=false:=λj h3 h4=>by
  have e:=d2 j h3 h4;simpa only[jT,if_true] using e
 by_cases c2:m=0
 ·rw[if_pos (by simpa using c2)];refine aGq (h st1 B1 ?_ (λj _=>by rw[ar1]) pd1);rw[ar1];intro p q hp hpq hq;by_cases cp:p<sa+na
  ·by_cases cq:q<sa+na
   ·exact g1 p q hp hpq cq
   ·have e:=dupp (q-(sa+na)) (by lia) (by lia);rw[show sa+na+(q-(sa+na))=q by lia]at e;exact O.tr _ _ _ (g1 p (sa+na-1) hp (by (clear cq hq hpq hp c2 hm elast c1 hk zs hz h2 h1;lia)) (by (clear cq cp hq hpq hp c2 hm elast c1 hk zs hz h2;lia))) e
  ·exact g2 p q (by lia) hpq (by lia)
 rw[if_neg (by simpa using c2)]
 have T:DP lt a₀ ((arrOf st).extract (sa+k) (sa+na)) ((arrOf st).extract (sa+na) (sa+na+m)):=by
  refine⟨λx hx=>?_,λx hx=>?_,?_,?_,by rw[Array.size_extract];(clear c2 hm elast hk h2 h1;lia),by rw[Array.size_extract];lia,λx hx=>?_,λy hy=>?_⟩
  ·rw[dO]at hx;obtain⟨j,_,_,_,rfl⟩:=lO hx;exact mem _ (by lia)
  ·rw[dO]at hx;obtain⟨j,_,_,_,rfl⟩:=lO hx;exact mem _ (by lia)
  ·rw[dO,<-tY O (by lia)];exact λp q hp hpq hq=>g1 p q (by lia) hpq hq
  ·rw[dO,<-tY O (by lia)];exact λp q hp hpq hq=>g2 p q hp hpq (by lia)
  ·rw[dO]at hx;obtain⟨j,j1,j2,_,rfl⟩:=lO hx;rw[HC (by lia) (by lia)];have e:=upp (j-sa) (by lia) (by lia);rw[show sa+(j-sa)=j by lia]at e;exact O.qR _ _ e
  ·rw[dO]at hy;obtain⟨j,j1,j2,_,rfl⟩:=lO hy;rw[Array.size_extract,HC (by lia) (by (clear j2 j1 c2 hm elast hk zs hz h2 h1;lia)),show sa+k+(min (sa+na) (arrOf st).size-(sa+k)-1)=sa+na-1 by lia];have e:=dlow (j-(sa+na)) (by lia);rw[show sa+na+(j-(sa+na))=j by lia]at e;exact O.qR _ _ e
 have fin:∀(r:aKh) (st2:SortSt),bT st1 st2->Good lt (((arrOf st).extract (sa+k) (sa+na)).toList++((arrOf st).extract (sa+na) (sa+na+m)).toList) r.toList->
   wpS (model prog w) A E s (do
    modify λs=>setArr s (r.toList.zipIdx.foldl (λa (x:Keyed×Nat)=>a.setIfInBounds (sa+k+x.2) x.1) (arrOf s))
    let s<-get
    pure (failedOf s).isNone) Q st2:=λr st2 sm gd=>by
  refine aGn (aJn ?_);refine aGn (wpS_get ?_);have ar2:arrOf st2=arrOf st:=sm.2.1.trans ar1;have hf2:failedOf st2=none:=sm.2.2.2.trans B1.JS
  have rl:r.toList.length=na-k+m:=by
   have:=gd.1.length_eq;rw[List.length_append,dO,dO,gU (by lia),gU (by lia)]at this
   lia
  have pl:=BM (sa+k) r.toList 0 (arrOf st) (by (clear c2 elast c1 h2 h1;lia));simp only[Nat.add_zero]at pl;generalize ha2:(r.toList.zipIdx.foldl (λa (x:Keyed×Nat)=>a.setIfInBounds (sa+k+x.2) x.1) (arrOf st))=a2 at pl;have hset:setArr st2 (r.toList.zipIdx.foldl (λa (x:Keyed×Nat)=>a.setIfInBounds (sa+k+x.2) x.1) (arrOf st2))=setArr st2 a2:=by rw[ar2,ha2]
  rw[hset];have fn:(failedOf (setArr st2 a2)).isNone=true:=by show (failedOf st2).isNone=true;rw[hf2];rfl
  rw[fn]
  have rp:r.toList.Perm (part (arrOf st) (sa+k) (sa+na+m)):=by
   have:=gd.1;rw[dO,dO,<-EJ (by lia) (by lia)]at this;exact this
  have pall:a2.Perm (arrOf st):=by
   rw[Array.perm_iff_toList_perm,pl];have e:=A5 (a:=arrOf st) (i:=sa+k) (j:=sa+na+m) (by lia) (by lia);rw[show sa+k+r.toList.length=sa+na+m by (clear c2 hm elast c1 zs hz h2 h1;lia),List.append_assoc];rw[e]
   conv=>lhs;rw[<-e]
   exact aIq _ (aIn _ rp)
  have sz2:a2.size=(arrOf st).size:=pall.size_eq;have kt:=QQ (a:=arrOf st) (r:=r.toList) (s:=sa+k) (by (clear sz2 c2 elast c1 h2 h1;lia)) a2 pl;rw[show sa+k+r.toList.length=sa+na+m by (clear sz2 c2 hm elast c1 zs hz h2 h1;lia)]at kt
  have mid:part a2 (sa+k) (sa+na+m)=r.toList:=by
   unfold part;rw[pl,show sa+k+r.toList.length=sa+na+m by (clear sz2 c2 hm elast c1 zs hz h2 h1;lia)];have l1:((arrOf st).toList.take (sa+k)).length=sa+k:=by simp;(clear sz2 rl c2 hm elast c1 h2 h1;lia)
   rw[List.append_assoc,List.take_append,l1,List.drop_append,List.length_take,l1,List.drop_of_length_le (by simp;(clear l1 sz2 rl c2 hm elast c1 hk zs hz h2 h1;lia))];rw[show sa+k-min (sa+na+m) (sa+k)=0 by (clear l1 sz2 rl c2 hm elast c1 zs hz h2 h1;lia),List.drop_zero,List.nil_append,List.take_append,rl,show sa+na+m-(sa+k)-(na-k+m)=0 by (clear l1 sz2 rl c2 hm elast c1 hk zs hz h2 h1;lia)];simp;rw[List.take_of_length_le (by simp at rl⊢;(clear l1 sz2 c2 hm elast c1 zs hz h2 h1;lia))]
  refine aGq (h (setArr st2 a2) ⟨pall.trans hB.perm,sm.1.trans B1.kind,hf2⟩ ?_ (λj hj=>kt j (by lia)) (sm.2.2.1.trans pd1));show Seg lt a2 sa (sa+na+nb)
  have inmid:∀j,sa+k<=j->j<sa+na+m->∃i,sa+k<=i/\i<sa+na+m/\aR a2 j=aR (arrOf st) i:=λj h3 h4=>by
   have:aR a2 j∈part a2 (sa+k) (sa+na+m):=by
    unfold part;rw[lS (by lia)];have hl:j-(sa+k)<((a2.toList.take (sa+na+m)).drop (sa+k)).length:=by simp;lia
    have:=aJo hl;simp only[List.getElem_drop,List.getElem_take]at this;simpa[show sa+k+(j-(sa+k))=j by lia] using this
   rw[mid]at this;obtain⟨i,i1,i2,_,e⟩:=lO (rp.mem_iff.mp this);exact⟨i,i1,i2,e⟩
  have smid:Seg lt a2 (sa+k) (sa+na+m):=by rw[tY O (by lia),mid];exact gd.2
  have z1:∀p i,sa<=p->p<sa+k->sa+k<=i->i<sa+na+nb->lt (aR (arrOf st) i) (aR (arrOf st) p)=false:=λp i p1 p2 i1 i2=>by
   by_cases ci:i<sa+na
   ·exact g1 p i p1 (by lia) ci
   ·have e:=low (p-sa) (by lia);rw[show sa+(p-sa)=p by lia]at e;exact O.tr _ _ _ e (g2 (sa+na) i (aGi _) (by lia) (by lia))
  have z3:∀i q,sa+k<=i->i<sa+na+m->sa+na+m<=q->q<sa+na+nb->lt (aR (arrOf st) q) (aR (arrOf st) i)=false:=λi q i1 i2 q1 q2=>by
   by_cases ci:i<sa+na
   ·have e:=dupp (q-(sa+na)) (by lia) (by lia);rw[show sa+na+(q-(sa+na))=q by lia]at e;exact O.tr _ _ _ (g1 i (sa+na-1) (by lia) (by (clear q2 q1 i2 i1 sz2 rl c2 hm elast c1 hk zs hz h2 h1;lia)) (by (clear ci q2 q1 i2 i1 sz2 rl c2 hm elast c1 hk zs hz h2;lia))) e
   ·exact g2 i q (by lia) (by lia) (by lia)
  intro p q hp hpq hq;by_cases cp:p<sa+k
  ·rw[kt p (.inl cp)];by_cases cq:q<sa+k
   ·rw[kt q (.inl cq)];exact g1 p q hp hpq (by lia)
   ·by_cases cq2:q<sa+na+m
    ·obtain⟨i,i1,i2,e⟩:=inmid q (by lia) cq2;rw[e];exact z1 p i hp cp i1 (by lia)
    ·rw[kt q (.inr (by lia))];exact z1 p q hp cp (by lia) hq
  ·by_cases cp2:p<sa+na+m
   ·by_cases cq2:q<sa+na+m
    ·exact smid p q (by lia) hpq cq2
    ·rw[kt q (.inr (by lia))];obtain⟨i,i1,i2,e⟩:=inmid p (by lia) cp2;rw[e];exact z3 i q i1 i2 (by lia) hq
   ·rw[kt p (.inr (by lia)),kt q (.inr (by lia))];exact g2 p q (by lia) hpq (by lia)
 by_cases c3:na-k<=m
 ·rw[if_pos c3];exact aGn (KZ O C T B1.kind λr st2 sm gd=>fin r st2 sm gd)
 ·rw[if_neg c3];exact aGn (K0 O C T B1.kind λr st2 sm gd=>fin r st2 sm gd)
end
abbrev Run:=Nat×Nat×Nat
def d6(r:Run):Nat×Nat:=(r.1,r.2.1)
def Chain:Nat->List (Nat×Nat)->Nat->Prop
 | s,[],e=>s=e
 | s,r::l,e=>r.1=s/\1<=r.2/\Chain (s+r.2) l e
theorem mR:∀{l m:List (Nat×Nat)} {s e:Nat},Chain s (l++m) e↔∃x,Chain s l x/\Chain x m e
 | [],m,s,e=>by simp[Chain]
 | r::l,m,s,e=>by
  simp only[List.cons_append,Chain,mR (l:=l) (m:=m)];constructor
  ·rintro⟨h1,h2,x,h3,h4⟩;exact⟨x,⟨h1,h2,h3⟩,h4⟩
  ·rintro⟨x,⟨h1,h2,h3⟩,h4⟩;exact⟨h1,h2,x,h3,h4⟩
theorem mQ:∀{l:List (Nat×Nat)} {s e:Nat},Chain s l e->s+l.length<=e
 | [],s,e,h=>by simp[Chain]at h;simp;lia
 | r::l,s,e,h=>by
  obtain⟨_,h2,h3⟩:=h;have:=mQ h3;simp;lia
theorem mP:∀{l:List (Nat×Nat)} {s e:Nat},Chain s l e->∀r∈l,s<=r.1/\r.1+r.2<=e/\1<=r.2
 | [],s,e,h,r,hr=>by cases hr
 | q::l,s,e,h,r,hr=>by
  obtain⟨h1,h2,h3⟩:=h;rcases aGk.mp hr with z | z
  ·subst z;have:=mQ h3;exact⟨by lia,by lia,h2⟩
  ·have:=mP h3 r z;exact⟨by lia,this.2⟩
structure Wait(κ:SortKind)(lt:aKf)(a₀:aKh)(st:SortSt)(lo:Nat):Prop where
 base:Base κ a₀ st
 ch:Chain 0 ((pendingOf st).toList.map d6) lo
 sg:∀r∈(pendingOf st).toList,Seg lt (arrOf st) r.1 (r.1+r.2.1)
 le:lo<=a₀.size
section
variable {prog:Program}{w:World}{A:Around}{E:aKe}{s:Shared}{a₀:aKh}{κ:SortKind}{lt:aKf}
theorem oY{a b:aKh}{i j:Nat}(h:∀k,i<=k->k<j->aR b k=aR a k)(g:Seg lt a i j):Seg lt b i j:=λp q hp hpq hq=>by
 rw[h p hp (by lia),h q (by lia) hq];exact g p q hp hpq hq
theorem VN{p:List Run}{i:Nat}(h:i+1<p.length):∃pre r1 r2 post,p=pre++r1::r2::post/\pre.length=i:=by
 refine⟨p.take i,p[i]'(by lia),p[i+1],p.drop (i+2),?_,by simp;lia⟩;have e1:=List.drop_eq_getElem_cons (l:=p) (i:=i) (by lia);have e2:=List.drop_eq_getElem_cons (l:=p) (i:=i+1) h;rw[<-e2,<-e1,List.take_append_drop]
theorem F8(O:Wk lt)(C:mT prog w A s κ lt a₀){st:SortSt}{i lo:Nat}{Q:Bool->SortSt->Prop}(W:Wait κ lt a₀ st lo)(hi:i+1<(pendingOf st).size)
  (h:∀st',Wait κ lt a₀ st' lo->(pendingOf st').size+1=(pendingOf st).size->(∀k,lo<=k->aR (arrOf st') k=aR (arrOf st) k)->Q true st'):wpS (model prog w) A E s (mergeAt' i) Q st:=by
 obtain⟨pre,r1,r2,post,e,hl⟩:=VN (p:=(pendingOf st).toList) (i:=i) (by simpa using hi)
 have g1:(pendingOf st)[i]? =some r1:=by
  have:(pendingOf st).toList[i]? =some r1:=by rw[e,<-hl];simp
  simpa using this
 have g2:(pendingOf st)[i+1]? =some r2:=by
  have:(pendingOf st).toList[i+1]? =some r2:=by rw[e,<-hl];simp
  simpa using this
 have ch:=W.ch;rw[e,List.map_append]at ch;obtain⟨x,c1,c2⟩:=mR.mp ch;simp only[List.map_cons,Chain,d6]at c2;obtain⟨k1,k2,k3,k4,k5⟩:=c2;have len:=mQ k5;have s1:=W.sg r1 (by rw[e];simp);have s2:=W.sg r2 (by rw[e];simp);obtain⟨a1,n1,p1⟩:=r1;obtain⟨a2,n2,p2⟩:=r2;dsimp only at k1 k2 k3 k4 k5 s1 s2 len;subst k1 k3;have le:=W.le;refine K1 O C g1 g2 k2 k4 (by lia) W.base s1 s2 λst' B sg kt pd=>?_
 have el:(pendingOf st').toList=pre++(a1,n1+n2,p1)::post:=by
  rw[pd,Array.toList_eraseIdxIfInBounds,Array.toList_setIfInBounds,e,<-hl];simp;rw[List.eraseIdx_append_of_length_le (by lia)];simp[show pre.length+1-pre.length=1 by lia]
 refine h st' ⟨B,?_,λr hr=>?_,W.le⟩ ?_ λk hk=>kt k (.inr (by lia))
 ·rw[el,List.map_append];refine mR.mpr ⟨a1,c1,?_⟩;simp only[List.map_cons,Chain,d6];exact⟨trivial,by lia,by rw[show a1+(n1+n2)=a1+n1+n2 by lia];exact k5⟩
 ·rw[el]at hr;rcases aGh.mp hr with z | z
  ·have hm:d6 r∈pre.map d6:=aGm.mpr ⟨r,z,rfl⟩;have:=mP c1 _ hm;simp only[d6]at this;exact oY (λk h3 h4=>kt k (.inl (by lia))) (W.sg r (by rw[e];simp[z]))
  ·rcases aGk.mp z with z | z
   ·subst z;show Seg lt _ a1 (a1+(n1+n2));rw[show a1+(n1+n2)=a1+n1+n2 by lia];exact sg
   ·have hm:d6 r∈post.map d6:=aGm.mpr ⟨r,z,rfl⟩;have:=mP k5 _ hm;simp only[d6]at this;exact oY (λk h3 h4=>kt k (.inr (by lia))) (W.sg r (by rw[e];simp[z]))
 ·have:=aHk List.length el;have:=aHk List.length e;simp at*
  lia
theorem BW{p:Array Run}{i pw:Nat}:(p.modify i λ(x:Run)=>(x.1,x.2.1,pw)).toList.map d6=p.toList.map d6/\(p.modify i λ(x:Run)=>(x.1,x.2.1,pw)).size=p.size:=by
 refine⟨?_,by simp⟩;rw[Array.toList_modify];apply aJg;intro j;simp only[List.getElem?_map,List.getElem?_modify];by_cases h:i=j
 ·subst h;cases p.toList[i]? <;> simp[d6]
 ·simp[h]
end
section
variable {prog:Program}{w:World}{A:Around}{E:aKe}{s:Shared}{a₀:aKh}{κ:SortKind}{lt:aKf}
theorem Wait.power{st:SortSt}{lo pw i:Nat}(W:Wait κ lt a₀ st lo):Wait κ lt a₀ (setPending st ((pendingOf st).modify i λ(x:Run)=>(x.1,x.2.1,pw))) lo:=by
 obtain⟨b,c,g,l⟩:=W;have mb:=BW (p:=pendingOf st) (i:=i) (pw:=pw);refine⟨⟨b.perm,b.kind,b.JS⟩,?_,λr hr=>?_,l⟩
 ·show Chain 0 (((pendingOf st).modify i λ(x:Run)=>(x.1,x.2.1,pw)).toList.map d6) lo;rw[mb.1];exact c
 ·have hr' :r∈((pendingOf st).modify i λ(x:Run)=>(x.1,x.2.1,pw)).toList:=hr;have:d6 r∈(pendingOf st).toList.map d6:=by rw[<-mb.1];exact aGm.mpr ⟨r,hr',rfl⟩
  obtain⟨q,hq,e⟩:=aGm.mp this;simp only[d6,Prod.mk.injEq]at e;have:=g q hq;rw[e.1,e.2]at this;exact this
theorem Wait.push{st:SortSt}{lo n:Nat}(W:Wait κ lt a₀ st lo)(hn:1<=n)(hl:lo+n<=a₀.size)(g:Seg lt (arrOf st) lo (lo+n)):Wait κ lt a₀ (setPending st ((pendingOf st).push (lo,n,0))) (lo+n):=by
 obtain⟨b,c,gs,l⟩:=W;refine⟨⟨b.perm,b.kind,b.JS⟩,?_,λr hr=>?_,hl⟩
 ·show Chain 0 (((pendingOf st).push (lo,n,0)).toList.map d6) (lo+n);simp only[Array.toList_push,List.map_append];exact mR.mpr ⟨lo,c,rfl,hn,rfl⟩
 ·have hr' :r∈((pendingOf st).push (lo,n,0)).toList:=hr;simp only[Array.toList_push]at hr';rcases aGh.mp hr' with z | z
  ·exact gs r z
  ·simp at z;subst z;exact g
theorem Wait.held{st st' :SortSt}{lo:Nat}(W:Wait κ lt a₀ st lo)(B:Base κ a₀ st')(k:∀j,j<lo->aR (arrOf st') j=aR (arrOf st) j)(p:pendingOf st' =pendingOf st):Wait κ lt a₀ st' lo:=by
 obtain⟨b,c,gs,l⟩:=W;refine⟨B,by rw[p];exact c,λr hr=>?_,l⟩;rw[p]at hr;have:=mP c (d6 r) (aGm.mpr ⟨r,hr,rfl⟩);simp only[d6]at this;exact oY (λj h1 h2=>k j (by lia)) (gs r hr)
def GO(lo n size:Nat):StateT SortSt Sem (ForInStep (Option Unit×Nat)):=do
 modify λs=>setPending s ((pendingOf s).push (lo,n,0))
 pure (.yield (none,lo+n))
def xU(lo n size:Nat):StateT SortSt Sem (ForInStep (Option Unit×Nat)):=do
 let g<-get
 match (pendingOf g).back? with
 | some (s1,n1,_)=>do
  let c<-forIn [:size] ((none,()):Option Unit×Unit) λ_ _=>do
   let g<-get
   match (if (pendingOf g).size > 1 then (pendingOf g)[(pendingOf g).size-2]? else none) with
   | some (_,_,older)=>if older<=power' size (2*s1+n1) (2*s1+n1+n1+n) size then pure (.done (none,())) else do
     let b<-mergeAt' ((pendingOf g).size-2)
     if (!b)=true then pure (.done (some (),())) else pure (.yield (none,()))
   | _=>pure (.done (none,()))
  match c.fst with
  | some r=>pure (.done (some r,lo))
  | none=>do
   modify λs=>setPending s ((pendingOf s).modify ((pendingOf s).size-1) λ(x:Run)=>(x.1,x.2.1,power' size (2*s1+n1) (2*s1+n1+n1+n) size))
   GO lo n size
 | _=>GO lo n size
def GH(size mr lo:Nat):StateT SortSt Sem (ForInStep (Option Unit×Nat)):=
 if lo>=size then pure (.done (none,lo)) else countRun' lo (size-lo) >>=λr=>match r with
  | some n=>if n<mr then liftM (rule "list.sort.binary-insertion") >>=λ_=>binarySort' lo (min (size-lo) mr) n >>=λb=>if (!b)=true then pure (.done (some (),lo)) else xU lo (min (size-lo) mr) size
    else xU lo n size
  | none=>pure (.done (some (),lo))
def UM(size:Nat):StateT SortSt Sem (ForInStep (Option Unit×Unit)):=do
 let g<-get
 if (pendingOf g).size<=1 then pure (.done (none,())) else do
  let b<-mergeAt' (if (if (pendingOf g).size-2 > 0 then (pendingOf g)[(pendingOf g).size-2-1]?.map (·.2.1) else none).any (· < ((pendingOf g)[(pendingOf g).size-2+1]?.elim 0 (·.2.1))) then (pendingOf g).size-2-1 else (pendingOf g).size-2)
  if (!b)=true then pure (.done (some (),())) else pure (.yield (none,()))
theorem LJ:sortRuns' =(do
  let g<-get
  let c<-forIn [:(arrOf g).size] ((none,0):Option Unit×Nat) λ_ c=>GH (arrOf g).size (minRun' (arrOf g).size (arrOf g).size 0) c.snd
  match c.fst with
  | some r=>pure r
  | none=>do
   let d<-forIn [:(arrOf g).size] ((none,()):Option Unit×Unit) λ_ _=>UM (arrOf g).size
   match d.fst with
   | some r=>pure r
   | none=>pure ()):=by
 rw[sortRuns'_eq];refine aHo λg=>?_;dsimp only;have key:∀(n:Nat) (f f' :Nat->Option Unit×Nat->StateT SortSt Sem (ForInStep (Option Unit×Nat))) (k k' :Option Unit×Nat->StateT SortSt Sem Unit) (i:Option Unit×Nat),f=f' ->k=k' ->(forIn [:n] i f >>=k)=(forIn [:n] i f' >>=k'):=λn f f' k k' i h1 h2=>by rw[h1,h2]
 refine key _ _ _ _ _ _ (funext λx=>funext λc=>?_) (funext λc=>?_)
 ·have key2:∀(n:Nat) (f f' :Nat->Option Unit×Unit->StateT SortSt Sem (ForInStep (Option Unit×Unit))) (k k' :Option Unit×Unit->StateT SortSt Sem (ForInStep (Option Unit×Nat))) (i:Option Unit×Unit),f=f' ->k=k' ->(forIn [:n] i f >>=k)=(forIn [:n] i f' >>=k'):=λn f f' k k' i h1 h2=>by rw[h1,h2]
  unfold GH;refine aJ9 rfl (λ_=>rfl) (λ_=>?_);refine aHo λr=>?_
  cases r with
  | none=>rfl
  | some n=>
   refine aJ9 rfl (λ_=>?_) (λ_=>?_)
   ·refine aHo λ_=>?_;refine aHo λb=>?_;refine aJ9 rfl (λ_=>rfl) (λ_=>?_);unfold xU;refine aHo λg2=>?_
    cases (pendingOf g2).back? with
    | none=>rfl
    | some r=>
     obtain⟨s1,n1,p1⟩:=r;refine key2 _ _ _ _ _ _ (funext λx=>funext λc=>aHo λg3=>?_) (funext λc=>?_)
     ·cases (if (pendingOf g3).size > 1 then (pendingOf g3)[(pendingOf g3).size-2]? else none) with
      | none=>rfl
      | some r=>rfl
     ·obtain⟨c0,c1⟩:=c;cases c0 <;> rfl
   ·unfold xU;refine aHo λg2=>?_
    cases (pendingOf g2).back? with
    | none=>rfl
    | some r=>
     obtain⟨s1,n1,p1⟩:=r;refine key2 _ _ _ _ _ _ (funext λx=>funext λc=>aHo λg3=>?_) (funext λc=>?_)
     ·cases (if (pendingOf g3).size > 1 then (pendingOf g3)[(pendingOf g3).size-2]? else none) with
      | none=>rfl
      | some r=>rfl
     ·obtain⟨c0,c1⟩:=c;cases c0 <;> rfl
 ·obtain⟨c0,c1⟩:=c
  cases c0 with
  | some r=>rfl
  | none=>
   refine aHo λd=>?_;obtain⟨d0,d1⟩:=d;cases d0 <;> rfl
theorem T4(O:Wk lt)(C:mT prog w A s κ lt a₀){st:SortSt}{lo n size:Nat}{Q:ForInStep (Option Unit×Nat)->SortSt->Prop}(W:Wait κ lt a₀ st lo)(hn:1<=n)(hl:lo+n<=a₀.size)(g:Seg lt (arrOf st) lo (lo+n))
  (h:∀st',Wait κ lt a₀ st' (lo+n)->Q (.yield (none,lo+n)) st'):wpS (model prog w) A E s (xU lo n size) Q st:=by
 have push:∀st1,Wait κ lt a₀ st1 lo->Seg lt (arrOf st1) lo (lo+n)->wpS (model prog w) A E s (GO lo n size) Q st1:=λst1 W1 g1=>by
  unfold GO;exact aGn (aJn (aGq (h _ (W1.push hn hl g1))))
 unfold xU;refine aGn (wpS_get ?_)
 cases hb:(pendingOf st).back? with
 | none=>exact push st W g
 | some r=>
  obtain⟨s1,n1,p1⟩:=r;dsimp only;refine aGn (aIc (aHz (I:=λ_ c st1=>c=(none,())/\Wait κ lt a₀ st1 lo/\∀k,lo<=k->aR (arrOf st1) k=aR (arrOf st) k) (Q:=λc st1=>c=(none,())/\Wait κ lt a₀ st1 lo/\∀k,lo<=k->aR (arrOf st1) k=aR (arrOf st) k) ?_ (λ_ _ r=>r) ⟨rfl,W,λ_ _=>rfl⟩) ?_)
  ·rintro x c st1 _ _ ⟨rfl,W1,k1⟩;refine aGn (wpS_get ?_);by_cases c1:(pendingOf st1).size > 1
   ·rw[if_pos c1];have e:(pendingOf st1)[(pendingOf st1).size-2]? =some ((pendingOf st1)[(pendingOf st1).size-2]'(by lia)):=by simp
    rw[e];generalize (pendingOf st1)[(pendingOf st1).size-2]'(by lia)=r;obtain⟨q1,q2,q3⟩:=r;dsimp only;split
    ·exact aGq ⟨rfl,W1,k1⟩
    ·refine aGn (F8 O C W1 (by lia) λst2 W2 _ k2=>?_);exact aGq ⟨rfl,W2,λk hk=>(k2 k hk).trans (k1 k hk)⟩
   ·rw[if_neg c1];exact aGq ⟨rfl,W1,k1⟩
  ·rintro c st1 ⟨rfl,W1,k1⟩;dsimp only;refine aGn (aJn ?_);exact push _ W1.power (oY (λk h1 _=>k1 k h1) g)
theorem aA6(O:Wk lt)(C:mT prog w A s κ lt a₀){st:SortSt}{lo mr:Nat}{Q:ForInStep (Option Unit×Nat)->SortSt->Prop}(W:Wait κ lt a₀ st lo)
  (hd:lo=a₀.size->Q (.done (none,lo)) st) (h:∀n st',1<=n->Wait κ lt a₀ st' (lo+n)->Q (.yield (none,lo+n)) st'):wpS (model prog w) A E s (GH a₀.size mr lo) Q st:=by
 have le:=W.le;unfold GH;by_cases c:lo>=a₀.size
 ·rw[if_pos c];exact aGq (hd (by lia))
 ·rw[if_neg c];refine aGn (U4 O C (by lia) (by lia) W.base λm st2 b2 m1 m2 sg2 held=>?_);have W2:Wait κ lt a₀ st2 lo:=W.held b2 held.1 held.2;dsimp only;by_cases less:m<mr
  ·rw[if_pos less];refine aGn (wpS_lift (aHg ⟨rfl,?_⟩));refine aGn (PV O C (by lia) (by lia) b2 sg2 λst3 b3 sg3 k3 p3=>?_);exact T4 O C (W2.held b3 k3 p3) (by lia) (by lia) sg3 λst' W' =>h _ st' (by lia) W'
  ·rw[if_neg less];exact T4 O C W2 m1 (by lia) sg2 λst' W' =>h _ st' m1 W'
theorem idx(b:Prop)[Decidable b](n:Nat)(h:2<=n):(if b then n-2-1 else n-2)+1<n:=by split <;> lia
theorem U3(O:Wk lt)(C:mT prog w A s κ lt a₀){st:SortSt}{Q:Unit->SortSt->Prop}(hB:Base κ a₀ st)(hpd:pendingOf st= #[])
  (h:∀st',Base κ a₀ st' ->Seg lt (arrOf st') 0 a₀.size->Q () st'):wpS (model prog w) A E s sortRuns' Q st:=by
 have zs:=hB.size;rw[LJ];refine aGn (wpS_get ?_);simp only[zs]
 have W0:Wait κ lt a₀ st 0:=⟨hB,by rw[hpd];rfl,λr hr=>by rw[hpd]at hr;simp at hr,by lia⟩
 refine aGn (aIc (aHz
  (I:=λx c st' =>∃lo,c=(none,lo)/\x<=lo/\Wait κ lt a₀ st' lo)
  (Q:=λc st' =>c=(none,a₀.size)/\Wait κ lt a₀ st' a₀.size) ?turn ?last ⟨0,rfl,aGi _,W0⟩) ?rest)
 case last=>
  rintro c st' ⟨lo,rfl,hx,W⟩;have:=W.le;obtain rfl:lo=a₀.size:=by lia
  exact⟨rfl,W⟩
 case turn=>
  rintro x c st' _ hx ⟨lo,rfl,hx2,W⟩
  refine aA6 O C W (λe=>?_) λn st2 hn W2=>⟨lo+n,rfl,by lia,W2⟩
  subst e;exact⟨rfl,W⟩
 case rest=>
  rintro c st' ⟨rfl,W⟩;dsimp only
  have hsz:(pendingOf st').size<=a₀.size:=by
   have:=mQ W.ch;simp at this;lia
  refine aGn (aIc (aHz (I:=λx c st2=>c=(none,())/\Wait κ lt a₀ st2 a₀.size/\((pendingOf st2).size<=1\/(pendingOf st2).size+x<=a₀.size)) (Q:=λc st2=>c=(none,())/\Wait κ lt a₀ st2 a₀.size/\(pendingOf st2).size<=1) ?_ ?_ ⟨rfl,W,.inr (by lia)⟩) ?_)
  ·rintro x c st2 _ hx ⟨rfl,W2,hp⟩;unfold UM;refine aGn (wpS_get ?_);by_cases c1:(pendingOf st2).size<=1
   ·rw[if_pos c1];exact aGq ⟨rfl,W2,c1⟩
   ·rw[if_neg c1];refine aGn (F8 O C W2 (idx _ _ (by lia)) λst3 W3 p3 _=>?_);exact aGq ⟨rfl,W3,.inr (by lia)⟩
  ·rintro c st2 ⟨rfl,W2,hp⟩;exact⟨rfl,W2,by simp at hp;lia⟩
  ·rintro c st2 ⟨rfl,W2,hp⟩;dsimp only;refine aGq (h st2 W2.base ?_);have ch:=W2.ch
   cases hl:(pendingOf st2).toList with
   | nil=>
    rw[hl]at ch;simp[Chain]at ch;intro p q _ _ hq;lia
   | cons r l=>
    have:l=[]:=by
     have:=aHk List.length hl;simp at this;exact aHu.mp (by lia)
    subst this;rw[hl]at ch;simp only[List.map_cons,List.map_nil,Chain,d6]at ch;have:=W2.sg r (by rw[hl];simp);rw[ch.1,ch.2.2]at this;exact this
end
section
variable {prog:Program}{w:World}{A:Around}{E:aKe}{s:Shared}{a₀:aKh}{κ:SortKind}{lt:aKf}
theorem QI{vs:List Value}{xs:aKh}(hp:xs.Perm (pairsOf vs))(sg:Seg lt xs 0 vs.length):
  ((xs.map (·.2)).toList).Perm vs/\((xs.map (·.2)).toList).Pairwise (λx y=>lt (y,y) (x,x)=false):=by
 have hl:xs.toList.Perm (vs.zip vs):=by rw[<-pairsOf_toList];exact Array.perm_iff_toList_perm.mp hp
 have same:∀p∈xs.toList,p=(p.2,p.2):=λp hpm=>by
  have hm:=hl.mem_iff.mp hpm
  have:∀(l:List Value) (q:Keyed),q∈l.zip l->q=(q.2,q.2):=λl q hq=>by
   induction l with
   | nil=>simp at hq
   | cons v r ih=>
    rw[List.zip_cons_cons]at hq;rcases aGk.mp hq with e | e
    ·rw[e]
    ·exact ih e
  exact this vs p hm
 have hsz:xs.size=vs.length:=by have:=hp.size_eq;rw[pairsOf_size]at this;exact this
 refine⟨?_,?_⟩
 ·rw[Array.toList_map];have:=hl.map (·.2)
  rwa [show (vs.zip vs).map (·.2)=vs from List.map_snd_zip (aGi _)]at this
 ·rw[Array.toList_map,List.pairwise_map];rw[List.pairwise_iff_getElem];intro i j hi hj hij;have hi' :i<xs.size:=by simpa using hi
  have hj' :j<xs.size:=by simpa using hj
  have q:=sg i j (aHp _) (aIh hij) (by rw[<-hsz];exact hj');have ei:aR xs i=xs.toList[i]:=by unfold aR;rw[getElem?_pos xs i hi'];simp
  have ej:aR xs j=xs.toList[j]:=by unfold aR;rw[getElem?_pos xs j hj'];simp
  rw[ei,ej]at q;rw[same _ (List.getElem_mem hi),same _ (List.getElem_mem hj)]at q;exact q
theorem D4(O:Wk lt){a:Addr}{vs:List Value}{n:Nat}{P:PySem.Fin->Shared->Prop}(ho:s.heap.get? a=some (seqObj "list" vs.toArray n))(h64:vs.length<4000)
  (ck:2<=vs.length->∀h' :Heap,(∀b o,b≠a->s.heap.get? b=some o->h'.get? b=some o)->mT prog w A {s with heap:=h'} κ lt (pairsOf vs)/\
   ∀Q',Q' κ {s with heap:=h'}->wpAny (model prog w) A (keyKind' vs.toArray) Q' E {s with heap:=h'})
  (h:∀out:List Value,out.Perm vs->out.Pairwise (λx y=>lt (y,y) (x,x)=false)->P (.done (.ret .none)) {s with heap:=sortedHeap s.heap a vs out.toArray}):
  wpAny (model prog w) A (Builtin.«list.sort» ⟨[.ref a],[]⟩) P E s:=by
 have la:a<s.heap.objs.size:=aGl ho;have zl:sizeLine=16777216:=aH1
 obtain⟨e1,o1⟩:∃e1,(s.heap.update a (Obj.mapSeq λ_=>#[])).get? a=some (seqObj "list" #[] e1):=⟨_,get?_update_seq ho λ_=>#[]⟩
 have o2:(((s.heap.update a (Obj.mapSeq λ_=>#[])).push (seqObj "tuple" vs.toArray 0)).push (seqObj "list" #[] 0)).get? a=some (seqObj "list" #[] e1):=aGe _ (aGe _ o1)
 have others:∀b o,b≠a->s.heap.get? b=some o->(((s.heap.update a (Obj.mapSeq λ_=>#[])).push (seqObj "tuple" vs.toArray 0)).push (seqObj "list" #[] 0)).get? b=some o:=λb o hb e=>
  aGe _ (aGe _ (by rw[Heap.get?_update_ne _ _ _ _ hb];exact e))
 have ending:∀st' :SortSt,(arrOf st').Perm (pairsOf vs)->Seg lt (arrOf st') 0 vs.length->failedOf st' =none->wpAny (model prog w) A (do
   let touched:=(<-seqEpoch a) !=e1
   Builtin.List.listUpdate (.ref a) λ_=>(arrOf st').map (·.2)
   if let some e:=failedOf st' then rule "list.sort.comparison-raised";throw e
   if touched then rule "list.sort.modified";raiseError "ValueError" "list modified during sort"
   ret .none) P E {s with heap:=((s.heap.update a (Obj.mapSeq λ_=>#[])).push (seqObj "tuple" vs.toArray 0)).push (seqObj "list" #[] 0)}:=λst' hp sg hf=>by
  obtain⟨p1,p2⟩:=QI hp sg
  have oz:((arrOf st').map (·.2)).size<=sizeLine:=by
   rw[Array.size_map];have:=hp.size_eq;rw[pairsOf_size]at this
   lia
  refine aGb (seqEpoch_at o2 rfl ?_);refine aGb (listUpdate_at o2 rfl ?_ (hsz2:=by lia));rw[hf];simp only[bne_self_eq_false,Bool.false_eq_true,if_false];have fin:=h _ p1 p2;rw[Array.toArray_toList]at fin;exact aGd fin
 rw[list_sort_plain];refine aGb (listItems_at ho rfl ?_);refine aGb (listUpdate_at ho rfl ?_ (by rw[List.size_toArray];lia) (aHp _));refine aGb (seqEpoch_at o1 rfl ?_);refine aGb (aIw ?_ (by show vs.length<=_;lia));refine aGb (aK9 ?_ (aHp _));refine aH7 ?_;dsimp only;by_cases PF:vs.length<2
 ·have few' :vs.toArray.size<2:=by rw[List.size_toArray];exact PF
  rw[if_pos few',if_pos few'];refine aGb (aGd ?_);rw[StateT.run_pure];refine aGb (aGd ?_)
  exact ending (SortSt.mk' general' (vs.toArray.zip vs.toArray) #[] 7 none) (Array.Perm.refl _) (λp q _ hpq hq=>by
   obtain rfl:p=q:=by lia
   exact O.JG _) rfl
 ·have many:¬vs.toArray.size<2:=by rw[List.size_toArray];exact PF
  rw[if_neg many,if_neg many];obtain⟨cmp,kind⟩:=ck (by lia) _ others;refine aGb (kind _ ?_)
  refine aGb (aH6 (U3 (Q:=λ_ st' =>Base κ (pairsOf vs) st' /\Seg lt (arrOf st') 0 (pairsOf vs).size) O cmp (st:=SortSt.mk' κ (vs.toArray.zip vs.toArray) #[] 7 none) ⟨Array.Perm.refl _,rfl,rfl⟩ rfl
   λst' b sg=>⟨b,sg⟩) (λr s' hr=>?_) λ_ _ e=>e)
  obtain⟨⟨⟩,st'⟩:=r;obtain⟨rfl,b,sg⟩:=hr;rw[pairsOf_size]at sg;exact ending st' b.perm sg b.JS
theorem LG(O:Wk lt){l:Addr}{vs:List Value}{Q:aKe}(hl:s.heap.IsList l vs.toArray)(h64:vs.length<4000)
  (ck:2<=vs.length->∀h' :Heap,(∀b o,s.heap.get? b=some o->h'.get? b=some o)->mT prog w A.in1.in1 {s with heap:=h'} κ lt (pairsOf vs)/\
   ∀Q' E',Q' κ {s with heap:=h'}->wpAny (model prog w) A.in1.in1 (keyKind' vs.toArray) Q' E' {s with heap:=h'})
  (h:∀out:List Value,out.Perm vs->out.Pairwise (λx y=>lt (y,y) (x,x)=false)->Q (.ref (s.heap.objs.size+1)) {s with heap:=sortedAll s.heap vs out.toArray}):
  wpAny (model prog w) A (call (.builtin "sorted") [.ref l]) Q E s:=by
 have zl:sizeLine=16777216:=aH1;have grown:((s.heap.push (seqObj "list" #[] 0)).update s.heap.objs.size (Obj.mapSeq (· ++vs.toArray))).objs.size=s.heap.objs.size+1:=by rw[Heap.size_update,size_push']
 have kept:∀b o,s.heap.get? b=some o->(((s.heap.push (seqObj "list" #[] 0)).update s.heap.objs.size (Obj.mapSeq (· ++vs.toArray))).push (seqObj "list" vs.toArray 0)).get? b=some o:=λb o e=>by
  have lb:=aGl e;refine aGe _ ?_;rw[Heap.get?_update_ne _ _ _ _ (Nat.ne_of_lt lb)];exact aGe _ e
 refine aJ1 kind_sorted plain_sorted entry_sorted (args_sorted1 _) ?_;unfold Builtin.«sorted»;refine aGb (m:=checkCount "sorted" 1 1 _) (aGd ?_);refine aGb (collect_list hl ?_ (by lia));refine aGb (aK9 ?_ (by lia))
 have ob:(((s.heap.push (seqObj "list" #[] 0)).update s.heap.objs.size (Obj.mapSeq (· ++vs.toArray))).push (seqObj "list" vs.toArray 0)).get? (s.heap.objs.size+1)=some (seqObj "list" vs.toArray 0):=by
  rw[<-grown];exact aGj _ rfl
 show wpAny _ _ _ _ _ {s with heap:=((s.heap.push (seqObj "list" #[] 0)).update s.heap.objs.size (Obj.mapSeq (· ++vs.toArray))).push (seqObj "list" vs.toArray 0)};rw[grown];refine aGb (aH7 (aGw slot_list_sort ⟨_,ob,rfl⟩ entry_list_sort (D4 (κ:=κ) (s:={s with heap:=((s.heap.push (seqObj "list" #[] 0)).update s.heap.objs.size (Obj.mapSeq (· ++vs.toArray))).push (seqObj "list" vs.toArray 0)}) O ob h64 (λh2 h' k=>?_) λout p1 p2=>⟨_,rfl,aGd ⟨_,rfl,h out p1 p2⟩⟩) (args_list_sort _)));obtain⟨c1,c2⟩:=ck h2 h' λb o e=>k b o (aGu (aHi (aGl e))) (kept b o e);exact⟨c1,λQ' q=>c2 Q' _ q⟩
end
end TS
namespace D3
open PySem PySem.Spec PyProof.Rows L2
inductive D where
 | b6 | bl (b:Bool) | int (i:Int) | str (x:Str) | ty (n:String)
 | tup (ds:List D) | fl (ds:List D) | ref (n:Nat)
inductive MO where
 | lst (ds:List D)
 | dic (t:Bool) (kvs:List (D×D))
 | fdc (t:Bool) (kvs:List (D×D)) (ob:Obj)
abbrev MH:=List MO
abbrev d7:=List (Option D)
def PJ(K:aKd)(H:Hp)(a:Addr)(xs:List V):Prop:=
 (∃o,H a=some (.frz o (.lst xs)))\/
  ∃(o:Obj) (aI:Array Value) (n:Nat),K.lookup a=some o/\o.cls= .type "list"/\o.dict=none/\o.data= .seq aI n/\aI.size<=sizeLine/\Vals xs aI.toList
theorem PJ.sq{K:aKd}{H:Hp}{a:Addr}{xs:List V}(h:PJ K H a xs):oH K H a xs:=by
 rcases h with h | h
 ·exact .inl (.inr h)
 ·exact .inr h
mutual
def Is(K:aKd)(μ:List Addr)(H:Hp):D->V->Prop
 | .b6,v=>v= .b6
 | .bl b,v=>v= .bl b
 | .int i,v=>v= .int i
 | .str x,v=>v= .str x
 | .ty n,v=>v= .ty n
 | .tup ds,v=>∃a vs,v= .ref a/\oG K H a vs/\IsL K μ H ds vs
 | .fl ds,v=>∃a vs,v= .ref a/\PJ K H a vs/\IsL K μ H ds vs
 | .ref n,v=>∃a,μ[n]? =some a/\v= .ref a
def IsL(K:aKd)(μ:List Addr)(H:Hp):List D->List V->Prop
 | [],vs=>vs=[]
 | d::ds,vs=>∃v r,vs=v::r/\Is K μ H d v/\IsL K μ H ds r
end
def bC:Key->D
 | .inl i=>.int i
 | .inr x=>.str x
def HS(o:Option HO)(ks:List D)(vs:List V):Bool->Prop
 | false=>∃kk:List (Key×V),o=some (.dK kk)/\ks=kk.map (λp=>bC p.1)/\vs=kk.map (·.2)
 | true=>∃kk:List (List Key×V),o=some (.dT kk)/\ks=kk.map (λp=>.tup (p.1.map bC))/\vs=kk.map (·.2)
def nU(K:aKd)(μ:List Addr)(H:Hp):MO->Addr->Prop
 | .lst ds,a=>∃vs,H a=some (.lst vs)/\IsL K μ H ds vs
 | .dic t kvs,a=>∃vs,HS (H a) (kvs.map (·.1)) vs t/\IsL K μ H (kvs.map (·.2)) vs
 | .fdc t kvs ob,a=>∃vs u,H a=some (.frz ob u)/\HS (some u) (kvs.map (·.1)) vs t/\IsL K μ H (kvs.map (·.2)) vs
def Own:Option HO->Prop
 | some (.frz _ (.dK _))=>True
 | some (.frz _ (.dT _))=>True
 | o=>KO o
structure Rep(K:aKd)(μ:List Addr)(mh:MH)(H:Hp):Prop where
 len:μ.length=mh.length
 nd:μ.Nodup
 obj:∀(n:Nat) a o,μ[n]? =some a->mh[n]? =some o->nU K μ H o a
structure aN(μ:List Addr)(H:Hp)(μ' :List Addr)(H' :Hp):Prop where
 pre:∃t,μ' =μ++t
 fr:∀b o,H b=some o->b∉μ->H' b=some o
 nw:∀a∈μ',a∈μ\/H a=none
def cA(K:aKd)(μ:List Addr)(H:Hp)(ρ:d7)(σ:L2.St):Prop:=
 ρ.length=σ.length/\∀(i:Nat) d,ρ[i]? =some (some d)->∃v,σ[i]? =some (some v)/\Is K μ H d v
section
variable {K:aKd}{μ μ1 μ2 μ' :List Addr}{mh mh' :MH}{H H1 H2 H' :Hp}
theorem nU.mut{o:MO}{a:Addr}(h:nU K μ H o a):Own (H a):=by
 cases o with
 | lst ds=>obtain⟨vs,e,_⟩:=h;rw[e];trivial
 | dic t kvs=>cases t <;> (obtain⟨vs,⟨kk,e,_⟩,_⟩:=h;rw[e];trivial)
 | fdc t kvs ob=>cases t <;> (obtain⟨vs,u,e,⟨kk,e2,_⟩,_⟩:=h;cases e2;rw[e];trivial)
theorem Rep.at(R:Rep K μ mh H){a:Addr}(h:a∈μ):∃(n:Nat) (o:MO),μ[n]? =some a/\mh[n]? =some o/\nU K μ H o a:=by
 obtain⟨n,hn⟩:=aGt.mp h;have hl:n<mh.length:=by rw[<-R.len];exact(aGc.mp hn).1
 exact⟨n,mh[n],hn,by simp[hl],R.obj n a _ hn (by simp[hl])⟩
theorem Rep.mut(R:Rep K μ mh H){a:Addr}(h:a∈μ):Own (H a):=let ⟨_,_,_,_,q⟩:=R.at h;q.mut
theorem aN.refl:aN μ H μ H:=⟨⟨[],by simp⟩,λ_ _ h _=>h,λ_ h=>.inl h⟩
theorem aN.trans(p:aN μ H μ1 H1)(q:aN μ1 H1 μ2 H2):aN μ H μ2 H2:=by
 refine⟨?_,λb o e n=>?_,λa ha=>?_⟩
 ·obtain⟨t,rfl⟩:=p.pre;obtain⟨u,rfl⟩:=q.pre;exact⟨t++u,by simp⟩
 ·refine q.fr b o (p.fr b o e n) λhb=>?_;rcases p.nw b hb with z | z
  ·exact n z
  ·rw[e]at z;cases z
 ·rcases q.nw a ha with z | z
  ·exact p.nw a z
  ·by_cases hm:a∈μ
   ·exact .inl hm
   ·right
    cases e:H a with
    | none=>rfl
    | some o=>rw[p.fr a o e hm]at z;cases z
theorem aN.get(p:aN μ H μ' H'){n:Nat}{a:Addr}(h:μ[n]? =some a):μ'[n]? =some a:=by
 obtain⟨t,rfl⟩:=p.pre;rw[List.getElem?_append_left (List.getElem?_eq_some_iff.mp h).1];exact h
theorem Rep.sqT(R:Rep K μ mh H)(p:aN μ H μ' H'){a:Addr}{vs:List V}(h:oG K H a vs):oG K H' a vs:=by
 rcases h with (h | ⟨o,h⟩) | h
 ·refine .inl (.inl (p.fr _ _ h λhm=>?_));have:=R.mut hm;rw[h]at this;exact this
 ·refine .inl (.inr ⟨o,p.fr _ _ h λhm=>?_⟩);have:=R.mut hm;rw[h]at this;exact this
 ·exact .inr h
theorem Rep.sqF(R:Rep K μ mh H)(p:aN μ H μ' H'){a:Addr}{vs:List V}(h:PJ K H a vs):PJ K H' a vs:=by
 rcases h with ⟨o,h⟩ | h
 ·refine .inl ⟨o,p.fr _ _ h λhm=>?_⟩;have:=R.mut hm;rw[h]at this;exact this
 ·exact .inr h
mutual
theorem Is.mono(R:Rep K μ mh H)(p:aN μ H μ' H'):∀(d:D) (v:V),Is K μ H d v->Is K μ' H' d v
 | .b6,v,h=>by unfold Is at*;exact h
 | .bl _,v,h=>by unfold Is at*;exact h
 | .int _,v,h=>by unfold Is at*;exact h
 | .str _,v,h=>by unfold Is at*;exact h
 | .ty _,v,h=>by unfold Is at*;exact h
 | .tup ds,v,h=>by
  unfold Is at*;obtain⟨a,vs,e,s,l⟩:=h;exact⟨a,vs,e,R.sqT p s,IsL.mono R p ds vs l⟩
 | .fl ds,v,h=>by
  unfold Is at*;obtain⟨a,vs,e,s,l⟩:=h;exact⟨a,vs,e,R.sqF p s,IsL.mono R p ds vs l⟩
 | .ref n,v,h=>by
  unfold Is at*;obtain⟨a,e,q⟩:=h;exact⟨a,p.get e,q⟩
theorem IsL.mono(R:Rep K μ mh H)(p:aN μ H μ' H'):∀(ds:List D) (vs:List V),IsL K μ H ds vs->IsL K μ' H' ds vs
 | [],vs,h=>by unfold IsL at*;exact h
 | d::ds,vs,h=>by
  unfold IsL at*;obtain⟨v,r,e,q,l⟩:=h;exact⟨v,r,e,Is.mono R p d v q,IsL.mono R p ds r l⟩
end
theorem cA.mono{ρ:d7}{σ:L2.St}(R:Rep K μ mh H)(p:aN μ H μ' H')(E:cA K μ H ρ σ):cA K μ' H' ρ σ:=⟨E.1,λi d e=>by
 obtain⟨v,h1,h2⟩:=E.2 i d e
 exact⟨v,h1,Is.mono R p d v h2⟩⟩
theorem nU.mono{o:MO}{a:Addr}(R:Rep K μ mh H)(p:aN μ H μ' H')(e:H' a=H a)(h:nU K μ H o a):nU K μ' H' o a:=by
 cases o with
 | lst ds=>obtain⟨vs,q,l⟩:=h;exact⟨vs,by rw[e];exact q,IsL.mono R p ds vs l⟩
 | dic t kvs=>obtain⟨vs,q,l⟩:=h;exact⟨vs,by rw[e];exact q,IsL.mono R p _ vs l⟩
 | fdc t kvs ob=>obtain⟨vs,u,q,q2,l⟩:=h;exact⟨vs,u,by rw[e];exact q,q2,IsL.mono R p _ vs l⟩
theorem aN.new{o:HO}{q:Addr}(R:Rep K μ mh H)(hq:H q=none):aN μ H μ (upd H q o):=
 ⟨⟨[],by simp⟩,λb u e _=>by rw[aP (bM e hq)];exact e,λ_ h=>.inl h⟩
theorem Rep.ne(R:Rep K μ mh H){q a:Addr}(hq:H q=none)(h:a∈μ):a≠q:=by
 rintro rfl;have:=R.mut h;rw[hq]at this;exact this
theorem Rep.new{o:HO}{q:Addr}(R:Rep K μ mh H)(hq:H q=none):Rep K μ mh (upd H q o):=
 ⟨R.len,R.nd,λn a ob h1 h2=>(R.obj n a ob h1 h2).mono R (aN.new R hq) (aP (R.ne hq (aGo h1)))⟩
theorem aN.MU{q:Addr}{o:HO}(R:Rep K μ mh H)(hq:H q=none):aN μ H (μ++[q]) (upd H q o):=
 ⟨⟨[q],rfl⟩,λb u e _=>by rw[aP (bM e hq)];exact e,λa h=>by
  rcases aGh.mp h with h | h
  ·exact .inl h
  ·simp at h;subst h;exact .inr hq⟩
theorem Rep.MU{q:Addr}{vs:List V}{ds:List D}(R:Rep K μ mh H)(hq:H q=none)(l:IsL K μ H ds vs):Rep K (μ++[q]) (mh++[.lst ds]) (upd H q (.lst vs)):=by
 have P:aN μ H (μ++[q]) (upd H q (.lst vs)):=aN.MU R hq;refine⟨by simp[R.len],?_,λn a ob h1 h2=>?_⟩
 ·rw[List.nodup_append];refine⟨R.nd,by simp,λa ha b hb=>?_⟩;simp at hb;subst hb;exact R.ne hq ha
 ·by_cases hn:n<μ.length
  ·rw[List.getElem?_append_left hn]at h1;rw[List.getElem?_append_left (by rw[<-R.len];exact hn)]at h2;exact(R.obj n a ob h1 h2).mono R P (aP (R.ne hq (aGo h1)))
  ·rw[List.getElem?_append_right (by lia)]at h1;rw[List.getElem?_append_right (by rw[<-R.len];lia)]at h2
   have hz:n-μ.length=0:=by
    have:=(aGc.mp h1).1;simp at this;lia
   rw[hz]at h1;rw[<-R.len,hz]at h2;simp at h1 h2;subst h1 h2;exact⟨vs,bK,l.mono R P⟩
theorem aN.set{n:Nat}{a:Addr}{o:HO}(R:Rep K μ mh H)(h:μ[n]? =some a):aN μ H μ (upd H a o):=
 ⟨⟨[],by simp⟩,λb u e hb=>by rw[aP (λz=>hb (by rw[z];exact List.mem_of_getElem? h))];exact e,λ_ h=>.inl h⟩
theorem MV{n m:Nat}{a:Addr}(nd:μ.Nodup)(h1:μ[n]? =some a)(h2:μ[m]? =some a):n=m:=by
 obtain⟨l1,e1⟩:=aGc.mp h1;obtain⟨l2,e2⟩:=aGc.mp h2;exact(List.getElem_inj nd).mp (e1.trans e2.symm)
theorem Rep.set{n:Nat}{a:Addr}{ds:List D}{vs:List V}(R:Rep K μ mh H)(h:μ[n]? =some a)(l:IsL K μ H ds vs):Rep K μ (mh.set n (.lst ds)) (upd H a (.lst vs)):=by
 have P:aN μ H μ (upd H a (.lst vs)):=aN.set R h;refine⟨by simp[R.len],R.nd,λm b ob h1 h2=>?_⟩;by_cases hm:m=n
 ·subst hm;rw[h]at h1;cases h1;have hl:m<mh.length:=by rw[<-R.len];exact(aGc.mp h).1
  rw[List.getElem?_set_self hl]at h2;cases h2;exact⟨vs,bK,l.mono R P⟩
 ·rw[List.getElem?_set_ne (Ne.symm hm)]at h2;exact(R.obj m b ob h1 h2).mono R P (aP λz=>hm (MV R.nd h1 (by rw[z];exact h)))
end
abbrev DK:=D->MH->Prop
abbrev WE:=d7->MH->DK->Prop
def Fin(K:aKd)(μ:List Addr)(H:Hp)(R:DK)(Q:VK):Prop:=
 ∀d mh',R d mh' ->∀μ' v H',aN μ H μ' H' ->Rep K μ' mh' H' ->Is K μ' H' d v->Q v H'
def tL(K:aKd)(w:WE):TE:=λσ H Q=>∃μ ρ mh R,Rep K μ mh H/\cA K μ H ρ σ/\w ρ mh R/\Fin K μ H R Q
def LE(X:Cx)(e:Expr)(w:WE):Prop:=PE X e (tL X.K w)
theorem PE.imp{X:Cx}{e:Expr}{t t' :TE}(h:PE X e t)(i:∀σ H Q,t' σ H Q->t σ H Q):PE X e t' :=λpins s σ H Q I q=>h pins s σ H Q I (i σ H Q q)
theorem Fin.at{K:aKd}{μ μ1:List Addr}{H H1:Hp}{R:DK}{Q:VK}(F:Fin K μ H R Q)(P:aN μ H μ1 H1):Fin K μ1 H1 R Q:=
 λd mh' r μ' v H' P' R' I=>F d mh' r μ' v H' (P.trans P') R' I
def aB(i:Nat):WE:=λρ mh Q=>∃d,ρ[i]? =some (some d)/\Q d mh
def wC(d:D):WE:=λ_ mh Q=>Q d mh
section
variable {X:Cx}{a b c:Expr}{wa wb wc:WE}{pos:Pos}
theorem XX(i:Nat){x:Str}(hN:X.N[i]? =some x:=by rfl)(hv:Vis X.env.scope x:=by first | exact Or.inl rfl | exact Or.inr (Or.inl rfl) | exact Or.inr (Or.inr rfl))(hd:(x==("__debug__":Str))=false:=by decide)
  (hcd:(x==("__classdict__":Str))=false:=by decide):LE X (.Name x pos) (aB i):=PE.imp (V7 hN hv hd hcd) λσ H Q h=>by
 obtain⟨μ,ρ,mh,R,r,E,⟨d,hd,hR⟩,F⟩:=h;obtain⟨v,e,i⟩:=E.2 _ d hd;exact⟨v,e,F d mh hR μ v H aN.refl r i⟩
theorem SK{e:Expr}{v:V}{d:D}(h:PE X e (tC v))(hI:∀μ H,Is X.K μ H d v):LE X e (wC d):=PE.imp h λσ H Q h=>by
 obtain⟨μ,ρ,mh,R,r,E,hR,F⟩:=h;exact F d mh hR μ v H aN.refl r (hI μ H)
theorem le_int{i:Int}{j}:LE X (.Constant (.int i) j pos) (wC (.int i)):=SK WH λ_ _=>by unfold Is;rfl
theorem aCc{i:Bool}{j}:LE X (.Constant (.bool i) j pos) (wC (.bl i)):=SK aBk λ_ _=>by unfold Is;rfl
theorem SF{x:Str}{d:D}{v:V}{u:Value}(hg:Gl X x)(hm:X.mg x=some u)(r:RelV v u)(hI:∀μ H,Is X.K μ H d v)(hd:(x==("__debug__":Str))=false:=by decide):LE X (.Name x pos) (wC d):=SK (Q6 hg hm r hd) hI
theorem SD{x:Str}{T:String}(hg:Gl X x)(hm:X.mg x=none)(hv:bootBuiltins x=some (.type T))(hn:x≠ "__name__":=by decide)(hd:(x==("__debug__":Str))=false:=by decide):LE X (.Name x pos) (wC (.ty T)):=
 SK (Q9 (v:= .ty T) hg hm hv rfl hn hd) λ_ _=>by unfold Is;rfl
abbrev O1:=D->MH->DK->Prop
abbrev O2:=D->D->MH->DK->Prop
def bP(K:aKd)(f:O2):R2:=λx y H Q=>∃μ mh dx dy R,Rep K μ mh H/\Is K μ H dx x/\Is K μ H dy y/\f dx dy mh R/\Fin K μ H R Q
def NC(K:aKd)(f:O1):V->Hp->VK->Prop:=λx H Q=>∃μ mh dx R,Rep K μ mh H/\Is K μ H dx x/\f dx mh R/\Fin K μ H R Q
def bA(f:O2)(wa wb:WE):WE:=λρ mh Q=>wa ρ mh λx mh1=>wb ρ mh1 λy mh2=>f x y mh2 Q
def rE(f:O1)(wa:WE):WE:=λρ mh Q=>wa ρ mh λx mh1=>f x mh1 Q
theorem GS{K:aKd}{f:O2}{σ:L2.St}{H:Hp}{Q:VK}(h:tL K (bA f wa wb) σ H Q):tOp (bP K f) (tL K wa) (tL K wb) σ H Q:=by
 obtain⟨μ,ρ,mh,R,RR,E,h,F⟩:=h;refine⟨μ,ρ,mh,_,RR,E,h,λdx mh1 h1 μ1 vx H1 P1 R1 I1=>⟨μ1,ρ,mh1,_,R1,E.mono RR P1,h1,λdy mh2 h2 μ2 vy H2 P2 R2 I2=>?_⟩⟩;exact⟨μ2,mh2,dx,dy,R,R2,Is.mono R1 P2 dx vx I1,I2,h2,F.at (P1.trans P2)⟩
theorem aAl{K:aKd}{f:O1}{σ:L2.St}{H:Hp}{Q:VK}(h:tL K (rE f wa) σ H Q):tUn (NC K f) (tL K wa) σ H Q:=by
 obtain⟨μ,ρ,mh,R,RR,E,h,F⟩:=h;exact⟨μ,ρ,mh,_,RR,E,h,λdx mh1 h1 μ1 vx H1 P1 R1 I1=>⟨μ1,mh1,dx,R,R1,I1,h1,F.at P1⟩⟩
theorem aC5{op:Operator}{f:O2}(ho:d8 X (binaryOp op) (bP X.K f))(ha:LE X a wa)(hb:LE X b wb):LE X (.BinOp a op b pos) (bA f wa wb):=PE.imp (aBg ho ha hb) λ_ _ _ h=>GS h
theorem aC3{op:UnaryOp}{f:O1}(ho:UnR X (unaryOp op) (NC X.K f))(ha:LE X a wa):LE X (.UnaryOp op a pos) (rE f wa):=PE.imp (aBf ho ha) λ_ _ _ h=>aAl h
theorem X5{op:CmpOp}{f:O2}(ho:d8 X (compareOp op) (bP X.K f))(ha:LE X a wa)(hb:LE X b wb)(hm:behindInMarks op b=false):LE X (.Compare a [op] [b] pos) (bA f wa wb):=PE.imp (Q8 ho ha hb hm) λ_ _ _ h=>GS h
theorem UK{f:O2}(ho:UX X (bP X.K f))(ha:LE X a wa)(hb:LE X b wb)(hs:HP b):LE X (.Subscript a b pos) (bA f wa wb):=PE.imp (aBi ho ha hb hs) λ_ _ _ h=>GS h
abbrev WT:=d7->MH->(Bool->MH->Prop)->Prop
def TU(K:aKd)(μ:List Addr)(H:Hp)(R:Bool->MH->Prop)(Q:Bool->Hp->Prop):Prop:=
 ∀b mh',R b mh' ->∀μ' H',aN μ H μ' H' ->Rep K μ' mh' H' ->Q b H'
def LC(K:aKd)(w:WT):TT:=λσ H Q=>∃μ ρ mh R,Rep K μ mh H/\cA K μ H ρ σ/\w ρ mh R/\TU K μ H R Q
def LT(X:Cx)(e:Expr)(w:WT):Prop:=PT X e (LC X.K w)
def LW(X:Cx)(e:Expr)(w:WT):Prop:=PW X e (LC X.K w)
theorem PT.imp{X:Cx}{e:Expr}{t t' :TT}(h:PT X e t)(i:∀σ H Q,t' σ H Q->t σ H Q):PT X e t' :=λpins s σ H Q I q=>h pins s σ H Q I (i σ H Q q)
theorem PW.imp{X:Cx}{e:Expr}{t t' :TT}(h:PW X e t)(i:∀σ H Q,t' σ H Q->t σ H Q):PW X e t' :=λwh pins s σ H Q I q=>h wh pins s σ H Q I (i σ H Q q)
theorem TU.at{K:aKd}{μ μ1:List Addr}{H H1:Hp}{R:Bool->MH->Prop}{Q:Bool->Hp->Prop}(F:TU K μ H R Q)(P:aN μ H μ1 H1):TU K μ1 H1 R Q:=
 λb mh' r μ' H' P' R' =>F b mh' r μ' H' (P.trans P') R'
def dU(w:WE):WT:=λρ mh Q=>w ρ mh λx mh1=>∃k,x= .bl k/\Q k mh1
theorem VC{K:aKd}{t:TE}{w:WE}{σ:L2.St}{H:Hp}{Q:Bool->Hp->Prop}(i:∀σ H Q,tL K w σ H Q->t σ H Q)(h:LC K (dU w) σ H Q):T7 t σ H Q:=by
 obtain⟨μ,ρ,mh,R,RR,E,h,F⟩:=h;refine i σ H _ ⟨μ,ρ,mh,_,RR,E,h,λdx mh1 h1 μ1 vx H1 P1 R1 I1=>?_⟩;obtain⟨k,rfl,h1⟩:=h1;unfold Is at I1;exact⟨k,I1,F k mh1 h1 μ1 H1 P1 R1⟩
theorem XI{op:CmpOp}{f:O2}(ho:d8 X (compareOp op) (bP X.K f))(ha:LE X a wa)(hb:LE X b wb)(hm:behindInMarks op b=false):LT X (.Compare a [op] [b] pos) (dU (bA f wa wb)):=
 PT.imp (QU ho ha hb hm) λ_ _ _ h=>VC (λ_ _ _ z=>GS z) h
def iO(mh:MH):D->Option Bool
 | .b6=>some false
 | .bl b=>some b
 | .int i=>some (i !=0)
 | .str y=>if y.length<=sizeLine then some ((y.length:Int) !=0) else none
 | .tup ds=>some !ds.isEmpty
 | .fl ds=>some !ds.isEmpty
 | .ref n=>match mh[n]? with | some (.lst ds)=>some !ds.isEmpty | _=>none
 | .ty _=>none
theorem aK{K:aKd}{μ:List Addr}{H:Hp}:∀{ds:List D} {vs:List V},IsL K μ H ds vs->vs.length=ds.length
 | [],vs,h=>by unfold IsL at h;subst h;rfl
 | d::ds,vs,h=>by unfold IsL at h;obtain⟨v,r,rfl,_,l⟩:=h;simp[aK l]
theorem zS{K:aKd}{μ:List Addr}{H:Hp}{ds:List D}{vs:List V}(h:IsL K μ H ds vs):vs.isEmpty=ds.isEmpty:=by
 have:=aK h;cases vs <;> cases ds <;> simp_all
theorem VE{K:aKd}{μ:List Addr}{mh:MH}{H:Hp}{d:D}{v:V}{k:Bool}(R:Rep K μ mh H)(h:Is K μ H d v)(e:iO mh d=some k):ZQ K v H k:=by
 cases d with
 | b6=>unfold Is at h;subst h;simp[iO]at e;subst e;rfl
 | bl b=>unfold Is at h;subst h;simp[iO]at e;subst e;rfl
 | int i=>unfold Is at h;subst h;simp[iO]at e;subst e;rfl
 | str y=>
  unfold Is at h;subst h;simp only[iO]at e;split at e
  ·rename_i hl;exact⟨hl,(aGv e).symm⟩
  ·cases e
 | ty n=>simp[iO]at e
 | tup ds=>
  unfold Is at h;obtain⟨a,vs,rfl,s,l⟩:=h;obtain rfl:(!ds.isEmpty)=k:=aGv e;exact .inr (.inl ⟨vs,s,by rw[zS l]⟩)
 | fl ds=>
  unfold Is at h;obtain⟨a,vs,rfl,s,l⟩:=h;obtain rfl:(!ds.isEmpty)=k:=aGv e;exact .inl ⟨vs,s.sq,by rw[zS l]⟩
 | ref n=>
  unfold Is at h;obtain⟨a,q,rfl⟩:=h;simp only[iO]at e
  cases o:mh[n]? with
  | none=>rw[o]at e;cases e
  | some ob=>
   cases ob with
   | lst ds=>
    rw[o]at e;cases e;obtain⟨vs,hv,l⟩:=R.obj n a _ q o;exact .inl ⟨vs,.of hv,by rw[zS l]⟩
   | dic t kvs=>rw[o]at e;cases e
   | fdc t kvs ob=>rw[o]at e;cases e
def r8(w:WE):WT:=λρ mh Q=>w ρ mh λx mh1=>∃k,iO mh1 x=some k/\Q k mh1
theorem M7(ha:LE X a wa)(he:∀whole,isTrue a X.env whole=(do let v<-whole;standAt a.pos;holding [v] (truthy v)):=by intro _;rfl):LT X a (r8 wa):=PT.imp (L5 ha he) λσ H Q h=>by
 obtain⟨μ,ρ,mh,R,RR,E,h,F⟩:=h;refine⟨μ,ρ,mh,_,RR,E,h,λdx mh1 h1 μ1 vx H1 P1 R1 I1=>?_⟩;obtain⟨k,e,h1⟩:=h1;exact⟨k,VE R1 I1 e,F k mh1 h1 μ1 H1 P1 R1⟩
def rG(t u:WT):WT:=λρ mh Q=>t ρ mh λc mh1=>if c=true then u ρ mh1 Q else Q false mh1
def K5(t u:WT):WT:=λρ mh Q=>t ρ mh λc mh1=>if c=true then Q true mh1 else u ρ mh1 Q
def tG(t:WT):WT:=λρ mh Q=>t ρ mh λc mh1=>Q (!c) mh1
variable {ta tb:WT}{rest:List Expr}
theorem RQ(ha:LT X a ta):LW X (.BoolOp .And [a] pos) ta:=QP ha
theorem XF(ha:LT X a ta):LW X (.BoolOp .Or [a] pos) ta:=VW ha
theorem M6(ha:LT X a ta)(hb:LW X (.BoolOp .And (b::rest) pos) tb):LW X (.BoolOp .And (a::b::rest) pos) (rG ta tb):=PW.imp (VX ha hb) λσ H Q h=>by
 obtain⟨μ,ρ,mh,R,RR,E,h,F⟩:=h;refine⟨μ,ρ,mh,_,RR,E,h,λc mh1 h1 μ1 H1 P1 R1=>?_⟩
 cases c with
 | true=>rw[if_pos rfl]at h1⊢;exact⟨μ1,ρ,mh1,R,R1,E.mono RR P1,h1,F.at P1⟩
 | false=>rw[if_neg Bool.false_ne_true]at h1⊢;exact F false mh1 h1 μ1 H1 P1 R1
theorem aBx(ha:LT X a ta)(hb:LW X (.BoolOp .Or (b::rest) pos) tb):LW X (.BoolOp .Or (a::b::rest) pos) (K5 ta tb):=PW.imp (aBc ha hb) λσ H Q h=>by
 obtain⟨μ,ρ,mh,R,RR,E,h,F⟩:=h;refine⟨μ,ρ,mh,_,RR,E,h,λc mh1 h1 μ1 H1 P1 R1=>?_⟩
 cases c with
 | true=>rw[if_pos rfl]at h1⊢;exact F true mh1 h1 μ1 H1 P1 R1
 | false=>rw[if_neg Bool.false_ne_true]at h1⊢;exact⟨μ1,ρ,mh1,R,R1,E.mono RR P1,h1,F.at P1⟩
theorem LW.lt(h:LW X a ta):LT X a ta:=PW.pt h
theorem XH(ha:LT X a ta):LT X (.UnaryOp .Not a pos) (tG ta):=PT.imp (VY ha) λσ H Q h=>by
 obtain⟨μ,ρ,mh,R,RR,E,h,F⟩:=h;exact⟨μ,ρ,mh,_,RR,E,h,λc mh1 h1 μ1 H1 P1 R1=>F (!c) mh1 h1 μ1 H1 P1 R1⟩
def wM(wa wb:WE):WE:=λρ mh Q=>wa ρ mh λx mh1=>∃c,x= .bl c/\if c=true then wb ρ mh1 Q else Q (.bl false) mh1
theorem X0{op}(ha:LE X a wa):LE X (.BoolOp op [a] pos) wa:=V9 ha
theorem X6(ha:LE X a wa)(hb:LE X (.BoolOp .And (b::rest) pos) wb):LE X (.BoolOp .And (a::b::rest) pos) (wM wa wb):=PE.imp (WJ ha hb) λσ H Q h=>by
 obtain⟨μ,ρ,mh,R,RR,E,h,F⟩:=h;refine⟨μ,ρ,mh,_,RR,E,h,λdx mh1 h1 μ1 vx H1 P1 R1 I1=>?_⟩;obtain⟨c,rfl,h1⟩:=h1;unfold Is at I1;refine⟨c,I1,?_⟩
 cases c with
 | true=>rw[if_pos rfl]at h1⊢;exact⟨μ1,ρ,mh1,R,R1,E.mono RR P1,h1,F.at P1⟩
 | false=>rw[if_neg Bool.false_ne_true]at h1⊢;exact F _ mh1 h1 μ1 _ H1 P1 R1 (by unfold Is;rfl)
def GB(wa:WE):WE:=λρ mh Q=>wa ρ mh λx mh1=>∃c,x= .bl c/\Q (.bl !c) mh1
theorem X1(ha:LE X a wa):LE X (.UnaryOp .Not a pos) (GB wa):=PE.imp (WB ha) λσ H Q h=>by
 obtain⟨μ,ρ,mh,R,RR,E,h,F⟩:=h;refine⟨μ,ρ,mh,_,RR,E,h,λdx mh1 h1 μ1 vx H1 P1 R1 I1=>?_⟩;obtain⟨c,rfl,h1⟩:=h1;unfold Is at I1;exact⟨c,I1,F _ mh1 h1 μ1 _ H1 P1 R1 (by unfold Is;rfl)⟩
def wIf(t:WT)(wa wb:WE):WE:=λρ mh Q=>t ρ mh λc mh1=>if c=true then wa ρ mh1 Q else wb ρ mh1 Q
theorem NF(hc:LT X c ta)(ha:LE X a wa)(hb:LE X b wb):LE X (.IfExp c a b pos) (wIf ta wa wb):=PE.imp (MG hc ha hb) λσ H Q h=>by
 obtain⟨μ,ρ,mh,R,RR,E,h,F⟩:=h;refine⟨μ,ρ,mh,_,RR,E,h,λk mh1 h1 μ1 H1 P1 R1=>?_⟩
 cases k with
 | true=>rw[if_pos rfl]at h1⊢;exact⟨μ1,ρ,mh1,R,R1,E.mono RR P1,h1,F.at P1⟩
 | false=>rw[if_neg Bool.false_ne_true]at h1⊢;exact⟨μ1,ρ,mh1,R,R1,E.mono RR P1,h1,F.at P1⟩
end
abbrev WA:=d7->MH->(List D->MH->Prop)->Prop
def FinA(K:aKd)(μ:List Addr)(H:Hp)(R:List D->MH->Prop)(Q:List V->Hp->Prop):Prop:=
 ∀ds mh',R ds mh' ->∀μ' vs H',aN μ H μ' H' ->Rep K μ' mh' H' ->IsL K μ' H' ds vs->Q vs H'
def tLA(K:aKd)(w:WA):TA:=λσ H Q=>∃μ ρ mh R,Rep K μ mh H/\cA K μ H ρ σ/\w ρ mh R/\FinA K μ H R Q
def LA(X:Cx)(es:List Expr)(w:WA):Prop:=PA X es (tLA X.K w)
theorem PA.imp{X:Cx}{e:List Expr}{t t' :TA}(h:PA X e t)(i:∀σ H Q,t' σ H Q->t σ H Q):PA X e t' :=λpos pins s σ H Q I q=>h pos pins s σ H Q I (i σ H Q q)
def aF:WA:=λ_ mh Q=>Q [] mh
def aA(w:WE)(wr:WA):WA:=λρ mh Q=>w ρ mh λx mh1=>wr ρ mh1 λxs mh2=>Q (x::xs) mh2
def W9(ds:List D)(mh:MH)(Q:DK):Prop:=ds.length<=sizeLine/\Q (.tup ds) mh
def ER(ds:List D)(mh:MH)(Q:DK):Prop:=ds.length<=sizeLine/\Q (.ref mh.length) (mh++[.lst ds])
section
variable {K:aKd}{μ:List Addr}{mh:MH}{H:Hp}{R:DK}{Q:VK}{ds:List D}{vs:List V}
theorem mN(RR:Rep K μ mh H)(F:Fin K μ H R Q)(l:IsL K μ H ds vs)(h:R (.tup ds) mh):∀p,H p=none->Q (.ref p) (upd H p (.tup vs)):=λp hp=>
 F _ mh h μ _ _ (aN.new RR hp) (RR.new hp) (by unfold Is;exact⟨p,vs,rfl,.of bK,IsL.mono RR (aN.new RR hp) ds vs l⟩)
theorem iH(RR:Rep K μ mh H)(F:Fin K μ H R Q)(l:IsL K μ H ds vs)(h:R (.ref mh.length) (mh++[.lst ds])):∀p,H p=none->Q (.ref p) (upd H p (.lst vs)):=λp hp=>
 F _ _ h (μ++[p]) _ _ (aN.MU RR hp) (RR.MU hp l) (by unfold Is;exact⟨p,by rw[<-RR.len];simp,rfl⟩)
end
def dH(w:WA):WE:=λρ mh Q=>w ρ mh λds mh1=>W9 ds mh1 Q
def nW(w:WA):WE:=λρ mh Q=>w ρ mh λds mh1=>ER ds mh1 Q
section
variable {X:Cx}{e:Expr}{es:List Expr}{w:WE}{wr:WA}{pos:Pos}
theorem YA:LA X [] aF:=PA.imp EK λσ H Q h=>by
 obtain⟨μ,ρ,mh,R,RR,E,h,F⟩:=h;exact F [] mh h μ [] H aN.refl RR (by unfold IsL;rfl)
theorem SN(ha:LE X e w)(hr:LA X es wr)(hs:starEach (e::es) X.env=(false,eval e X.env)::starEach es X.env:=by rfl):LA X (e::es) (aA w wr):=PA.imp (zA ha hr hs) λσ H Q h=>by
 obtain⟨μ,ρ,mh,R,RR,E,h,F⟩:=h;refine⟨μ,ρ,mh,_,RR,E,h,λdx mh1 h1 μ1 vx H1 P1 R1 I1=>⟨μ1,ρ,mh1,_,R1,E.mono RR P1,h1,λds mh2 h2 μ2 vs H2 P2 R2 I2=>?_⟩⟩;exact F _ mh2 h2 μ2 _ H2 (P1.trans P2) R2 (by unfold IsL;exact⟨vx,vs,rfl,Is.mono R1 P2 dx vx I1,I2⟩)
theorem XY{x1}(h:LA X es wr):LE X (.Tuple es x1 pos) (dH wr):=PE.imp (V8 h) λσ H Q h=>by
 obtain⟨μ,ρ,mh,R,RR,E,h,F⟩:=h;refine⟨μ,ρ,mh,_,RR,E,h,λds mh1 h1 μ1 vs H1 P1 R1 I1=>⟨by rw[aK I1];exact h1.1,mN R1 (F.at P1) I1 h1.2⟩⟩
theorem X2(h:LA X es wr):LE X (.List es pos) (nW wr):=PE.imp (WC h) λσ H Q h=>by
 obtain⟨μ,ρ,mh,R,RR,E,h,F⟩:=h;refine⟨μ,ρ,mh,_,RR,E,h,λds mh1 h1 μ1 vs H1 P1 R1 I1=>⟨by rw[aK I1];exact h1.1,iH R1 (F.at P1) I1 h1.2⟩⟩
abbrev OA:=List D->MH->DK->Prop
def fN(K:aKd)(f:OA):List V->Hp->VK->Prop:=λxs H Q=>∃μ mh ds R,Rep K μ mh H/\IsL K μ H ds xs/\f ds mh R/\Fin K μ H R Q
def aG(f:OA)(w:WA):WE:=λρ mh Q=>w ρ mh λds mh1=>f ds mh1 Q
theorem call_in{K:aKd}{f:OA}{σ:L2.St}{H:Hp}{Q:VK}(h:tL K (aG f wr) σ H Q):tCB (fN K f) (tLA K wr) σ H Q:=by
 obtain⟨μ,ρ,mh,R,RR,E,h,F⟩:=h;exact⟨μ,ρ,mh,_,RR,E,h,λds mh1 h1 μ1 vs H1 P1 R1 I1=>⟨μ1,mh1,ds,R,R1,I1,h1,F.at P1⟩⟩
theorem NI{x:Str}{p:Pos}{id:String}{f:OA}(hc:cS X (.builtin id) (fN X.K f))(hg:Gl X x)(hm:X.mg x=none)(hv:bootBuiltins x=some (.builtin id))(ha:LA X (e::es) wr)(hn:x≠ "__name__":=by decide)(hdb:(x==("__debug__":Str))=false:=by decide)
  (he:starEach (e::es) X.env=(false,eval e X.env)::starEach es X.env:=by rfl) (hpl:(backTo pos (starEach es X.env)).any (·.1)=false:=by rfl):LE X (.Call (.Name x p) (e::es) [] pos) (aG f wr):=
 PE.imp (BS hc hg hm hv ha hn hdb he hpl) λ_ _ _ h=>call_in h
theorem IZ{x:Str}{p:Pos}{T:String}{f:OA}(hc:cS X (.type T) (fN X.K f))(hg:Gl X x)(hm:X.mg x=none)(hv:bootBuiltins x=some (.type T))(ha:LA X (e::es) wr)(hn:x≠ "__name__":=by decide)(hdb:(x==("__debug__":Str))=false:=by decide)
  (he:starEach (e::es) X.env=(false,eval e X.env)::starEach es X.env:=by rfl) (hpl:(backTo pos (starEach es X.env)).any (·.1)=false:=by rfl):LE X (.Call (.Name x p) (e::es) [] pos) (aG f wr):=
 PE.imp (xH hc hg hm hv ha hn hdb he hpl) λ_ _ _ h=>call_in h
def LD(K:aKd)(f:OA):Sp:=λvs H Q _=>fN K f vs H Q
theorem SJ{k:Nat}{f:Addr}{fd:FuncData}{ps:List Str}{x:Str}{p:Pos}{s:OA}(F:iU X.prog X.w X.K X.mg X.base AY k f fd ps (LD X.K s))(hr:fR k X.A)(hg:Gl X x)(hm:X.mg x=some (.ref f))(hk:PySem.W.keepIn X.K (.ref f)=true)(hb:Binds X.K fd ps [])
  (ha:LA X (e::es) wr) (hdb:(x==("__debug__":Str))=false:=by decide) (he:starEach (e::es) X.env=(false,eval e X.env)::starEach es X.env:=by rfl) (hpl:(backTo pos (starEach es X.env)).any (·.1)=false:=by rfl):
  LE X (.Call (.Name x p) (e::es) [] pos) (aG s wr):=PE.imp (GQ F hr hg hm hk hb .nil UG ha hdb he hpl) λσ H Q h=>by
 obtain⟨μ,ρ,mh,R,RR,E,h,Fi⟩:=h;refine⟨μ,ρ,mh,_,RR,E,h,λds mh1 h1 μ1 vs H1 P1 R1 I1=>?_⟩;show fN X.K s (vs++[]) H1 Q;rw[List.append_nil];exact⟨μ1,mh1,ds,R,R1,I1,h1,Fi.at P1⟩
end
section
variable {K:aKd}{μ:List Addr}{mh:MH}{H:Hp}
theorem Is.int{i:Int}:Is K μ H (.int i) (.int i):=by unfold Is;rfl
theorem Is.str{i:Str}:Is K μ H (.str i) (.str i):=by unfold Is;rfl
theorem Is.bl{i:Bool}:Is K μ H (.bl i) (.bl i):=by unfold Is;rfl
theorem Is.b6:Is K μ H .b6 .b6:=by unfold Is;rfl
theorem bO{i:Int}{v:V}(h:Is K μ H (.int i) v):v= .int i:=by unfold Is at h;exact h
theorem eU{i:Str}{v:V}(h:Is K μ H (.str i) v):v= .str i:=by unfold Is at h;exact h
theorem NS{i:Bool}{v:V}(h:Is K μ H (.bl i) v):v= .bl i:=by unfold Is at h;exact h
theorem NR{v:V}(h:Is K μ H .b6 v):v= .b6:=by unfold Is at h;exact h
theorem eG{ds:List D}{v:V}(h:Is K μ H (.tup ds) v):∃a vs,v= .ref a/\oG K H a vs/\IsL K μ H ds vs:=by unfold Is at h;exact h
theorem pO{ds:List D}{v:V}(h:Is K μ H (.fl ds) v):∃a vs,v= .ref a/\PJ K H a vs/\IsL K μ H ds vs:=by unfold Is at h;exact h
theorem n9{n:Nat}{v:V}(h:Is K μ H (.ref n) v):∃a,μ[n]? =some a/\v= .ref a:=by unfold Is at h;exact h
theorem eI:∀{ds:List D} {vs:List V} {i:Nat} {d:D},IsL K μ H ds vs->ds[i]? =some d->∃v,vs[i]? =some v/\Is K μ H d v
 | [],_,_,_,_,e=>by simp at e
 | x::ds,vs,i,d,h,e=>by
  unfold IsL at h;obtain⟨v,r,rfl,q,l⟩:=h
  cases i with
  | zero=>simp at e;subst e;exact⟨v,rfl,q⟩
  | succ i=>obtain⟨u,h1,h2⟩:=eI (i:=i) l (by simpa using e);exact⟨u,by simpa using h1,h2⟩
theorem eJ:∀{ds es:List D} {vs us:List V},IsL K μ H ds vs->IsL K μ H es us->IsL K μ H (ds++es) (vs++us)
 | [],es,vs,us,h,q=>by unfold IsL at h;subst h;exact q
 | d::ds,es,vs,us,h,q=>by
  unfold IsL at h;obtain⟨v,r,rfl,i,l⟩:=h;show IsL K μ H (d::(ds++es)) (v::(r++us));unfold IsL;exact⟨v,_,rfl,i,eJ l q⟩
theorem jN{d:D}{v:V}(h:Is K μ H d v):IsL K μ H [d] [v]:=by unfold IsL;exact⟨v,[],rfl,h,by unfold IsL;rfl⟩
theorem CL:∀(n:Nat) {ds:List D} {vs:List V},IsL K μ H ds vs->IsL K μ H (ds.drop n) (vs.drop n)
 | 0,_,_,h=>by simpa using h
 | n+1,[],vs,h=>by unfold IsL at h;subst h;simp[IsL]
 | n+1,d::ds,vs,h=>by unfold IsL at h;obtain⟨v,r,rfl,_,l⟩:=h;simpa using CL n l
theorem CJ:∀(n:Nat) {ds:List D} {vs:List V},IsL K μ H ds vs->IsL K μ H (ds.take n) (vs.take n)
 | 0,_,_,h=>by simp[IsL]
 | n+1,[],vs,h=>by unfold IsL at h;subst h;simp[IsL]
 | n+1,d::ds,vs,h=>by
  unfold IsL at h;obtain⟨v,r,rfl,i,l⟩:=h;simp only[List.take_succ_cons];unfold IsL;exact⟨v,_,rfl,i,CJ n l⟩
theorem G9:∀(n:Nat) {ds:List D} {vs:List V} {d:D} {v:V},Is K μ H d v->IsL K μ H ds vs->IsL K μ H (ds.set n d) (vs.set n v)
 | n,[],vs,d,v,_,h=>by unfold IsL at h;subst h;simp[IsL]
 | 0,x::ds,vs,d,v,i,h=>by unfold IsL at h;obtain⟨u,r,rfl,_,l⟩:=h;simp only[List.set_cons_zero];unfold IsL;exact⟨v,r,rfl,i,l⟩
 | n+1,x::ds,vs,d,v,i,h=>by unfold IsL at h;obtain⟨u,r,rfl,q,l⟩:=h;simp only[List.set_cons_succ];unfold IsL;exact⟨u,_,rfl,q,G9 n i l⟩
theorem YN{ds:List D}{vs:List V}{i:Int}{d:D}(l:IsL K μ H ds vs)(e:nR ds i=some d):∃v,nR vs i=some v/\Is K μ H d v:=by
 unfold nR at*;rw[aK l]
 cases q:E5 ds.length i with
 | none=>rw[q]at e;cases e
 | some j=>rw[q]at e;exact eI l e
def bG(mh:MH):D->Option (List D)
 | .tup ds=>some ds
 | .fl ds=>some ds
 | .ref n=>match mh[n]? with | some (.lst ds)=>some ds | _=>none
 | _=>none
theorem yV{d:D}{v:V}{ds:List D}(R:Rep K μ mh H)(h:Is K μ H d v)(e:bG mh d=some ds):∃a vs,v= .ref a/\(oH K H a vs\/oG K H a vs)/\IsL K μ H ds vs:=by
 cases d with
 | tup es=>obtain⟨a,vs,rfl,s,l⟩:=eG h;cases e;exact⟨a,vs,rfl,.inr s,l⟩
 | fl es=>obtain⟨a,vs,rfl,s,l⟩:=pO h;cases e;exact⟨a,vs,rfl,.inl s.sq,l⟩
 | ref n=>
  obtain⟨a,q,rfl⟩:=n9 h;simp only[bG]at e
  cases o:mh[n]? with
  | none=>rw[o]at e;cases e
  | some ob=>
   cases ob with
   | lst es=>
    rw[o]at e;cases e;obtain⟨vs,hv,l⟩:=R.obj n a _ q o;exact⟨a,vs,rfl,.inl (.of hv),l⟩
   | dic t kvs=>rw[o]at e;cases e
   | fdc t kvs ob=>rw[o]at e;cases e
 | _=>cases e
def mU(mh:MH):D->Option (List D)
 | .fl ds=>some ds
 | .ref n=>match mh[n]? with | some (.lst ds)=>some ds | _=>none
 | _=>none
theorem uP{d:D}{v:V}{ds:List D}(R:Rep K μ mh H)(h:Is K μ H d v)(e:mU mh d=some ds):∃a vs,v= .ref a/\oH K H a vs/\IsL K μ H ds vs:=by
 cases d with
 | fl es=>obtain⟨a,vs,rfl,s,l⟩:=pO h;cases e;exact⟨a,vs,rfl,s.sq,l⟩
 | ref n=>
  obtain⟨a,q,rfl⟩:=n9 h;simp only[mU]at e
  cases o:mh[n]? with
  | none=>rw[o]at e;cases e
  | some ob=>
   cases ob with
   | lst es=>
    rw[o]at e;cases e;obtain⟨vs,hv,l⟩:=R.obj n a _ q o;exact⟨a,vs,rfl,.of hv,l⟩
   | dic t kvs=>rw[o]at e;cases e
   | fdc t kvs ob=>rw[o]at e;cases e
 | _=>cases e
theorem fT{n:Nat}{v:V}{ds:List D}(R:Rep K μ mh H)(h:Is K μ H (.ref n) v)(e:mh[n]? =some (.lst ds)):∃a vs,v= .ref a/\μ[n]? =some a/\H a=some (.lst vs)/\IsL K μ H ds vs:=by
 obtain⟨a,q,rfl⟩:=n9 h;obtain⟨vs,hv,l⟩:=R.obj n a _ q e;exact⟨a,vs,rfl,q,hv,l⟩
theorem Fin.here{R:DK}{Q:VK}{d:D}{v:V}(F:Fin K μ H R Q)(RR:Rep K μ mh H)(h:R d mh)(i:Is K μ H d v):Q v H:=F d mh h μ v H aN.refl RR i
theorem Fin.put{R:DK}{Q:VK}{d:D}{v:V}{n:Nat}{a:Addr}{ds:List D}{vs:List V}(F:Fin K μ H R Q)(RR:Rep K μ mh H)(hn:μ[n]? =some a)(l:IsL K μ H ds vs)(h:R d (mh.set n (.lst ds)))(i:Is K μ H d v):Q v (upd H a (.lst vs)):=
 F d _ h μ v _ (aN.set RR hn) (RR.set hn l) (Is.mono RR (aN.set RR hn) d v i)
end
def zE(C:Int->Int->Prop)(g:Int->Int->D):O2:=λx y mh Q=>∃i j,x= .int i/\y= .int j/\C i j/\Q (g i j) mh
section
variable {X:Cx}
theorem qI{f:Value->Value->Sem Value}{C:Int->Int->Prop}{g:Int->Int->V}{g' :Int->Int->D}(h:d8 X f (rI C g))(hg:∀μ H i j,Is X.K μ H (g' i j) (g i j)):d8 X f (bP X.K (zE C g')):=by
 intro pins s σ H x y v u Q I rx ry q;obtain⟨μ,mh,dx,dy,R,RR,ix,iy,⟨i,j,rfl,rfl,c,q⟩,F⟩:=q;cases bO ix;cases bO iy;exact h pins s σ H _ _ v u Q I rx ry ⟨i,j,rfl,rfl,c,F.here RR q (hg _ _ _ _)⟩
theorem UD{f:Value->Value->Sem Value}{g:Int->Int->V}(h:d8 X f (L4 g)):d8 X f (rI (λ_ _=>True) g):=λpins s σ H x y v u Q I rx ry zz0=>by obtain⟨i,j,e1,e2,_,q⟩:=zz0;exact h pins s σ H x y v u Q I rx ry ⟨i,j,e1,e2,q⟩
abbrev zD:O2:=zE (λ_ _=>True) λi j=>.int (i-j)
abbrev pH:O2:=zE KL λi j=>.int (i*j)
abbrev GU:O2:=zE aD2 λi j=>.int (i / j)
abbrev oMod:O2:=zE (λ_ j=>0<j) λi j=>.int (i % j)
abbrev ML:O2:=zE ZW λi j=>.int (i^j.toNat)
abbrev RJ:O2:=zE (λ_ _=>True) λi j=>.int (Builtin.bitAnd i j)
theorem WX:d8 X (binaryOp .Sub) (bP X.K zD):=qI (UD WM) λ_ _ _ _=>.int
theorem WZ:d8 X (binaryOp .Mult) (bP X.K pH):=qI WQ λ_ _ _ _=>.int
theorem RH:d8 X (binaryOp .FloorDiv) (bP X.K GU):=qI RC λ_ _ _ _=>.int
theorem W4:d8 X (binaryOp .Mod) (bP X.K oMod):=qI WR λ_ _ _ _=>.int
theorem WY:d8 X (binaryOp .Pow) (bP X.K ML):=qI WN λ_ _ _ _=>.int
theorem W5:d8 X (binaryOp .BitAnd) (bP X.K RJ):=qI (UD WV) λ_ _ _ _=>.int
def fK:O1:=λx mh Q=>∃i,x= .int i/\Q (.int (-i)) mh
theorem U9:UnR X (unaryOp .USub) (NC X.K fK):=by
 intro pins s σ H x v Q I rx q;obtain⟨μ,mh,dx,R,RR,ix,⟨i,rfl,q⟩,F⟩:=q;cases bO ix;exact U8 pins s σ H _ v Q I rx ⟨i,rfl,F.here RR q .int⟩
def fL:O2:=λx y mh Q=>match x with
 | .int i=>match y with | .int j=>Q (.int (i+j)) mh | _=>False
 | .str i=>match y with | .str j=>i.length+j.length<=sizeLine/\Q (.str (i++j)) mh | _=>False
 | .tup i=>match y with | .tup j=>i.length+j.length<=sizeLine/\Q (.tup (i++j)) mh | _=>False
 | .ref n=>match y with | .ref m=>∃i j,mh[n]? =some (.lst i)/\mh[m]? =some (.lst j)/\ER (i++j) mh Q | _=>False
 | _=>False
theorem OZ{prog:Program}{w:World}{A:Around}{E:aKe}{s:Shared}{t b:Addr}{ws:List Value}{Q:aKe}(ht:IsTup s.heap t ([]:List Value).toArray)(hb:IsTup s.heap b ws.toArray)
  (h:Q (.ref b) s):wpAny (model prog w) A (binaryOp .Add (.ref t) (.ref b)) Q E s:=by
 obtain⟨⟨cls,dd,data,sl⟩,ho,hc,n,hd⟩:=id ht;obtain⟨⟨cls2,dd2,data2,sl2⟩,ho2,hc2,n2,hd2⟩:=id hb;simp only at hc hd hc2 hd2;subst hc hd hc2 hd2
 exact concat_meets ⟨_,ho,rfl⟩ ⟨_,ho2,rfl⟩ noFill_tuple_add seq_tuple_add aJc aJ8 (aJ4 _ _)
   (tuple_addW0 t b _ ws.toArray n n2 dd dd2 sl sl2 (by simp)) ⟨ho,ho2,h⟩
theorem W6:d8 X (binaryOp .Add) (bP X.K fL):=by
 intro pins s σ H x y v u Q I rx ry q;obtain⟨μ,mh,dx,dy,R,RR,ix,iy,q,F⟩:=q
 cases dx with
 | int i=>cases dy with
  | int j=>cases bO ix;cases bO iy;exact WW pins s σ H _ _ v u Q I rx ry ⟨i,j,rfl,rfl,F.here RR q .int⟩
  | _=>exact False.elim q
 | str i=>cases dy with
  | str j=>cases eU ix;cases eU iy;exact EL pins s σ H _ _ v u Q I rx ry ⟨i,j,rfl,rfl,q.1,F.here RR q.2 .str⟩
  | _=>exact False.elim q
 | tup i=>cases dy with
  | tup j=>
   obtain⟨a,xs,rfl,sa,la⟩:=eG ix;obtain⟨b,ys,rfl,sb,lb⟩:=eG iy;by_cases hx:xs=[]
   ·subst hx;cases rx;cases ry;obtain⟨aI,r1,p1,_⟩:=I.tuple sa;obtain⟨its2,r2,p2,_⟩:=I.tuple sb;cases r1;have hi:i=[]:=by have:=aK la;cases i <;> simp_all
    subst hi;exact OZ p1 p2 ⟨.ref b,H,I,rfl,F.here RR q.2 iy⟩
   ·refine RD pins s σ H _ _ v u Q I rx ry ⟨a,b,xs,ys,rfl,rfl,sa,sb,hx,by rw[aK la,aK lb];exact q.1,λe=>?_,λ_=>mN RR F (eJ la lb) q.2⟩;subst e;have hj:j=[]:=by have:=aK lb;cases j <;> simp_all
    subst hj;exact F.here RR q.2 (by simpa using ix)
  | _=>exact False.elim q
 | ref n=>cases dy with
  | ref m=>
   obtain⟨i,j,e1,e2,q⟩:=q;obtain⟨a,xs,rfl,_,sa,la⟩:=fT RR ix e1;obtain⟨b,ys,rfl,_,sb,lb⟩:=fT RR iy e2;exact WU pins s σ H _ _ v u Q I rx ry ⟨a,b,xs,ys,rfl,rfl,sa,sb,by rw[aK la,aK lb,<-List.length_append];exact q.1,iH RR F (eJ la lb) q.2⟩
  | _=>exact False.elim q
 | _=>exact False.elim q
def gV:O2:=λx y mh Q=>∃i,y= .int i/\match x with
 | .str z=>z.length<=sizeLine/\∃c,nR z.cps.toList i=some c/\Q (.str ⟨#[c]⟩) mh
 | _=>∃ds d,bG mh x=some ds/\nR ds i=some d/\Q d mh
theorem ixl:UX X (bP X.K gV):=by
 intro value slice pins s σ H x y v u Q I rx ry q hs;obtain⟨μ,mh,dx,dy,R,RR,ix,iy,⟨i,rfl,q⟩,F⟩:=q;cases bO iy
 have go:(∃ds d,bG mh dx=some ds/\nR ds i=some d/\R d mh)->wpAny (model X.prog X.w) X.A (subscriptTail value slice v u) (EP X pins σ Q) X.xe s:=λzz1=>by
  obtain⟨ds,d,e1,e2,q⟩:=zz1;obtain⟨a,vs,rfl,sq,l⟩:=yV RR ix e1;obtain⟨z,e3,iz⟩:=YN l e2;rcases sq with sq | sq
  ·exact SO value slice pins s σ H _ _ v u Q I rx ry ⟨a,vs,i,z,rfl,rfl,sq,e3,F.here RR q iz⟩ hs
  ·exact YI value slice pins s σ H _ _ v u Q I rx ry ⟨a,vs,i,z,rfl,rfl,sq,e3,F.here RR q iz⟩ hs
 cases dx with
 | str z=>
  obtain⟨hz,c,e,q⟩:=q;cases eU ix;exact YJ value slice pins s σ H _ _ v u Q I rx ry ⟨z,i,c,rfl,rfl,hz,e,F.here RR q .str⟩ hs
 | _=>exact go q
def aCh:D->Bool | .b6=>true | _=>false
def gH:OA:=λxs mh Q=>∃x,xs=[x]/\match x with
 | .str z=>z.length<=sizeLine/\Q (.int z.length) mh
 | _=>∃ds,bG mh x=some ds/\Q (.int ds.length) mh
theorem nK{K:aKd}{μ:List Addr}{H:Hp}{d:D}{vs:List V}(h:IsL K μ H [d] vs):∃v,vs=[v]/\Is K μ H d v:=by
 unfold IsL at h;obtain⟨v,r,rfl,i,l⟩:=h;unfold IsL at l;subst l;exact⟨v,rfl,i⟩
theorem HB{K:aKd}{μ:List Addr}{H:Hp}{d e:D}{vs:List V}(h:IsL K μ H [d,e] vs):∃v u,vs=[v,u]/\Is K μ H d v/\Is K μ H e u:=by
 unfold IsL at h;obtain⟨v,r,rfl,i,l⟩:=h;obtain⟨u,rfl,j⟩:=nK l;exact⟨v,u,rfl,i,j⟩
theorem Y6:cS X (.builtin "len") (fN X.K gH):=by
 intro pins s σ H xs us Q I r q;obtain⟨μ,mh,ds,R,RR,il,⟨x,rfl,q⟩,F⟩:=q;obtain⟨v,rfl,iv⟩:=nK il
 have go:(∃ds,bG mh x=some ds/\R (.int ds.length) mh)->wpAny (model X.prog X.w) X.A (call (.builtin "len") us) (EP X pins σ Q) X.xe s:=λzz2=>by
  obtain⟨es,e,q⟩:=zz2;obtain⟨a,vs,rfl,sq,l⟩:=yV RR iv e;exact AN pins s σ H _ us Q I r ⟨a,vs,rfl,sq,F.here RR q (by rw[aK l];exact .int)⟩
 cases x with
 | str z=>cases eU iv;exact AM pins s σ H _ us Q I r ⟨z,rfl,q.1,F.here RR q.2 .int⟩
 | _=>exact go q
def TM:OA:=λxs mh Q=>∃i,xs=[.int i]/\Q (.int (if i<0 then -i else i)) mh
theorem Y8:cS X (.builtin "abs") (fN X.K TM):=by
 intro pins s σ H xs us Q I r q;obtain⟨μ,mh,ds,R,RR,il,⟨i,rfl,q⟩,F⟩:=q;obtain⟨v,rfl,iv⟩:=nK il;cases bO iv;exact O0 pins s σ H _ us Q I r ⟨i,rfl,F.here RR q .int⟩
def DO:OA:=λxs mh Q=>∃i j,xs=[.int i,.int j]/\Q (.int (if j > i then j else i)) mh
def yJ:OA:=λxs mh Q=>∃i j,xs=[.int i,.int j]/\Q (.int (if j<i then j else i)) mh
theorem S9(hc:X.calm=true):cS X (.builtin "max") (fN X.K DO):=by
 intro pins s σ H xs us Q I r q;obtain⟨μ,mh,ds,R,RR,il,⟨i,j,rfl,q⟩,F⟩:=q;obtain⟨v,u,rfl,iv,iu⟩:=HB il;cases bO iv;cases bO iu;exact J3 hc pins s σ H _ us Q I r ⟨i,j,rfl,F.here RR q .int⟩
theorem S8(hc:X.calm=true):cS X (.builtin "min") (fN X.K yJ):=by
 intro pins s σ H xs us Q I r q;obtain⟨μ,mh,ds,R,RR,il,⟨i,j,rfl,q⟩,F⟩:=q;obtain⟨v,u,rfl,iv,iu⟩:=HB il;cases bO iv;cases bO iu;exact J1 hc pins s σ H _ us Q I r ⟨i,j,rfl,F.here RR q .int⟩
theorem VM{pins:List (Addr×Obj)}{σ:L2.St}{H:Hp}{s:Shared}{a:Addr}{vs:List V}(I:Inv X pins σ H s)(h:oH X.K H a vs\/oG X.K H a vs):vs.length<=sizeLine:=by
 rcases h with h | h
 ·obtain⟨_,_,_,z⟩:=I.list h;exact z
 ·obtain⟨_,_,_,z⟩:=I.tuple h;exact z
def qS:OA:=λxs mh Q=>∃x ds,xs=[x]/\bG mh x=some ds/\Q (.tup ds) mh
theorem OY:cS X (.type "tuple") (fN X.K qS):=by
 intro pins s σ H xs us Q I r q;obtain⟨μ,mh,ds,R,RR,il,⟨x,es,rfl,e,q⟩,F⟩:=q;obtain⟨v,rfl,iv⟩:=nK il
 cases x with
 | tup ts=>
  cases e;obtain⟨a,vs,rfl,sq,l⟩:=eG iv;exact iT pins s σ H _ us Q I r ⟨a,vs,rfl,.inr ⟨sq,F.here RR q iv⟩⟩
 | fl ts=>
  cases e;obtain⟨a,vs,rfl,sq,l⟩:=pO iv;exact iT pins s σ H _ us Q I r ⟨a,vs,rfl,.inl ⟨sq.sq,mN RR F l q⟩⟩
 | ref n=>
  obtain⟨a,vs,rfl,sq,l⟩:=uP RR iv (show mU mh (.ref n)=some es from e);exact iT pins s σ H _ us Q I r ⟨a,vs,rfl,.inl ⟨sq,mN RR F l q⟩⟩
 | _=>cases e
end
def PY(mh:MH):D->Option String
 | .b6=>some "NoneType"
 | .bl _=>some "bool"
 | .int _=>some "int"
 | .str _=>some "str"
 | .tup _=>some "tuple"
 | .fl _=>some "list"
 | .ref n=>match mh[n]? with | some (.lst _)=>some "list" | _=>none
 | .ty _=>none
def r9(t c:String):Bool:=t==c || (t== "bool" && c== "int")
def bJ:List String:=["int","bool","str","tuple","list"]
theorem UN{K:aKd}:∀t∈ "NoneType"::bJ,∀c∈bJ,PySem.W.kitOne K (.type t) (.type c)=some (r9 t c):=by
 intro t ht c hc;simp only[bJ,List.mem_cons,List.not_mem_nil,or_false]at ht hc;rcases ht with rfl | rfl | rfl | rfl | rfl | rfl <;> rcases hc with rfl | rfl | rfl | rfl | rfl <;> kernel_rfl
theorem G6{K:aKd}{t:String}(ht:t∈ "NoneType"::bJ):∀cs:List String,(∀c∈cs,c∈bJ)->PySem.W.kitAny K (.type t) (cs.map Value.type)=some (cs.any (r9 t))
 | [],_=>rfl
 | c::cs,h=>by
  have e:=UN (K:=K) t ht c (h c aGf);have ih:=G6 (K:=K) ht cs λx hx=>h x (aGg _ hx);simp only[List.map_cons,PySem.W.kitAny,e,List.any_cons]
  cases r9 t c with
  | true=>rfl
  | false=>simpa using ih
def p7:OA:=λxs mh Q=>∃x c t,xs=[x,c]/\PY mh x=some t/\
 ((∃T,c= .ty T/\T∈bJ/\Q (.bl (r9 t T)) mh)\/∃Ts:List String,c= .tup (Ts.map .ty)/\(∀T∈Ts,T∈bJ)/\Q (.bl (Ts.any (r9 t))) mh)
section
variable {X:Cx}
theorem YC{pins:List (Addr×Obj)}{σ:L2.St}{H:Hp}{s:Shared}{μ:List Addr}{mh:MH}{d:D}{v:V}{u:Value}{t:String}(I:Inv X pins σ H s)(R:Rep X.K μ mh H)(h:Is X.K μ H d v)(r:RelV v u)(e:PY mh d=some t):
  t∈ "NoneType"::bJ/\u≠ .builtin "__main__.__loader__#opaque"/\∃P,PySem.W.KitX X.K u (.type t) P/\P s.heap:=by
 have hl:∀{a:Addr} {vs:List V},oH X.K H a vs->∃P,PySem.W.KitX X.K (.ref a) (.type "list") P/\P s.heap:=λ{a vs} sq=>by
  obtain⟨aI,_,⟨o,n,e1,e2,_⟩,_⟩:=I.list sq;exact⟨_,PySem.W.kitx_list,⟨o,e1,e2⟩⟩
 cases d with
 | b6=>cases NR h;cases r;cases e;exact⟨by simp[bJ],nofun,_,PySem.W.kitx_none,trivial⟩
 | bl b=>cases NS h;cases r;cases e;exact⟨by simp[bJ],nofun,_,PySem.W.kitx_bool,trivial⟩
 | int b=>cases bO h;obtain⟨tk,rfl⟩:=r;cases e;exact⟨by simp[bJ],nofun,_,PySem.W.kitx_int,trivial⟩
 | str b=>cases eU h;obtain⟨tk,rfl⟩:=r;cases e;exact⟨by simp[bJ],nofun,_,PySem.W.kitx_str,trivial⟩
 | ty b=>cases e
 | tup ds=>
  obtain⟨a,vs,rfl,sq,_⟩:=eG h;cases r;cases e;obtain⟨aI,_,⟨o,e1,e2,_⟩,_⟩:=I.tuple sq;exact⟨by simp[bJ],nofun,_,PySem.W.kitx_tuple,⟨o,e1,e2⟩⟩
 | fl ds=>
  obtain⟨a,vs,rfl,sq,_⟩:=pO h;cases r;cases e;exact⟨by simp[bJ],nofun,hl sq.sq⟩
 | ref n=>
  obtain⟨a,q,rfl⟩:=n9 h;cases r;simp only[PY]at e
  cases o:mh[n]? with
  | none=>rw[o]at e;cases e
  | some ob=>
   cases ob with
   | lst es=>
    rw[o]at e;cases e;obtain⟨vs,hv,l⟩:=R.obj n a _ q o;exact⟨by simp[bJ],nofun,hl (.of hv)⟩
   | dic t kvs=>rw[o]at e;cases e
   | fdc t kvs ob=>rw[o]at e;cases e
theorem G8{K:aKd}{μ:List Addr}{H:Hp}:∀{Ts:List String} {vs:List V} {us:List Value},IsL K μ H (Ts.map .ty) vs->Vals vs us->us=Ts.map Value.type
 | [],vs,us,h,r=>by simp only[List.map_nil]at h;unfold IsL at h;subst h;cases r;rfl
 | T::Ts,vs,us,h,r=>by
  simp only[List.map_cons]at h;unfold IsL at h;obtain⟨v,rr,rfl,i,l⟩:=h
  cases r with
  | cons r1 r2=>
   unfold Is at i;subst i;have r1' :_=Value.type T:=r1;subst r1';rw[G8 l r2];rfl
theorem Y7:cS X (.builtin "isinstance") (fN X.K p7):=by
 intro pins s σ H xs us Q I r q;obtain⟨μ,mh,ds,R,RR,il,⟨x,c,t,rfl,et,q⟩,F⟩:=q;obtain⟨v,w,rfl,iv,iw⟩:=HB il
 cases r with
 | cons r1 r2=>
  cases r2 with
  | cons r2 r3=>
   cases r3;obtain⟨hm,hx,P,kx,hp⟩:=YC I RR iv r1 et
   rcases q with ⟨T,rfl,hT,q⟩ | ⟨Ts,rfl,hT,q⟩
   ·unfold Is at iw;subst iw;have r2' :_=Value.type T:=r2;subst r2'
    exact PySem.W.kia_one kx I.YH hp (UN t hm T hT) hx λtk=>⟨.bl _,H,I.tok tk,rfl,F.here RR q .bl⟩
   ·obtain⟨a,vs,rfl,sq,l⟩:=eG iw;have r2' :_=Value.ref a:=r2;subst r2';obtain⟨aI,rv,⟨o,e1,e2,n,e3⟩,_⟩:=I.tuple sq;have ei:=G8 l rv;obtain⟨oc,od,odt,osl⟩:=o;simp only at e2 e3;subst e2 e3
    exact PySem.W.kia_tup kx I.YH hp e1 (by rw[ei];exact G6 hm Ts hT) hx λtk=>⟨.bl _,H,I.tok tk,rfl,F.here RR q .bl⟩
end
mutual
def Vl(h:Heap):D->Value->Prop
 | .b6,u=>u= .none
 | .bl b,u=>u= .bool b
 | .int i,u=>∃t,u= .int i t
 | .str x,u=>∃t,u= .str x t
 | .ty _,_=>False
 | .tup ds,u=>∃a us,u= .ref a/\IsTup h a us.toArray/\eN h ds us
 | .fl ds,u=>∃a us,u= .ref a/\h.IsList a us.toArray/\eN h ds us
 | .ref _,_=>False
def eN(h:Heap):List D->List Value->Prop
 | [],us=>us=[]
 | d::ds,us=>∃u r,us=u::r/\Vl h d u/\eN h ds r
end
mutual
def bare:D->Bool
 | .ty _=>false
 | .ref _=>false
 | .tup ds=>f9 ds
 | .fl ds=>f9 ds
 | _=>true
def f9:List D->Bool
 | []=>true
 | d::ds=>bare d && f9 ds
end
mutual
def deep:D->Nat
 | .tup ds=>c9 ds+1
 | .fl ds=>c9 ds+1
 | _=>0
def c9:List D->Nat
 | []=>0
 | d::ds=>max (deep d) (c9 ds)
end
mutual
def pV:D->D->Bool
 | .b6,y=>aCh y
 | .bl a,y=>match y with | .bl b=>a==b | .int j=>(if a then 1 else 0)==j | _=>false
 | .int i,y=>match y with | .int j=>i==j | .bl b=>i==(if b then 1 else 0) | _=>false
 | .str a,y=>match y with | .str b=>a==b | _=>false
 | .tup as,y=>match y with | .tup bs=>fV as bs | _=>false
 | .fl as,y=>match y with | .fl bs=>fV as bs | _=>false
 | .ref _,_=>false
 | .ty _,_=>false
def fV:List D->List D->Bool
 | [],y=>y.isEmpty
 | a::as,y=>match y with | b::bs=>pV a b && fV as bs | []=>false
end
theorem cG:∀(as bs:List D),fV as bs=((List.range (min as.length bs.length)).all (λj=>pV (as.getD j .b6) (bs.getD j .b6)) && as.length==bs.length)
 | [],[]=>by simp[fV]
 | [],b::bs=>by simp[fV]
 | a::as,[]=>by simp[fV]
 | a::as,b::bs=>by
  have ih:=cG as bs;simp only[fV,List.length_cons,Nat.succ_min_succ,List.range_succ_eq_map,List.all_cons,List.all_map,Function.comp_def,List.getD_cons_zero,List.getD_cons_succ,ih];cases pV a b <;> simp
theorem bF{h:Heap}:∀{ds:List D} {us:List Value},eN h ds us->us.length=ds.length
 | [],us,q=>by unfold eN at q;subst q;rfl
 | d::ds,us,q=>by unfold eN at q;obtain⟨u,r,rfl,_,l⟩:=q;simp[bF l]
theorem dB{h:Heap}:∀{ds:List D} {us:List Value} {j:Nat} {u:Value},eN h ds us->us[j]? =some u->Vl h (ds.getD j .b6) u
 | [],us,j,u,q,e=>by unfold eN at q;subst q;simp at e
 | d::ds,us,j,u,q,e=>by
  unfold eN at q;obtain⟨w,r,rfl,i,l⟩:=q
  cases j with
  | zero=>simp at e;subst e;exact i
  | succ j=>exact dB (j:=j) l (by simpa using e)
theorem eV:∀(ds:List D) (j:Nat),deep (ds.getD j .b6)<=c9 ds
 | [],j=>by simp[deep]
 | d::ds,0=>by simp[c9];lia
 | d::ds,j+1=>by have:=eV ds j;simp[c9]at*;lia
theorem sM{h:Heap}{a:Addr}{x y:Array Value}(hl:h.IsList a x)(hb:IsTup h a y):False:=by
 obtain⟨o,ho,hc,_⟩:=hl;obtain⟨o2,ho2,hc2,_⟩:=hb;rw[ho]at ho2;cases ho2;rw[hc]at hc2;exact absurd hc2 (by simp)
mutual
theorem yP{h:Heap}:∀{d e:D} {u:Value},Vl h d u->Vl h e u->pV d e=true
 | .b6,e,u,p,q=>by
  unfold Vl at p;subst p
  cases e <;> unfold Vl at q <;> first | rfl | (cases q;done) | (obtain⟨_,q⟩:=q;cases q;done) | (obtain⟨_,_,q,_⟩:=q;cases q;done)
 | .bl a,e,u,p,q=>by
  unfold Vl at p;subst p
  cases e <;> unfold Vl at q <;> first | (subst q;simp[pV];done) | (cases q;simp[pV];done) | (cases q;done) | (obtain⟨_,q⟩:=q;cases q;done) | (obtain⟨_,_,q,_⟩:=q;cases q;done)
 | .int a,e,u,p,q=>by
  unfold Vl at p;obtain⟨t,rfl⟩:=p
  cases e <;> unfold Vl at q <;> first | (cases q;done) | (obtain⟨_,q⟩:=q;cases q;simp[pV];done) | (obtain⟨_,q⟩:=q;cases q;done) | (obtain⟨_,_,q,_⟩:=q;cases q;done)
 | .str a,e,u,p,q=>by
  unfold Vl at p;obtain⟨t,rfl⟩:=p
  cases e <;> unfold Vl at q <;> first | (cases q;done) | (obtain⟨_,q⟩:=q;cases q;simp[pV];done) | (obtain⟨_,q⟩:=q;cases q;done) | (obtain⟨_,_,q,_⟩:=q;cases q;done)
 | .ty _,e,u,p,q=>by unfold Vl at p;exact p.elim
 | .ref _,e,u,p,q=>by unfold Vl at p;exact p.elim
 | .tup as,e,u,p,q=>by
  unfold Vl at p;obtain⟨a,us,rfl,ht,l⟩:=p
  cases e with
  | tup bs=>
   unfold Vl at q;obtain⟨b,ws,e,ht2,l2⟩:=q;cases e;obtain⟨o,h1,_,n,h2⟩:=ht;obtain⟨o2,h3,_,n2,h4⟩:=ht2;rw[h1]at h3;cases h3;rw[h2]at h4;injection h4 with h5;have h6:us=ws:=by simpa using aHk Array.toList h5
   subst h6;show fV as bs=true;exact tH l l2
  | fl bs=>
   unfold Vl at q;obtain⟨b,ws,e,ht2,l2⟩:=q;cases e;exact(sM ht2 ht).elim
  | _=>unfold Vl at q;first | (cases q;done) | (obtain⟨_,q⟩:=q;cases q;done)
 | .fl as,e,u,p,q=>by
  unfold Vl at p;obtain⟨a,us,rfl,ht,l⟩:=p
  cases e with
  | fl bs=>
   unfold Vl at q;obtain⟨b,ws,e,ht2,l2⟩:=q;cases e;obtain⟨o,h1,_,n,h2⟩:=ht;obtain⟨o2,h3,_,n2,h4⟩:=ht2;rw[h1]at h3;cases h3;rw[h2]at h4;injection h4 with h5;have h6:us=ws:=by simpa using aHk Array.toList h5
   subst h6;show fV as bs=true;exact tH l l2
  | tup bs=>
   unfold Vl at q;obtain⟨b,ws,e,ht2,l2⟩:=q;cases e;exact(sM ht ht2).elim
  | _=>unfold Vl at q;first | (cases q;done) | (obtain⟨_,q⟩:=q;cases q;done)
theorem tH{h:Heap}:∀{ds es:List D} {us:List Value},eN h ds us->eN h es us->fV ds es=true
 | [],es,us,p,q=>by unfold eN at p;subst p;cases es with | nil=>rfl | cons=>unfold eN at q;obtain⟨_,_,e,_⟩:=q;cases e
 | d::ds,es,us,p,q=>by
  unfold eN at p;obtain⟨u,r,rfl,i,l⟩:=p
  cases es with
  | nil=>unfold eN at q;cases q
  | cons e es=>
   unfold eN at q;obtain⟨u2,r2,e2,i2,l2⟩:=q;cases e2;simp only[fV,yP i i2,tH l l2,Bool.and_self]
end
open SeqAt in
theorem oB{s:Shared}:∀(k:Nat) {A:Around} {d e:D} {u v:Value},deep d<=k->A.units+k+1<cLine->Vl s.heap d u->Vl s.heap e v->EqAt A s u v (pV d e)
 | k,A,.b6,e,u,v,hk,hu,p,q=>by
  unfold Vl at p;subst p;cases e <;> unfold Vl at q
  ·subst q;exact EqAt.same _
  ·subst q;exact EqAt.none_bool _
  ·obtain⟨t,rfl⟩:=q;exact EqAt.none_int _ t
  ·obtain⟨t,rfl⟩:=q;exact EqAt.none_str _ t
  ·exact q.elim
  ·obtain⟨a,us,rfl,ht,_⟩:=q;exact EqAt.none_tuple ht (by lia)
  ·obtain⟨a,us,rfl,ht,_⟩:=q;exact EqAt.none_list ht (by lia)
  ·exact q.elim
 | k,A,.bl x,e,u,v,hk,hu,p,q=>by
  unfold Vl at p;subst p;cases e <;> unfold Vl at q
  ·subst q;exact EqAt.bool_none _
  ·subst q;exact EqAt.bool_bool _ _
  ·obtain⟨t,rfl⟩:=q;exact EqAt.bool_int _ _ t
  ·obtain⟨t,rfl⟩:=q;exact EqAt.bool_str _ _ t
  ·exact q.elim
  ·obtain⟨a,us,rfl,ht,_⟩:=q;exact EqAt.bool_tuple _ ht (by lia)
  ·obtain⟨a,us,rfl,ht,_⟩:=q;exact EqAt.bool_list _ ht (by lia)
  ·exact q.elim
 | k,A,.int x,e,u,v,hk,hu,p,q=>by
  unfold Vl at p;obtain⟨tx,rfl⟩:=p;cases e <;> unfold Vl at q
  ·subst q;exact EqAt.int_none _ _
  ·subst q;exact EqAt.int_bool _ _ _
  ·obtain⟨t,rfl⟩:=q;exact EqAt.int_int _ _ _ t
  ·obtain⟨t,rfl⟩:=q;exact EqAt.int_str _ _ _ t
  ·exact q.elim
  ·obtain⟨a,us,rfl,ht,_⟩:=q;exact EqAt.int_tuple _ _ ht (by lia)
  ·obtain⟨a,us,rfl,ht,_⟩:=q;exact EqAt.int_list _ _ ht (by lia)
  ·exact q.elim
 | k,A,.str x,e,u,v,hk,hu,p,q=>by
  unfold Vl at p;obtain⟨tx,rfl⟩:=p;cases e <;> unfold Vl at q
  ·subst q;exact EqAt.str_none _ _
  ·subst q;exact EqAt.str_bool _ _ _
  ·obtain⟨t,rfl⟩:=q;exact EqAt.str_int _ _ _ t
  ·obtain⟨t,rfl⟩:=q;exact EqAt.str_str _ _ _ t
  ·exact q.elim
  ·obtain⟨a,us,rfl,ht,_⟩:=q;exact EqAt.str_tuple _ _ ht (by lia)
  ·obtain⟨a,us,rfl,ht,_⟩:=q;exact EqAt.str_list _ _ ht (by lia)
  ·exact q.elim
 | k,A,.ty x,e,u,v,hk,hu,p,q=>by unfold Vl at p;exact p.elim
 | k,A,.ref x,e,u,v,hk,hu,p,q=>by unfold Vl at p;exact p.elim
 | k,A,.tup as,e,u,v,hk,hu,p,q=>by
  have p0:=p;unfold Vl at p;obtain⟨a,us,rfl,ht,l⟩:=p
  cases e with
  | tup bs=>
   by_cases hab:Value.ref a=v
   ·subst hab;rw[yP p0 q];exact EqAt.same _
   unfold Vl at q;obtain⟨b,ws,rfl,ht2,l2⟩:=q;have hne:a≠b:=λz=>hab (by rw[z])
   cases k with
   | zero=>simp[deep]at hk
   | succ k=>
    refine EqAt.of_refs hne ?_;have r:=RcAt.tuples (e:=λj=>pV (as.getD j .b6) (bs.getD j .b6)) ht ht2 (by lia) (λj h1 h2=>oB k (A:=A.in1) (aH5 (eV as j) (by simp[deep]at hk;exact hk)) (by show A.units+1+k+1<_;lia) (dB l (by simp at h1;simp[h1])) (dB l2 (by simp at h2;simp[h2])));show RcAt A s _ _ (fV as bs);rw[cG,<-bF l,<-bF l2];simpa using r
  | b6=>unfold Vl at q;subst q;exact EqAt.tuple_none ht (by lia)
  | bl x=>unfold Vl at q;subst q;exact EqAt.tuple_bool _ ht (by lia)
  | int x=>unfold Vl at q;obtain⟨t,rfl⟩:=q;exact EqAt.tuple_int _ _ ht (by lia)
  | str x=>unfold Vl at q;obtain⟨t,rfl⟩:=q;exact EqAt.tuple_str _ _ ht (by lia)
  | fl bs=>unfold Vl at q;obtain⟨b,ws,rfl,ht2,l2⟩:=q;exact EqAt.tuple_list ht ht2 (by lia)
  | ty x=>unfold Vl at q;exact q.elim
  | ref x=>unfold Vl at q;exact q.elim
 | k,A,.fl as,e,u,v,hk,hu,p,q=>by
  have p0:=p;unfold Vl at p;obtain⟨a,us,rfl,ht,l⟩:=p
  cases e with
  | fl bs=>
   by_cases hab:Value.ref a=v
   ·subst hab;rw[yP p0 q];exact EqAt.same _
   unfold Vl at q;obtain⟨b,ws,rfl,ht2,l2⟩:=q;have hne:a≠b:=λz=>hab (by rw[z])
   cases k with
   | zero=>simp[deep]at hk
   | succ k=>
    refine EqAt.of_refs hne ?_;show RcAt A s _ _ (fV as bs);by_cases hsz:us.length=ws.length
    ·have r:=RcAt.lists (e:=λj=>pV (as.getD j .b6) (bs.getD j .b6)) ht ht2 (by simpa using hsz) (by lia) (λj h1 h2=>oB k (A:=A.in1) (aH5 (eV as j) (by simp[deep]at hk;exact hk)) (by show A.units+1+k+1<_;lia) (dB l (by simp at h1;simp[h1])) (dB l2 (by simp at h2;simp[h2])));rw[cG,<-bF l,<-bF l2,<-hsz,Nat.min_self,beq_self_eq_true,Bool.and_true];simpa using r
    ·have r:=RcAt.lists_lengths (A:=A) ht ht2 (by simpa using hsz) (by lia);rw[cG,<-bF l,<-bF l2,beq_eq_false_iff_ne.mpr hsz,Bool.and_false];exact r
  | b6=>unfold Vl at q;subst q;exact EqAt.list_none ht (by lia)
  | bl x=>unfold Vl at q;subst q;exact EqAt.list_bool _ ht (by lia)
  | int x=>unfold Vl at q;obtain⟨t,rfl⟩:=q;exact EqAt.list_int _ _ ht (by lia)
  | str x=>unfold Vl at q;obtain⟨t,rfl⟩:=q;exact EqAt.list_str _ _ ht (by lia)
  | tup bs=>unfold Vl at q;obtain⟨b,ws,rfl,ht2,l2⟩:=q;exact EqAt.list_tuple ht ht2 (by lia)
  | ty x=>unfold Vl at q;exact q.elim
  | ref x=>unfold Vl at q;exact q.elim
open SeqAt in
theorem VV{s:Shared}{A:Around}{d e:D}{u v:Value}(hk:deep d<=40)(hu:A.units+64<cLine)(p:Vl s.heap d u)(q:Vl s.heap e v):RcAt A s u v (pV d e):=by
 cases d with
 | b6=>
  unfold Vl at p;subst p;cases e <;> unfold Vl at q
  ·subst q;exact RcAt.none_none
  ·subst q;exact RcAt.none_bool _
  ·obtain⟨t,rfl⟩:=q;exact RcAt.none_int _ _
  ·obtain⟨t,rfl⟩:=q;exact RcAt.none_str _ _
  ·exact q.elim
  ·obtain⟨a,us,rfl,ht,_⟩:=q;exact RcAt.none_tuple ht (by lia)
  ·obtain⟨a,us,rfl,ht,_⟩:=q;exact RcAt.none_list ht (by lia)
  ·exact q.elim
 | bl x=>
  unfold Vl at p;subst p;cases e <;> unfold Vl at q
  ·subst q;exact RcAt.bool_none _
  ·subst q;exact RcAt.bool_bool _ _
  ·obtain⟨t,rfl⟩:=q;exact RcAt.bool_int _ _ _
  ·obtain⟨t,rfl⟩:=q;exact RcAt.bool_str _ _ _
  ·exact q.elim
  ·obtain⟨a,us,rfl,ht,_⟩:=q;exact RcAt.bool_tuple _ ht (by lia)
  ·obtain⟨a,us,rfl,ht,_⟩:=q;exact RcAt.bool_list _ ht (by lia)
  ·exact q.elim
 | int x=>
  unfold Vl at p;obtain⟨tx,rfl⟩:=p;cases e <;> unfold Vl at q
  ·subst q;exact RcAt.int_none _ _
  ·subst q;exact RcAt.int_bool _ _ _
  ·obtain⟨t,rfl⟩:=q;exact RcAt.int_int _ _ _ _
  ·obtain⟨t,rfl⟩:=q;exact RcAt.int_str _ _ _ _
  ·exact q.elim
  ·obtain⟨a,us,rfl,ht,_⟩:=q;exact RcAt.int_tuple _ _ ht (by lia)
  ·obtain⟨a,us,rfl,ht,_⟩:=q;exact RcAt.int_list _ _ ht (by lia)
  ·exact q.elim
 | str x=>
  unfold Vl at p;obtain⟨tx,rfl⟩:=p;cases e <;> unfold Vl at q
  ·subst q;exact RcAt.str_none _ _
  ·subst q;exact RcAt.str_bool _ _ _
  ·obtain⟨t,rfl⟩:=q;exact RcAt.str_int _ _ _ _
  ·obtain⟨t,rfl⟩:=q;exact RcAt.str_str _ _ _ _
  ·exact q.elim
  ·obtain⟨a,us,rfl,ht,_⟩:=q;exact RcAt.str_tuple _ _ ht (by lia)
  ·obtain⟨a,us,rfl,ht,_⟩:=q;exact RcAt.str_list _ _ ht (by lia)
  ·exact q.elim
 | ty x=>unfold Vl at p;exact p.elim
 | ref x=>unfold Vl at p;exact p.elim
 | tup as=>
  unfold Vl at p;obtain⟨a,us,rfl,ht,l⟩:=p
  cases e with
  | tup bs=>
   unfold Vl at q;obtain⟨b,ws,rfl,ht2,l2⟩:=q;have r:=RcAt.tuples (e:=λj=>pV (as.getD j .b6) (bs.getD j .b6)) ht ht2 (by lia) (λj h1 h2=>oB 40 (A:=A.in1) (aH5 (eV as j) (by simp[deep]at hk;lia)) (by show A.units+1+40+1<_;lia) (dB l (by simp at h1;simp[h1])) (dB l2 (by simp at h2;simp[h2])));show RcAt A s _ _ (fV as bs);rw[cG,<-bF l,<-bF l2];simpa using r
  | fl bs=>unfold Vl at q;obtain⟨b,ws,rfl,ht2,l2⟩:=q;exact RcAt.tuple_list ht ht2 (by lia)
  | b6=>unfold Vl at q;subst q;exact RcAt.tuple_none ht (by lia)
  | bl x=>unfold Vl at q;subst q;exact RcAt.tuple_bool _ ht (by lia)
  | int x=>unfold Vl at q;obtain⟨t,rfl⟩:=q;exact RcAt.tuple_int _ _ ht (by lia)
  | str x=>unfold Vl at q;obtain⟨t,rfl⟩:=q;exact RcAt.tuple_str _ _ ht (by lia)
  | ty x=>unfold Vl at q;exact q.elim
  | ref x=>unfold Vl at q;exact q.elim
 | fl as=>
  unfold Vl at p;obtain⟨a,us,rfl,ht,l⟩:=p
  cases e with
  | fl bs=>
   unfold Vl at q;obtain⟨b,ws,rfl,ht2,l2⟩:=q;show RcAt A s _ _ (fV as bs);by_cases hsz:us.length=ws.length
   ·have r:=RcAt.lists (e:=λj=>pV (as.getD j .b6) (bs.getD j .b6)) ht ht2 (by simpa using hsz) (by lia) (λj h1 h2=>oB 40 (A:=A.in1) (aH5 (eV as j) (by simp[deep]at hk;lia)) (by show A.units+1+40+1<_;lia) (dB l (by simp at h1;simp[h1])) (dB l2 (by simp at h2;simp[h2])));rw[cG,<-bF l,<-bF l2,<-hsz,Nat.min_self,beq_self_eq_true,Bool.and_true];simpa using r
   ·have r:=RcAt.lists_lengths (A:=A) ht ht2 (by simpa using hsz) (by lia);rw[cG,<-bF l,<-bF l2,beq_eq_false_iff_ne.mpr hsz,Bool.and_false];exact r
  | tup bs=>unfold Vl at q;obtain⟨b,ws,rfl,ht2,l2⟩:=q;exact RcAt.list_tuple ht ht2 (by lia)
  | b6=>unfold Vl at q;subst q;exact RcAt.list_none ht (by lia)
  | bl x=>unfold Vl at q;subst q;exact RcAt.list_bool _ ht (by lia)
  | int x=>unfold Vl at q;obtain⟨t,rfl⟩:=q;exact RcAt.list_int _ _ ht (by lia)
  | str x=>unfold Vl at q;obtain⟨t,rfl⟩:=q;exact RcAt.list_str _ _ ht (by lia)
  | ty x=>unfold Vl at q;exact q.elim
  | ref x=>unfold Vl at q;exact q.elim
open SeqAt in
theorem LZ{s:Shared}{A:Around}{d e:D}{u v:Value}(hk:deep d<=40)(hu:A.units+64<cLine)(p:Vl s.heap d u)(q:Vl s.heap e v):RcNeAt A s u v (!pV d e):=by
 cases d with
 | b6=>
  unfold Vl at p;subst p;cases e <;> unfold Vl at q
  ·subst q;exact RcNeAt.none_none
  ·subst q;exact RcNeAt.none_bool _
  ·obtain⟨t,rfl⟩:=q;exact RcNeAt.none_int _ _
  ·obtain⟨t,rfl⟩:=q;exact RcNeAt.none_str _ _
  ·exact q.elim
  ·obtain⟨a,us,rfl,ht,_⟩:=q;exact RcNeAt.none_tuple ht (by lia)
  ·obtain⟨a,us,rfl,ht,_⟩:=q;exact RcNeAt.none_list ht (by lia)
  ·exact q.elim
 | bl x=>
  unfold Vl at p;subst p;cases e <;> unfold Vl at q
  ·subst q;exact RcNeAt.bool_none _
  ·subst q;exact RcNeAt.bool_bool _ _
  ·obtain⟨t,rfl⟩:=q;exact RcNeAt.bool_int _ _ _
  ·obtain⟨t,rfl⟩:=q;exact RcNeAt.bool_str _ _ _
  ·exact q.elim
  ·obtain⟨a,us,rfl,ht,_⟩:=q;exact RcNeAt.bool_tuple _ ht (by lia)
  ·obtain⟨a,us,rfl,ht,_⟩:=q;exact RcNeAt.bool_list _ ht (by lia)
  ·exact q.elim
 | int x=>
  unfold Vl at p;obtain⟨tx,rfl⟩:=p;cases e <;> unfold Vl at q
  ·subst q;exact RcNeAt.int_none _ _
  ·subst q;exact RcNeAt.int_bool _ _ _
  ·obtain⟨t,rfl⟩:=q;exact RcNeAt.int_int _ _ _ _
  ·obtain⟨t,rfl⟩:=q;exact RcNeAt.int_str _ _ _ _
  ·exact q.elim
  ·obtain⟨a,us,rfl,ht,_⟩:=q;exact RcNeAt.int_tuple _ _ ht (by lia)
  ·obtain⟨a,us,rfl,ht,_⟩:=q;exact RcNeAt.int_list _ _ ht (by lia)
  ·exact q.elim
 | str x=>
  unfold Vl at p;obtain⟨tx,rfl⟩:=p;cases e <;> unfold Vl at q
  ·subst q;exact RcNeAt.str_none _ _
  ·subst q;exact RcNeAt.str_bool _ _ _
  ·obtain⟨t,rfl⟩:=q;exact RcNeAt.str_int _ _ _ _
  ·obtain⟨t,rfl⟩:=q;exact RcNeAt.str_str _ _ _ _
  ·exact q.elim
  ·obtain⟨a,us,rfl,ht,_⟩:=q;exact RcNeAt.str_tuple _ _ ht (by lia)
  ·obtain⟨a,us,rfl,ht,_⟩:=q;exact RcNeAt.str_list _ _ ht (by lia)
  ·exact q.elim
 | ty x=>unfold Vl at p;exact p.elim
 | ref x=>unfold Vl at p;exact p.elim
 | tup as=>
  unfold Vl at p;obtain⟨a,us,rfl,ht,l⟩:=p
  cases e with
  | tup bs=>
   unfold Vl at q;obtain⟨b,ws,rfl,ht2,l2⟩:=q;have r:=RcNeAt.tuples (e:=λj=>pV (as.getD j .b6) (bs.getD j .b6)) ht ht2 (by lia) (λj h1 h2=>oB 40 (A:=A.in1) (aH5 (eV as j) (by simp[deep]at hk;lia)) (by show A.units+1+40+1<_;lia) (dB l (by simp at h1;simp[h1])) (dB l2 (by simp at h2;simp[h2])));show RcNeAt A s _ _ (!fV as bs);rw[cG,<-bF l,<-bF l2];simpa using r
  | fl bs=>unfold Vl at q;obtain⟨b,ws,rfl,ht2,l2⟩:=q;exact RcNeAt.tuple_list ht ht2 (by lia)
  | b6=>unfold Vl at q;subst q;exact RcNeAt.tuple_none ht (by lia)
  | bl x=>unfold Vl at q;subst q;exact RcNeAt.tuple_bool _ ht (by lia)
  | int x=>unfold Vl at q;obtain⟨t,rfl⟩:=q;exact RcNeAt.tuple_int _ _ ht (by lia)
  | str x=>unfold Vl at q;obtain⟨t,rfl⟩:=q;exact RcNeAt.tuple_str _ _ ht (by lia)
  | ty x=>unfold Vl at q;exact q.elim
  | ref x=>unfold Vl at q;exact q.elim
 | fl as=>
  unfold Vl at p;obtain⟨a,us,rfl,ht,l⟩:=p
  cases e with
  | fl bs=>
   unfold Vl at q;obtain⟨b,ws,rfl,ht2,l2⟩:=q;show RcNeAt A s _ _ (!fV as bs);by_cases hsz:us.length=ws.length
   ·have r:=RcNeAt.lists (e:=λj=>pV (as.getD j .b6) (bs.getD j .b6)) ht ht2 (by simpa using hsz) (by lia) (λj h1 h2=>oB 40 (A:=A.in1) (aH5 (eV as j) (by simp[deep]at hk;lia)) (by show A.units+1+40+1<_;lia) (dB l (by simp at h1;simp[h1])) (dB l2 (by simp at h2;simp[h2])));rw[cG,<-bF l,<-bF l2,<-hsz,Nat.min_self,beq_self_eq_true,Bool.and_true];simpa using r
   ·have r:=RcNeAt.lists_lengths (A:=A) ht ht2 (by simpa using hsz) (by lia);rw[cG,<-bF l,<-bF l2,beq_eq_false_iff_ne.mpr hsz,Bool.and_false];exact r
  | tup bs=>unfold Vl at q;obtain⟨b,ws,rfl,ht2,l2⟩:=q;exact RcNeAt.list_tuple ht ht2 (by lia)
  | b6=>unfold Vl at q;subst q;exact RcNeAt.list_none ht (by lia)
  | bl x=>unfold Vl at q;subst q;exact RcNeAt.list_bool _ ht (by lia)
  | int x=>unfold Vl at q;obtain⟨t,rfl⟩:=q;exact RcNeAt.list_int _ _ ht (by lia)
  | str x=>unfold Vl at q;obtain⟨t,rfl⟩:=q;exact RcNeAt.list_str _ _ ht (by lia)
  | ty x=>unfold Vl at q;exact q.elim
  | ref x=>unfold Vl at q;exact q.elim
def jQ(mh:MH):D->D
 | .ref n=>match mh[n]? with | some (.lst ds)=>.fl ds | _=>.ref n
 | d=>d
section
variable {X:Cx}{pins:List (Addr×Obj)}{σ:L2.St}{H:Hp}{s:Shared}{μ:List Addr}{mh:MH}
mutual
theorem T6(I:Inv X pins σ H s):∀(d:D) {v:V} {u:Value},bare d=true->Is X.K μ H d v->RelV v u->Vl s.heap d u
 | .b6,v,u,_,i,r=>by cases NR i;unfold Vl;exact r
 | .bl _,v,u,_,i,r=>by cases NS i;unfold Vl;exact r
 | .int _,v,u,_,i,r=>by cases bO i;unfold Vl;exact r
 | .str _,v,u,_,i,r=>by cases eU i;unfold Vl;exact r
 | .ty _,v,u,b,i,r=>by simp[bare]at b
 | .ref _,v,u,b,i,r=>by simp[bare]at b
 | .tup ds,v,u,b,i,r=>by
  obtain⟨a,vs,rfl,sq,l⟩:=eG i;have r' :u=Value.ref a:=r;subst r';obtain⟨aI,rv,p,_⟩:=I.tuple sq;unfold Vl;exact⟨a,aI,rfl,p,qC I ds (by simpa[bare] using b) l rv⟩
 | .fl ds,v,u,b,i,r=>by
  obtain⟨a,vs,rfl,sq,l⟩:=pO i;have r' :u=Value.ref a:=r;subst r';obtain⟨aI,rv,p,_⟩:=I.list sq.sq;unfold Vl;exact⟨a,aI,rfl,p.isList,qC I ds (by simpa[bare] using b) l rv⟩
theorem qC(I:Inv X pins σ H s):∀(ds:List D) {vs:List V} {us:List Value},f9 ds=true->IsL X.K μ H ds vs->Vals vs us->eN s.heap ds us
 | [],vs,us,_,l,r=>by unfold IsL at l;subst l;cases r;unfold eN;rfl
 | d::ds,vs,us,b,l,r=>by
  unfold IsL at l;obtain⟨v,rr,rfl,i,l⟩:=l
  cases r with
  | cons r1 r2=>
   simp only[f9,Bool.and_eq_true]at b;unfold eN;exact⟨_,_,rfl,T6 I d b.1 i r1,qC I ds b.2 l r2⟩
end
theorem yQ(I:Inv X pins σ H s)(R:Rep X.K μ mh H){d:D}{v:V}{u:Value}(b:bare (jQ mh d)=true)(i:Is X.K μ H d v)(r:RelV v u):Vl s.heap (jQ mh d) u:=by
 cases d with
 | ref n=>
  simp only[jQ]at b⊢
  cases o:mh[n]? with
  | none=>rw[o]at b;simp[bare]at b
  | some ob=>
   cases ob with
   | lst ds=>
    rw[o]at b;simp only;obtain⟨a,vs,rfl,_,hv,l⟩:=fT R i o;have r' :u=Value.ref a:=r;subst r';obtain⟨aI,rv,p,_⟩:=I.list (.of hv);unfold Vl;exact⟨a,aI,rfl,p.isList,qC I ds (by simpa[bare] using b) l rv⟩
   | dic t kvs=>rw[o]at b;simp[bare]at b
   | fdc t kvs ob=>rw[o]at b;simp[bare]at b
 | _=>exact T6 I _ b i r
end
def oEq:O2:=λx y mh Q=>bare (jQ mh x)=true/\bare (jQ mh y)=true/\deep (jQ mh x)<=40/\Q (.bl (pV (jQ mh x) (jQ mh y))) mh
def O8:O2:=λx y mh Q=>bare (jQ mh x)=true/\bare (jQ mh y)=true/\deep (jQ mh x)<=40/\Q (.bl !pV (jQ mh x) (jQ mh y)) mh
section
variable {X:Cx}
theorem aBu(hu:X.A.units+64<cLine):d8 X (compareOp .Eq) (bP X.K oEq):=by
 intro pins s σ H x y v u Q I rx ry q;obtain⟨μ,mh,dx,dy,R,RR,ix,iy,⟨b1,b2,hd,q⟩,F⟩:=q;exact VV hd hu (yQ I RR b1 ix rx) (yQ I RR b2 iy ry) X.prog X.w X.xe _ ⟨.bl _,H,I,rfl,F.here RR q .bl⟩
theorem aBp(hu:X.A.units+64<cLine):d8 X (compareOp .NotEq) (bP X.K O8):=by
 intro pins s σ H x y v u Q I rx ry q;obtain⟨μ,mh,dx,dy,R,RR,ix,iy,⟨b1,b2,hd,q⟩,F⟩:=q;exact LZ hd hu (yQ I RR b1 ix rx) (yQ I RR b2 iy ry) X.prog X.w X.xe _ ⟨.bl _,H,I,rfl,F.here RR q .bl⟩
end
section
variable {prog:Program}{w:World}{A:Around}{E:aKe}{s:Shared}
open HT in
theorem mV{t sl:Addr}{items:Array Value}{vl vu:Value}{lo hi:Option Int}{Q:aKe}(ht:IsTup s.heap t items)(hs:s.heap.IsSliceOf sl vl vu .none)(pl:IsPart vl lo)(pu:IsPart vu hi)
  (hw:cU items.size 0 lo=0/\cU items.size items.size hi=items.size)
  (h:Q (.ref t) s):wpAny (model prog w) A (getItem (.ref t) (.ref sl)) Q E s:=by
 obtain⟨os,hos,hcs,hds⟩:=id hs
 have hTs:s.TypeIs (.ref sl) "slice":=⟨os,hos,hcs⟩
 unfold getItem
 try with_reducible refine aH7 ?_
 first | refine aGb (aGd ?_) | skip
 refine aGb (wpAny_sequenceKey ht.typeIs (by decide) ?_)
 refine aGb (aH2 (name:=Str.ofString "__getitem__") ht.typeIs aHd
  (aGw aHd ht.typeIs entry_tuple_getitem ?_ (args_tuple_getitem _ _)))
 show wpAny _ _ (Builtin.Tuple.tupleItemsOf (.ref t) >>=_) _ _ s;refine aGb (tupleItemsOf_ ht ?_);refine aGb (aI7 hTs ?_);rw[if_pos (by decide)];refine aGb (i6 hs pl pu ?_)
 have hyes:((((cU items.size 0 lo:Nat):Int)==0 && (1:Int)==1 && (cU items.size items.size hi-cU items.size 0 lo)==items.size)=true):=by
  rw[hw.1,hw.2];simp
 show wpAny _ _ (if (((cU items.size 0 lo:Nat):Int)==0 && (1:Int)==1 && (cU items.size items.size hi-cU items.size 0 lo)==items.size)=true then _ else _) _ _ s;rw[if_pos hyes];have hT:=ht.typeIs;refine aGb ?_
 first
  | (refine aGb (aI7 hT (aGd ?_));simp only[beq_self_eq_true,if_true];refine aGb (aHg ?_);first | exact aGd (aGd ⟨_,rfl,aGd h⟩) | exact aGb (aGd (aGd ⟨_,rfl,aGd h⟩)) | exact aGb (aGd (aGd (aGd ⟨_,rfl,aGd h⟩))))
  | trace_state
end
section
variable {X:Cx}
theorem QE:SlR X (λx lo hi H Q=>∃a xs,x= .ref a/\oG X.K H a xs/\
  ((HT.cU xs.length 0 lo=0/\HT.cU xs.length xs.length hi=xs.length)->Q (.ref a) H)/\(¬(HT.cU xs.length 0 lo=0/\HT.cU xs.length xs.length hi=xs.length)->∀p,H p=none->Q (.ref p) (upd H p (.tup (AH xs lo hi))))):=by
 intro pins s σ H x v vl vu lo hi sl Q I rx hs pl pu h;obtain⟨a,xs,rfl,hx,q1,q2⟩:=h;by_cases hw:HT.cU xs.length 0 lo=0/\HT.cU xs.length xs.length hi=xs.length
 ·cases rx;obtain⟨aI,r,ht,hz⟩:=I.tuple hx;have hlen:aI.toArray.size=xs.length:=by rw[List.size_toArray];exact r.length.symm
  exact⟨"tuple",_,aHd.lookup,ht.typeIs,mV ht hs pl pu (by rw[hlen];exact hw) ⟨.ref a,H,I,rfl,q1 hw⟩⟩
 ·exact VP pins s σ H _ v vl vu lo hi sl Q I rx hs pl pu ⟨a,xs,rfl,hx,hw,q2 hw⟩
def cutD(xs:List D)(lo hi:Option Int):List D:=(xs.drop (HT.cU xs.length 0 lo)).take (HT.cU xs.length xs.length hi-HT.cU xs.length 0 lo)
abbrev OS:=D->Option Int->Option Int->MH->DK->Prop
def UJ(K:aKd)(f:OS):V->Option Int->Option Int->Hp->VK->Prop:=λx lo hi H Q=>∃μ mh dx R,Rep K μ mh H/\Is K μ H dx x/\f dx lo hi mh R/\Fin K μ H R Q
def Z4:OS:=λx lo hi mh Q=>match x with
 | .tup ds=>Q (.tup (cutD ds lo hi)) mh
 | _=>∃ds,mU mh x=some ds/\Q (.ref mh.length) (mh++[.lst (cutD ds lo hi)])
theorem HA{K:aKd}{μ:List Addr}{H:Hp}{ds:List D}{vs:List V}(l:IsL K μ H ds vs)(lo hi:Option Int):IsL K μ H (cutD ds lo hi) (AH vs lo hi):=by
 unfold cutD AH;rw[aK l];exact CJ _ (CL _ l)
theorem sll:SlR X (UJ X.K Z4):=by
 intro pins s σ H x v vl vu lo hi sl Q I rx hs pl pu q;obtain⟨μ,mh,dx,R,RR,ix,q,F⟩:=q
 have go:(∃ds,mU mh dx=some ds/\R (.ref mh.length) (mh++[.lst (cutD ds lo hi)]))->∃T id,typeLookup (.type T) "__getitem__"=pure (some (.builtin id))/\s.TypeIs v T/\wpAny (model X.prog X.w) X.A (getItem v (.ref sl)) (EP X pins σ Q) X.xe s:=λzz14=>by
  obtain⟨ds,e,q⟩:=zz14;obtain⟨a,vs,rfl,sq,l⟩:=uP RR ix e;exact QF pins s σ H _ v vl vu lo hi sl Q I rx hs pl pu ⟨a,vs,rfl,sq,iH RR F (HA l lo hi) q⟩
 cases dx with
 | tup ds=>
  obtain⟨a,vs,rfl,sq,l⟩:=eG ix;refine QE pins s σ H _ v vl vu lo hi sl Q I rx hs pl pu ⟨a,vs,rfl,sq,λhw=>?_,λ_=>mN RR F (HA l lo hi) q⟩
  have e:cutD ds lo hi=ds:=by
   unfold cutD;rw[<-aK l,hw.1,hw.2,aK l];simp
  have q' :R (.tup (cutD ds lo hi)) mh:=q;rw[e]at q';exact F.here RR q' ix
 | _=>exact go q
abbrev WO:=d7->MH->(Option Int->MH->Prop)->Prop
def tLO(K:aKd)(w:WO):TO:=λσ H Q=>∃μ ρ mh R,Rep K μ mh H/\cA K μ H ρ σ/\w ρ mh R/\∀o mh',R o mh' ->∀μ' H',aN μ H μ' H' ->Rep K μ' mh' H' ->Q o H'
def LO(X:Cx)(e:Option Expr)(w:WO):Prop:=PO X e (tLO X.K w)
def U5:WO:=λ_ mh Q=>Q none mh
def rF(w:WE):WO:=λρ mh Q=>w ρ mh λx mh1=>∃i,x= .int i/\Q (some i) mh1
variable {e:Expr}{w:WE}{lo hi:Option Expr}{wl wh:WO}{pos p2:Pos}
theorem R0:LO X none U5:=λpins s σ H Q I q=>Q2 pins s σ H Q I (by
 obtain⟨μ,ρ,mh,R,RR,E,h,F⟩:=q
 exact F none mh h μ H aN.refl RR)
theorem RZ(h:LE X e w):LO X (some e) (rF w):=λpins s σ H Q I q=>Q1 h pins s σ H Q I (by
 obtain⟨μ,ρ,mh,R,RR,E,h,F⟩:=q;refine⟨μ,ρ,mh,_,RR,E,h,λdx mh1 h1 μ1 vx H1 P1 R1 I1=>?_⟩;obtain⟨i,rfl,h1⟩:=h1
 exact⟨i,bO I1,F (some i) mh1 h1 μ1 H1 P1 R1⟩)
def wSl(f:OS)(w:WE)(wl wh:WO):WE:=λρ mh Q=>w ρ mh λx mh1=>wl ρ mh1 λl mh2=>wh ρ mh2 λu mh3=>f x l u mh3 Q
theorem ND{f:OS}(hr:SlR X (UJ X.K f))(he:LE X e w)(hl:LO X lo wl)(hh:LO X hi wh):LE X (.Subscript e (.Slice lo hi none p2) pos) (wSl f w wl wh):=PE.imp (MF hr he hl hh) λσ H Q q=>by
 obtain⟨μ,ρ,mh,R,RR,E,h,F⟩:=q;refine⟨μ,ρ,mh,_,RR,E,h,λdx mh1 h1 μ1 vx H1 P1 R1 I1=>⟨μ1,ρ,mh1,_,R1,E.mono RR P1,h1,λl mh2 h2 μ2 H2 P2 R2=>⟨μ2,ρ,mh2,_,R2,E.mono RR (P1.trans P2),h2,λu mh3 h3 μ3 H3 P3 R3=>?_⟩⟩⟩;exact⟨μ3,mh3,dx,R,R3,Is.mono R1 (P2.trans P3) dx vx I1,h3,F.at ((P1.trans P2).trans P3)⟩
abbrev OM:=D->List D->MH->DK->Prop
def liftM(K:aKd)(f:OM):V->List V->Hp->VK->Prop:=λx xs H Q=>∃μ mh dx ds R,Rep K μ mh H/\Is K μ H dx x/\IsL K μ H ds xs/\f dx ds mh R/\Fin K μ H R Q
def vY(mh:MH)(T:String):D->Prop
 | .str _=>T= "str"
 | .int _=>T= "int"
 | .ref n=>T= "list"/\∃ds,mh[n]? =some (.lst ds)
 | .fl _=>T= "list"
 | .tup _=>T= "tuple"
 | _=>False
theorem YB{μ:List Addr}{mh:MH}{H:Hp}{T:String}{d:D}{v:V}{K:aKd}(RR:Rep K μ mh H)(i:Is K μ H d v)(k:vY mh T d):tyV K T v H:=by
 cases d with
 | str z=>cases eU i;exact k
 | int z=>cases bO i;exact k
 | ref n=>obtain⟨e,ds,o⟩:=k;obtain⟨a,vs,rfl,_,hv,_⟩:=fT RR i o;exact .inl ⟨e,vs,.of hv⟩
 | fl ds=>obtain⟨a,vs,rfl,sq,_⟩:=pO i;exact .inl ⟨k,vs,sq.sq⟩
 | tup ds=>obtain⟨a,vs,rfl,sq,_⟩:=eG i;exact .inr (.inl ⟨k,vs,sq⟩)
 | _=>exact False.elim k
variable {o:Expr}{es:List Expr}{wo:WE}{wa:WA}{name:Str}{apos dE:Pos}{T id:String}
def GC(T:String)(f:OM)(wo:WE)(wa:WA):WE:=λρ mh Q=>wo ρ mh λx mh1=>vY mh1 T x/\wa ρ mh1 λds mh2=>f x ds mh2 Q
theorem UL{f:OM}(pa:PlainAttrs T)(slot:Slot T name id)(hty:typeOf (.builtin id)=pure (.type "method_descriptor"))(hm:MtR X id (liftM X.K f))(ho:LE X o wo)(ha:LA X (e::es) wa)
  (hbase:attributeBase o name X.env (eval o X.env)=eval o X.env:=by rfl)
  (hfew:((backTo dE (starEach (e::es) X.env)).all (λx=>!x.1) && (backToKw dE (keywordEach [] X.env)).all (λx=>x.1.isSome)
   && decide ((e::es).length+([]:List Keyword).length+(if ([]:List Keyword).isEmpty then 0 else 1)<30))=true:=by rfl)
  (hline:(apos.endLine==dE.line)=true:=by rfl) (hs:starEach (e::es) X.env=(false,eval e X.env)::starEach es X.env:=by rfl) (hplain:(backTo dE (starEach es X.env)).any (·.1)=false:=by rfl):
  LE X (.Call (.Attribute o name apos) (e::es) [] dE) (GC T f wo wa):=PE.imp (aBj pa slot hty hm ho ha hbase hfew hline hs hplain) λσ H Q q=>by
 obtain⟨μ,ρ,mh,R,RR,E,h,F⟩:=q;refine⟨μ,ρ,mh,_,RR,E,h,λdx mh1 h1 μ1 vx H1 P1 R1 I1=>⟨YB R1 I1 h1.1,μ1,ρ,mh1,_,R1,E.mono RR P1,h1.2,λds mh2 h2 μ2 vs H2 P2 R2 I2=>?_⟩⟩;exact⟨μ2,mh2,dx,ds,R,R2,Is.mono R1 P2 dx vx I1,I2,h2,F.at (P1.trans P2)⟩
def dD:OM:=λx ds mh Q=>∃n es d,x= .ref n/\ds=[d]/\mh[n]? =some (.lst es)/\es.length<sizeLine/\Q .b6 (mh.set n (.lst (es++[d])))
theorem IV:MtR X "list.append" (liftM X.K dD):=by
 intro pins s σ H x xs v us Q I rx rs q;obtain⟨μ,mh,dx,ds,R,RR,ix,il,⟨n,es,d,rfl,rfl,e,hz,q⟩,F⟩:=q;obtain⟨a,vs,rfl,hn,hv,l⟩:=fT RR ix e;obtain⟨z,rfl,iz⟩:=nK il;exact qJ pins s σ H _ _ v us Q I rx rs ⟨a,vs,z,rfl,rfl,hv,by rw[aK l];exact hz,F.put RR hn (eJ l (jN iz)) q .b6⟩
end
structure eO where
 nx:d7->MH->Prop
 rt:DK
 bk:d7->MH->Prop:=λ_ _=>False
 ct:d7->MH->Prop:=λ_ _=>False
abbrev WS:=eO->d7->MH->Prop
def F1(K:aKd)(μ:List Addr)(H:Hp)(R:d7->MH->Prop)(Q:L2.St->Hp->Prop):Prop:=
 ∀ρ' mh',R ρ' mh' ->∀μ' σ' H',aN μ H μ' H' ->Rep K μ' mh' H' ->cA K μ' H' ρ' σ' ->Q σ' H'
structure AX(K:aKd)(μ:List Addr)(H:Hp)(E:eO)(D:Ends):Prop where
 nx:F1 K μ H E.nx D.nx
 rt:Fin K μ H E.rt D.rt
 bk:F1 K μ H E.bk D.bk
 ct:F1 K μ H E.ct D.ct
def tLS(K:aKd)(w:WS):TS:=λD σ H=>∃μ ρ mh E,Rep K μ mh H/\cA K μ H ρ σ/\w E ρ mh/\AX K μ H E D
def LS(X:Cx)(st:Stmt)(w:WS):Prop:=PS X st (tLS X.K w)
def mC(X:Cx)(st:List Stmt)(w:WS):Prop:=AW X st (tLS X.K w)
theorem PS.imp{X:Cx}{e:Stmt}{t t' :TS}(h:PS X e t)(i:∀D σ H,t' D σ H->t D σ H):PS X e t' :=λpins s σ H D I q=>h pins s σ H D I (i D σ H q)
theorem AW.imp{X:Cx}{e:List Stmt}{t t' :TS}(h:AW X e t)(i:∀D σ H,t' D σ H->t D σ H):AW X e t' :=λpins s σ H D I q=>h pins s σ H D I (i D σ H q)
section
variable {K:aKd}{μ μ1:List Addr}{H H1:Hp}
theorem F1.at{R:d7->MH->Prop}{Q:L2.St->Hp->Prop}(F:F1 K μ H R Q)(P:aN μ H μ1 H1):F1 K μ1 H1 R Q:=λρ' mh' r μ' σ' H' P' R' I=>F ρ' mh' r μ' σ' H' (P.trans P') R' I
theorem AX.at{E:eO}{D:Ends}(F:AX K μ H E D)(P:aN μ H μ1 H1):AX K μ1 H1 E D:=⟨F.nx.at P,F.rt.at P,F.bk.at P,F.ct.at P⟩
theorem cA.set{ρ:d7}{σ:L2.St}{d:D}{v:V}(E:cA K μ H ρ σ)(i:Nat)(h:Is K μ H d v):cA K μ H (ρ.set i (some d)) (σ.set i (some v)):=by
 refine⟨by simp[E.1],λj e hj=>?_⟩;by_cases hji:j=i
 ·subst hji
  have hl:j<ρ.length:=by
   have:=(aGc.mp hj).1;simpa using this
  rw[List.getElem?_set_self hl]at hj;cases hj;exact⟨v,by rw[List.getElem?_set_self (by rw[<-E.1];exact hl)],h⟩
 ·rw[List.getElem?_set_ne (Ne.symm hji)]at hj;obtain⟨u,h1,h2⟩:=E.2 j e hj;exact⟨u,by rw[List.getElem?_set_ne (Ne.symm hji)];exact h1,h2⟩
end
def dI:WS:=λE ρ mh=>E.nx ρ mh
def aW(t u:WS):WS:=λE ρ mh=>t {E with nx:=u E} ρ mh
def U6:WS:=λE ρ mh=>E.ct ρ mh
def iE(w:WE):WS:=λE ρ mh=>w ρ mh λ_ mh1=>E.nx ρ mh1
def dW(w:WE):WS:=λE ρ mh=>w ρ mh E.rt
def gC(t:WT)(a b:WS):WS:=λE ρ mh=>t ρ mh λc mh1=>if c=true then a E ρ mh1 else b E ρ mh1
section
variable {X:Cx}{st:Stmt}{rest a b:List Stmt}{t u:WS}{e:Expr}{w:WE}{wt:WT}{pos:Pos}
theorem XR:mC X [] dI:=AW.imp QW λD σ H zz0=>by obtain⟨μ,ρ,mh,E,R,En,h,F⟩:=zz0;exact F.nx ρ mh h μ σ H aN.refl R En
theorem RY(h1:LS X st t)(h2:mC X rest u):mC X (st::rest) (aW t u):=AW.imp (L6 h1 h2) λD σ H zz1=>by
 obtain⟨μ,ρ,mh,E,R,En,h,F⟩:=zz1;exact⟨μ,ρ,mh,_,R,En,h,⟨λρ' mh' q μ' σ' H' P' R' En' =>⟨μ',ρ',mh',E,R',En',q,F.at P'⟩,F.rt,F.bk,F.ct⟩⟩
theorem XQ(h1:LS X st t):mC X [st] t:=QV h1
theorem B5:LS X (.Continue pos) U6:=PS.imp BO λD σ H zz4=>by obtain⟨μ,ρ,mh,E,R,En,h,F⟩:=zz4;exact F.ct ρ mh h μ σ H aN.refl R En
theorem RW(he:LE X e w)(hs:swapsWith e none pos.line X.env=pure false:=by rfl):LS X (.Expr e pos) (iE w):=PS.imp (QX he hs) λD σ H ⟨μ,ρ,mh,E,R,En,h,F⟩=>
 ⟨μ,ρ,mh,_,R,En,h,λd mh1 q μ1 v H1 P1 R1 I1=>F.nx ρ mh1 q μ1 σ H1 P1 R1 (En.mono R P1)⟩
theorem XN(he:LE X e w):LS X (.Return (some e) pos) (dW w):=PS.imp (V0 he) λD σ H zz6=>by obtain⟨μ,ρ,mh,E,R,En,h,F⟩:=zz6;exact⟨μ,ρ,mh,_,R,En,h,F.rt⟩
theorem aBy{c:Expr}(hc:LT X c wt)(ha:mC X a t)(hb:mC X b u):LS X (.If c a b pos) (gC wt t u):=PS.imp (aBd hc ha hb) λD σ H zz8=>by
 obtain⟨μ,ρ,mh,E,R,En,h,F⟩:=zz8;refine⟨μ,ρ,mh,_,R,En,h,λk mh1 q μ1 H1 P1 R1=>?_⟩
 cases k with
 | true=>rw[if_pos rfl]at q⊢;exact⟨μ1,ρ,mh1,E,R1,En.mono R P1,q,F.at P1⟩
 | false=>rw[if_neg Bool.false_ne_true]at q⊢;exact⟨μ1,ρ,mh1,E,R1,En.mono R P1,q,F.at P1⟩
abbrev WG:=D->d7->(d7->Prop)->Prop
abbrev TN:=List D->d7->(d7->Prop)->Prop
def jV(K:aKd)(g:TG)(gd:WG):Prop:=∀v σ H Q μ ρ mh d R,Rep K μ mh H->cA K μ H ρ σ->Is K μ H d v->gd d ρ R->(∀ρ',R ρ' ->∀σ',cA K μ H ρ' σ' ->Q σ' H)->g v σ H Q
def yK(K:aKd)(g:DQ)(gd:TN):Prop:=∀vs σ H Q μ ρ mh ds R,Rep K μ mh H->cA K μ H ρ σ->IsL K μ H ds vs->gd ds ρ R->(∀ρ',R ρ' ->∀σ',cA K μ H ρ' σ' ->Q σ' H)->g vs σ H Q
def gN(i:Nat):WG:=λd ρ Q=>Q (ρ.set i (some d))
def cR:TN:=λds ρ Q=>ds=[]/\Q ρ
def aH(t:WG)(u:TN):TN:=λds ρ Q=>∃d r,ds=d::r/\t d ρ λρ' =>u r ρ' Q
def gT(n:Nat)(u:TN):WG:=λd ρ Q=>∃ds,d= .tup ds/\ds.length=n/\u ds ρ Q
theorem zW{K:aKd}(i:Nat):jV K (pR i) (gN i):=λv σ H Q μ ρ mh d R RR En I h F=>F _ h _ (En.set i I)
theorem SY{K:aKd}:yK K JP cR:=λvs σ H Q μ ρ mh ds R RR En I h F=>by
 obtain⟨rfl,h⟩:=h;unfold IsL at I;exact⟨I,F ρ h σ En⟩
theorem N8{K:aKd}{g:TG}{gs:DQ}{gd:WG}{gds:TN}(h1:jV K g gd)(h2:yK K gs gds):yK K (xT g gs) (aH gd gds):=λvs σ H Q μ ρ mh ds R RR En I h F=>by
 obtain⟨d,r,rfl,h⟩:=h;unfold IsL at I;obtain⟨v,vr,rfl,I1,I2⟩:=I;exact⟨v,vr,rfl,h1 v σ H _ μ ρ mh d _ RR En I1 h λρ' q σ' En' =>h2 vr σ' H Q μ ρ' mh r R RR En' I2 q F⟩
theorem YW{K:aKd}{n:Nat}{gs:DQ}{gds:TN}(h:yK K gs gds):jV K (S2 K n gs) (gT n gds):=λv σ H Q μ ρ mh d R RR En I q F=>by
 obtain⟨ds,rfl,hl,q⟩:=q;obtain⟨a,vs,rfl,sq,l⟩:=eG I;exact⟨a,vs,rfl,sq,by rw[aK l];exact hl,h vs σ H Q μ ρ mh ds R RR En l q F⟩
def bS(w:WE)(g:WG):WS:=λE ρ mh=>w ρ mh λd mh1=>g d ρ λρ' =>E.nx ρ' mh1
theorem FX{K:aKd}{g:TG}{gd:WG}{D:Ends}{σ:L2.St}{H:Hp}(hr:jV K g gd)(h:tLS K (bS w gd) D σ H):QB (tL K w) g D σ H:=by
 obtain⟨μ,ρ,mh,E,R,En,h,F⟩:=h;refine⟨μ,ρ,mh,_,R,En,h,λd mh1 q μ1 v H1 P1 R1 I1=>?_⟩;exact hr v σ H1 _ μ1 ρ mh1 d _ R1 (En.mono R P1) I1 q λρ' q' σ' En' =>F.nx ρ' mh1 q' μ1 σ' H1 P1 R1 En'
theorem XM(i:Nat){x:Str}{pos' :Pos}(hN:X.N.Nodup)(he:LE X e w)(hi:X.N[i]? =some x:=by rfl)(hx:Loc X.env.scope x:=by first | exact Or.inl rfl | exact Or.inr rfl)(hs:swapsWith e (some (.Name x pos')) pos.line X.env=pure false:=by rfl)(hf:X.fn x=true\/X.env.scope.names.lookup x=some .local:=by first | exact .inl rfl | exact .inr rfl | assumption):
  LS X (.Assign [.Name x pos'] e pos) (bS w (gN i)):=PS.imp (VZ hN hi hx he hs hf) λD σ H h=>FX (zW i) h
theorem XU{tg:Expr}{g:TG}{gd:WG}(he:LE X e w)(hg:PG X tg g)(hr:jV X.K g gd)(hs:swapsWithSole [tg] e pos.line X.env=pure false:=by rfl)(hw:swappedStores [tg] e X.env=pure none:=by rfl)
  (h1:(assignEach [tg] X.env).map (·.2)=[assign tg X.env]:=by rfl):LS X (.Assign [tg] e pos) (bS w gd):=PS.imp (L9 he hg hs hw h1) λD σ H h=>FX hr h
def QH:D->D->D->MH->(MH->Prop)->Prop:=λo i d mh Q=>∃n ds k j,o= .ref n/\i= .int k/\mh[n]? =some (.lst ds)/\E5 ds.length k=some j/\Q (mh.set n (.lst (ds.set j d)))
def tF(w wo wi:WE):WS:=λE ρ mh=>w ρ mh λd mh1=>wo ρ mh1 λo mh2=>wi ρ mh2 λi mh3=>QH o i d mh3 λmh4=>E.nx ρ mh4
theorem RU{o i:Expr}{wo wi:WE}{lF:Pos}(he:LE X e w)(ho:LE X o wo)(hi:LE X i wi)
  (ha:∀v,assign (.Subscript o i lF) X.env v=(do
   let ov<-holding [v] (eval o X.env)
   let iv<-holding [v,ov] (eval i X.env)
   standAt lF
   holding [v,ov,iv] (setItem ov iv v)
   release [v,ov,iv] []):=by intro _;rfl)
  (hs:swapsWithSole [.Subscript o i lF] e pos.line X.env=pure false:=by rfl) (hw:swappedStores [.Subscript o i lF] e X.env=pure none:=by rfl)
  (h1:(assignEach [.Subscript o i lF] X.env).map (·.2)=[assign (.Subscript o i lF) X.env]:=by rfl):LS X (.Assign [.Subscript o i lF] e pos) (tF w wo wi):=
 PS.imp (L9 he (V6 ho hi set_list ha) hs hw h1) λD σ H h=>by
  obtain⟨μ,ρ,mh,E,R,En,h,F⟩:=h;refine⟨μ,ρ,mh,_,R,En,h,λd mh1 q μ1 v H1 P1 R1 I1=>?_⟩;refine⟨μ1,ρ,mh1,_,R1,En.mono R P1,q,λdo' mh2 q2 μ2 vo H2 P2 R2 I2=>?_⟩;refine⟨μ2,ρ,mh2,_,R2,En.mono R (P1.trans P2),q2,λdi mh3 q3 μ3 vi H3 P3 R3 I3=>?_⟩;obtain⟨n,ds,k,j,rfl,rfl,e1,e2,q4⟩:=q3;obtain⟨a,vs,rfl,hn,hv,l⟩:=fT R3 (Is.mono R2 P3 _ _ I2) e1;cases bO I3;have Iv:=Is.mono R1 (P2.trans P3) d v I1;have P4:aN μ3 H3 μ3 (upd H3 a (.lst (vs.set j v))):=aN.set R3 hn;have R4:=R3.set hn (G9 j Iv l);have P04:=((P1.trans P2).trans P3).trans P4;exact⟨a,vs,k,j,rfl,rfl,hv,by rw[aK l];exact e2,F.nx ρ _ q4 μ3 σ _ P04 R4 (En.mono R P04)⟩
def DW(t:WT)(b:WS):WS:=λE ρ mh=>∃W:Nat->d7->MH->Prop,(∃m,W m ρ mh)/\∀m ρ mh,W m ρ mh->∃N:d7->MH->Prop,(∀ρ' mh',N ρ' mh' ->∃m',m'<m/\W m' ρ' mh')/\
 t ρ mh λc mh1=>if c=true then b {E with nx:=N,ct:=N,bk:=E.nx} ρ mh1 else E.nx ρ mh1
theorem M9{c:Expr}{body:List Stmt}(hp:PassesOwn (model X.prog X.w) X.A X.env X.xe)(hc:LT X c wt)(hb:mC X body t):LS X (.While c body [] pos) (DW wt t):=PS.imp (L7 hp hc hb) λD σ H h=>by
 obtain⟨μ,ρ,mh,E,R,En,⟨W,⟨m,w0⟩,turn⟩,F⟩:=h;refine⟨λm σ' H' =>∃μ' ρ' mh',aN μ H μ' H' /\Rep X.K μ' mh' H' /\cA X.K μ' H' ρ' σ' /\W m ρ' mh',⟨m,μ,ρ,mh,aN.refl,R,En,w0⟩,?_⟩;rintro m σ' H' ⟨μ',ρ',mh',P',R',En',w'⟩;obtain⟨N,hN,tt⟩:=turn m ρ' mh' w';refine⟨μ',ρ',mh',_,R',En',tt,λk mh1 q μ1 H1 P1 R1=>?_⟩
 cases k with
 | false=>rw[if_neg Bool.false_ne_true]at q⊢;exact F.nx ρ' mh1 q μ1 σ' H1 (P'.trans P1) R1 (En'.mono R' P1)
 | true=>
  rw[if_pos rfl]at q⊢;refine⟨λσ2 H2=>∃μ2 ρ2 mh2,aN μ H μ2 H2/\Rep X.K μ2 mh2 H2/\cA X.K μ2 H2 ρ2 σ2/\N ρ2 mh2,?_,?_⟩
  ·rintro σ2 H2 ⟨μ2,ρ2,mh2,P2,R2,En2,n2⟩;obtain⟨m',hm,w2⟩:=hN ρ2 mh2 n2;exact⟨m',hm,μ2,ρ2,mh2,P2,R2,En2,w2⟩
  ·have P01:=P'.trans P1;exact⟨μ1,ρ',mh1,_,R1,En'.mono R' P1,q,⟨λρ2 mh2 n2 μ2 σ2 H2 P2 R2 En2=>⟨μ2,ρ2,mh2,P01.trans P2,R2,En2,n2⟩,F.rt.at P01,F.nx.at P01,λρ2 mh2 n2 μ2 σ2 H2 P2 R2 En2=>⟨μ2,ρ2,mh2,P01.trans P2,R2,En2,n2⟩⟩⟩
def nV(t:WT)(b:WS)(E:eO):Nat->d7->MH->Prop
 | 0,_,_=>False
 | n+1,ρ,mh=>t ρ mh λc mh1=>if c=true then b {E with nx:=nV t b E n,ct:=nV t b E n,bk:=E.nx} ρ mh1 else E.nx ρ mh1
theorem DV{t:WT}{b:WS}{E:eO}{ρ:d7}{mh:MH}(n:Nat)(h:nV t b E n ρ mh):DW t b E ρ mh:=by
 refine⟨λm ρ mh=>nV t b E m ρ mh,⟨n,h⟩,λm ρ mh hw=>?_⟩
 cases m with
 | zero=>exact hw.elim
 | succ m=>exact⟨nV t b E m,λρ' mh' q=>⟨m,aI1 _,q⟩,hw⟩
abbrev WI:=d7->MH->(List D->(MH->Prop)->MH->Prop)->Prop
structure eL(μ:List Addr)(H:Hp)(μ' :List Addr)(H' :Hp):Prop where
 pre:∃t,μ' =μ++t
 fr:∀b o,H b=some o->¬Own (some o)->H' b=some o
section
variable {K:aKd}{μ μ' :List Addr}{mh:MH}{H H' :Hp}
theorem aN.weak(R:Rep K μ mh H)(P:aN μ H μ' H'):eL μ H μ' H' :=⟨P.pre,λb o e n=>P.fr b o e λhm=>n (by have:=R.mut hm;rwa [e]at this)⟩
theorem eL.trans{μ1:List Addr}{H1:Hp}(P:eL μ H μ1 H1)(Q:eL μ1 H1 μ' H'):eL μ H μ' H' :=⟨by obtain⟨t,rfl⟩:=P.pre;obtain⟨u,rfl⟩:=Q.pre;exact⟨t++u,by simp⟩,λb o e n=>Q.fr b o (P.fr b o e n) n⟩
theorem eL.get(p:eL μ H μ' H'){n:Nat}{a:Addr}(h:μ[n]? =some a):μ'[n]? =some a:=by
 obtain⟨t,rfl⟩:=p.pre;rw[List.getElem?_append_left (List.getElem?_eq_some_iff.mp h).1];exact h
theorem eL.sqT(p:eL μ H μ' H'){a:Addr}{vs:List V}(h:oG K H a vs):oG K H' a vs:=by
 rcases h with (h | ⟨o,h⟩) | h
 ·exact .inl (.inl (p.fr _ _ h id))
 ·exact .inl (.inr ⟨o,p.fr _ _ h id⟩)
 ·exact .inr h
theorem eL.sqF(p:eL μ H μ' H'){a:Addr}{vs:List V}(h:PJ K H a vs):PJ K H' a vs:=by
 rcases h with ⟨o,h⟩ | h
 ·exact .inl ⟨o,p.fr _ _ h id⟩
 ·exact .inr h
mutual
theorem Is.kG(p:eL μ H μ' H'):∀(d:D) (v:V),Is K μ H d v->Is K μ' H' d v
 | .b6,v,h=>by unfold Is at*;exact h
 | .bl _,v,h=>by unfold Is at*;exact h
 | .int _,v,h=>by unfold Is at*;exact h
 | .str _,v,h=>by unfold Is at*;exact h
 | .ty _,v,h=>by unfold Is at*;exact h
 | .tup ds,v,h=>by
  unfold Is at*;obtain⟨a,vs,e,s,l⟩:=h;exact⟨a,vs,e,p.sqT s,IsL.kG p ds vs l⟩
 | .fl ds,v,h=>by
  unfold Is at*;obtain⟨a,vs,e,s,l⟩:=h;exact⟨a,vs,e,p.sqF s,IsL.kG p ds vs l⟩
 | .ref n,v,h=>by
  unfold Is at*;obtain⟨a,e,q⟩:=h;exact⟨a,p.get e,q⟩
theorem IsL.kG(p:eL μ H μ' H'):∀(ds:List D) (vs:List V),IsL K μ H ds vs->IsL K μ' H' ds vs
 | [],vs,h=>by unfold IsL at*;exact h
 | d::ds,vs,h=>by
  unfold IsL at*;obtain⟨v,r,e,q,l⟩:=h;exact⟨v,r,e,Is.kG p d v q,IsL.kG p ds r l⟩
end
end
structure KH(K:aKd)(μ:List Addr)(H:Hp)(ds:List D)(St:MH->Prop)(J:It):Prop where
 small:ds.length<=sizeLine
 go:∀μ' mh' H',eL μ H μ' H' ->Rep K μ' mh' H' ->St mh' ->∀(i:Nat) d,ds[i]? =some d->J.go i H' /\∀x H'',J.ZX i H' x H'' ->aN μ' H' μ' H'' /\Rep K μ' mh' H'' /\Is K μ' H'' d x
 stop:∀μ' mh' H',eL μ H μ' H' ->Rep K μ' mh' H' ->St mh' ->J.stop ds.length H'
def T8(K:aKd)(w:WI):TI:=λσ H R=>∃μ ρ mh R',Rep K μ mh H/\cA K μ H ρ σ/\w ρ mh R' /\
 ∀ds St mh1,R' ds St mh1->∀μ1 J H1,aN μ H μ1 H1->Rep K μ1 mh1 H1->KH K μ1 H1 ds St J->R J H1
def LI(X:Cx)(tg iter:Expr)(w:WI):Prop:=PI X tg iter (T8 X.K w)
theorem PI.imp{X:Cx}{tg e:Expr}{t t' :TI}(h:PI X tg e t)(i:∀σ H Q,t' σ H Q->t σ H Q):PI X tg e t' :=λpins s σ H Q I q=>h pins s σ H Q I (i σ H Q q)
def kH(g:WG)(b:WS)(E:eO)(St:MH->Prop):List D->d7->MH->Prop
 | [],ρ,mh=>St mh/\E.nx ρ mh
 | d::ds,ρ,mh=>St mh/\g d ρ λρ2=>b {E with nx:=kH g b E St ds,ct:=kH g b E St ds,bk:=E.nx} ρ2 mh
def jF(wi:WI)(g:WG)(b:WS):WS:=λE ρ mh=>wi ρ mh λds St mh1=>kH g b E St ds ρ mh1
theorem XS{tg iter:Expr}{body:List Stmt}{wi:WI}{g:TG}{gd:WG}(hp:PassesOwn (model X.prog X.w) X.A X.env X.xe)(hc:X.calm=true)(hi:LI X tg iter wi)(hg:PG X tg g)(hr:jV X.K g gd)(hb:mC X body t)
  (hs:∀x,foldedSetIterable iter X.env x=pure x:=by intro _;rfl):LS X (.For tg iter body [] pos) (jF wi gd t):=PS.imp (V2 hp hc hi hg hb hs) λD σ H h=>by
 obtain⟨μ,ρ,mh,E,R,En,h,F⟩:=h;refine⟨μ,ρ,mh,_,R,En,h,λds St mh1 q μ1 J H1 P1 R1 It=>?_⟩;refine⟨λi m σ' H' =>∃μ' ρ' mh',aN μ1 H1 μ' H' /\Rep X.K μ' mh' H' /\cA X.K μ' H' ρ' σ' /\i<=ds.length/\m=ds.length-i/\kH gd t E St (ds.drop i) ρ' mh',⟨ds.length,μ1,ρ,mh1,aN.refl,R1,En.mono R P1,aHp _,by simp,by simpa using q⟩,?_⟩;rintro i m σ' H' ⟨μ',ρ',mh',P',R',En',hi',rfl,l⟩;by_cases hlt:i<ds.length
 ·rw[List.drop_eq_getElem_cons hlt]at l;obtain⟨hst,l⟩:=l;obtain⟨hgo,hy⟩:=It.go μ' mh' H' (P'.weak R1) R' hst i ds[i] (by simp[hlt]);refine .inr ⟨hgo,λσ2 H2=>∃μ2 ρ2 mh2,aN μ1 H1 μ2 H2/\Rep X.K μ2 mh2 H2/\cA X.K μ2 H2 ρ2 σ2/\kH gd t E St (ds.drop (i+1)) ρ2 mh2,?_,λx H'' y=>?_⟩
  ·rintro σ2 H2 ⟨μ2,ρ2,mh2,P2,R2,En2,l2⟩;exact⟨ds.length-(i+1),by lia,μ2,ρ2,mh2,P2,R2,En2,hlt,rfl,l2⟩
  ·obtain⟨Py,Ry,Iy⟩:=hy x H'' y;refine hr x σ' H'' _ μ' ρ' mh' _ _ Ry (En'.mono R' Py) Iy l λρ3 q3 σ3 En3=>?_;have P3:=P'.trans Py;have P03:=P1.trans P3
   have nxt:F1 X.K μ' H'' (kH gd t E St (ds.drop (i+1))) (λσ2 H2=>∃μ2 ρ2 mh2,aN μ1 H1 μ2 H2/\Rep X.K μ2 mh2 H2/\cA X.K μ2 H2 ρ2 σ2/\kH gd t E St (ds.drop (i+1)) ρ2 mh2):=
    λρ2 mh2 n2 μ2 σ2 H2 P2 R2 En2=>⟨μ2,ρ2,mh2,P3.trans P2,R2,En2,n2⟩
   exact⟨μ',ρ3,mh',_,Ry,En3,q3,⟨nxt,F.rt.at P03,F.nx.at P03,nxt⟩⟩
 ·have e:i=ds.length:=by lia
  subst e;rw[List.drop_of_length_le (Nat.le_refl _)]at l;exact .inl ⟨It.stop μ' mh' H' (P'.weak R1) R' l.1,F.nx ρ' mh' l.2 μ' σ' H' (P1.trans P') R' En'⟩
end
def cY(w:WE):WI:=λρ mh Q=>w ρ mh λx mh1=>∃ds,bG mh1 x=some ds/\Q ds (λmh' =>bG mh' x=some ds) mh1
section
variable {K:aKd}{μ:List Addr}{mh:MH}{H:Hp}{ds:List D}{vs:List V}{a:Addr}
theorem YK{St:MH->Prop}(R:Rep K μ mh H)(s:oG K H a vs)(l:IsL K μ H ds vs)(hz:ds.length<=sizeLine):KH K μ H ds St (Itt K a):=by
 refine⟨hz,λμ' mh' H' P' R' _ i d e=>?_,λμ' mh' H' P' R' _=>⟨vs,P'.sqT s,by rw[aK l];exact aGi _⟩⟩;have s' :=P'.sqT s;obtain⟨v,ev,iv⟩:=eI (IsL.kG P' ds vs l) e;refine⟨⟨vs,v,s',ev⟩,λx H'' y=>?_⟩;obtain⟨rfl,y⟩:=y;have:=y vs s';rw[ev]at this;cases this;exact⟨aN.refl,R',iv⟩
theorem aCg{St:MH->Prop}(R:Rep K μ mh H)(s:PJ K H a vs)(l:IsL K μ H ds vs)(hz:ds.length<=sizeLine):KH K μ H ds St (Itl K a):=by
 refine⟨hz,λμ' mh' H' P' R' _ i d e=>?_,λμ' mh' H' P' R' _=>⟨vs,(P'.sqF s).sq,by rw[aK l];exact aGi _⟩⟩;have s' :=(P'.sqF s).sq;obtain⟨v,ev,iv⟩:=eI (IsL.kG P' ds vs l) e;refine⟨⟨vs,v,s',ev⟩,λx H'' y=>?_⟩;obtain⟨rfl,y⟩:=y;have:=y vs s';rw[ev]at this;cases this;exact⟨aN.refl,R',iv⟩
theorem sJ{mh:MH}{n:Nat}{ds:List D}(h:bG mh (.ref n)=some ds):mh[n]? =some (.lst ds):=by
 simp only[bG]at h
 cases o:mh[n]? with
 | none=>rw[o]at h;cases h
 | some ob=>cases ob with
  | lst es=>rw[o]at h;cases h;rfl
  | dic t kvs=>rw[o]at h;cases h
  | fdc t kvs ob=>rw[o]at h;cases h
theorem YM{n:Nat}(R:Rep K μ mh H)(hn:μ[n]? =some a)(hz:ds.length<=sizeLine):KH K μ H ds (λmh' =>bG mh' (.ref n)=some ds) (Itl K a):=by
 refine⟨hz,λμ' mh' H' P' R' hs i d e=>?_,λμ' mh' H' P' R' hs=>?_⟩
 ·obtain⟨vs,hv,l⟩:=R'.obj n a _ (P'.get hn) (sJ hs);obtain⟨v,ev,iv⟩:=eI l e;refine⟨⟨vs,v,.of hv,ev⟩,λx H'' y=>?_⟩;obtain⟨rfl,y⟩:=y;have:=y vs (.of hv);rw[ev]at this;cases this;exact⟨aN.refl,R',iv⟩
 ·obtain⟨vs,hv,l⟩:=R'.obj n a _ (P'.get hn) (sJ hs);exact⟨vs,.of hv,by rw[aK l];exact aGi _⟩
end
section
variable {X:Cx}{tg l:Expr}{w:WE}
theorem XW(hl:LE X l w):LI X tg l (cY w):=by
 intro pins s σ H R I h;obtain⟨μ,ρ,mh,R',RR,En,h,F⟩:=h;refine cD (hl pins s σ H (λv H1=>∃μ1 x mh1 ds,aN μ H μ1 H1/\Rep X.K μ1 mh1 H1/\Is X.K μ1 H1 x v/\bG mh1 x=some ds/\R' ds (λmh' =>bG mh' x=some ds) mh1) I ⟨μ,ρ,mh,_,RR,En,h,λd mh1 q μ1 v H1 P1 R1 I1=>?_⟩) λv s1 ⟨x,H1,I1,r1,q1⟩=>?_
 ·obtain⟨ds,e,q⟩:=q;exact⟨μ1,d,mh1,ds,P1,R1,I1,e,q⟩
 ·obtain⟨μ1,dx,mh1,ds,P1,R1,ix,e,q⟩:=q1;obtain⟨a,vs,rfl,sq,il⟩:=yV R1 ix e;have hz:ds.length<=sizeLine:=by rw[<-aK il];exact VM I1 sq
  have listW:∀{vs:List V},oH X.K H1 a vs->KH X.K μ1 H1 ds (λmh' =>bG mh' dx=some ds) (Itl X.K a)->wpAny (model X.prog X.w) X.A (pyIter v) (PIE X pins σ tg R) X.xe s1:=λ{vs} sq It=>by
   obtain⟨aI,rv,p,_⟩:=I1.list sq;cases r1;refine wpAny_pyIter_list p.isList ?_;refine⟨s1.heap.objs.size,[s1.heap.objs.size],_,_,H1,rfl,I1.kept (t' :=s1.toks) λb o e=>aGe _ e,HV a _,⟨_,aGj _ rfl,rfl,rfl⟩,λb hb=>?_,F ds _ mh1 q μ1 _ H1 P1 R1 It⟩;have e:b=s1.heap.objs.size:=by simpa using hb
   subst e;exact I1.OG (aGi _) (I1.bZ.fresh (aGi _))
  cases dx with
  | tup es=>
   cases e;obtain⟨a',vs',ea,sq',il'⟩:=eG ix;cases ea;obtain⟨aI,rv,p,_⟩:=I1.tuple sq';cases r1;refine wpAny_pyIter_tuple (show s1.heap.IsTuple a aI.toArray from p) ?_;refine⟨s1.heap.objs.size,[s1.heap.objs.size],_,_,H1,rfl,I1.kept (t' :=s1.toks) λb o e=>aGe _ e,DX a _,⟨_,aGj _ rfl,rfl,rfl⟩,λb hb=>?_,F ds _ mh1 q μ1 _ H1 P1 R1 (YK R1 sq' il' hz)⟩;have e:b=s1.heap.objs.size:=by simpa using hb
   subst e;exact I1.OG (aGi _) (I1.bZ.fresh (aGi _))
  | fl es=>
   cases e;obtain⟨a',vs',ea,sq',il'⟩:=pO ix;cases ea;exact listW sq'.sq (aCg R1 sq' il' hz)
  | ref n=>
   obtain⟨a',vs',ea,hn,hv,il'⟩:=fT R1 ix (sJ e);cases ea;exact listW (.of hv) (YM R1 hn hz)
  | _=>cases e
def uC(lo:Int)(n:Nat):List D:=(List.range n).map λ(k:Nat)=>D.int (lo+(k:Int))
theorem YL{K:aKd}{μ:List Addr}{H:Hp}{St:MH->Prop}{lo:Int}{n:Nat}(hz:n<=sizeLine):KH K μ H (uC lo n) St (Itr lo n):=by
 refine⟨by simpa[uC] using hz,λμ' mh' H' P' R' _ i d e=>?_,λμ' mh' H' P' R' _=>by show n<=_;simp[uC]⟩;simp only[uC,List.getElem?_map]at e;obtain⟨k,hk,rfl⟩:=aHb.mp e;obtain⟨hi,rfl⟩:=aGc.mp hk;simp at hi;refine⟨hi,λx H'' y=>?_⟩;obtain⟨rfl,rfl⟩:=y;exact⟨aN.refl,R',by simp;exact .int⟩
variable {a b:Expr}{wa:WA}{p pos:Pos}
def kA(wa:WA):WI:=λρ mh Q=>wa ρ mh λds mh1=>∃j,ds=[.int j]/\ -(2^62)<=j/\j<=sizeLine/\Q (uC 0 j.toNat) (λ_=>True) mh1
theorem IY(hg:Gl X "range")(hm:X.mg "range"=none)(ha:LA X [a] wa)(hs:starEach [a] X.env=[(false,eval a X.env)]:=by rfl):LI X tg (.Call (.Name "range" p) [a] [] pos) (kA wa):=
 PI.imp (IK hg hm ha hs) λσ H R h=>by
  obtain⟨μ,ρ,mh,R',RR,En,h,F⟩:=h;refine⟨μ,ρ,mh,_,RR,En,h,λds mh1 q μ1 vs H1 P1 R1 I1=>?_⟩;obtain⟨j,rfl,h1,h2,q⟩:=q;obtain⟨v,rfl,iv⟩:=nK I1;cases bO iv;have hl:=lQ;have hs:sizeLine=16777216:=aH1;exact⟨j,rfl,h1,by lia,F _ _ mh1 q μ1 _ H1 P1 R1 (YL (by lia))⟩
def kI:List D->List D->List D
 | a::as,b::bs=>.tup [a,b]::kI as bs
 | _,_=>[]
theorem sR:∀(as bs:List D),(kI as bs).length=min as.length bs.length
 | [],bs=>by simp[kI]
 | a::as,[]=>by simp[kI]
 | a::as,b::bs=>by simp[kI,sR as bs]
theorem A2:∀{as bs:List D} {i:Nat} {d:D},(kI as bs)[i]? =some d->∃x y,as[i]? =some x/\bs[i]? =some y/\d= .tup [x,y]
 | [],bs,i,d,h=>by simp[kI]at h
 | a::as,[],i,d,h=>by simp[kI]at h
 | a::as,b::bs,0,d,h=>by simp[kI]at h;exact⟨a,b,rfl,rfl,h.symm⟩
 | a::as,b::bs,i+1,d,h=>by simpa using A2 (as:=as) (bs:=bs) (i:=i) (by simpa[kI] using h)
def A8(wa:WA):WI:=λρ mh Q=>wa ρ mh λxs mh1=>∃x y ds es,xs=[x,y]/\bG mh1 x=some ds/\bG mh1 y=some es/\ds.length<=sizeLine/\Q (kI ds es) (λmh' =>bG mh' x=some ds/\bG mh' y=some es) mh1
def PD:D->Bool | .tup _=>true | _=>false
theorem tR{K:aKd}{μ:List Addr}{mh:MH}{H:Hp}{d:D}{v:V}{ds:List D}(R:Rep K μ mh H)(h:Is K μ H d v)(e:bG mh d=some ds):∃a vs,v= .ref a/\HN K H (PD d) a vs/\IsL K μ H ds vs:=by
 cases d with
 | tup es=>obtain⟨a,vs,rfl,s,l⟩:=eG h;cases e;exact⟨a,vs,rfl,s,l⟩
 | fl es=>obtain⟨a,vs,rfl,s,l⟩:=pO h;cases e;exact⟨a,vs,rfl,s.sq,l⟩
 | ref n=>obtain⟨a,vs,rfl,_,hv,l⟩:=fT R h (sJ e);exact⟨a,vs,rfl,oH.of hv,l⟩
 | _=>cases e
variable {e1 e2:Expr}{elts:List Expr}{x1:Nat}{tpos:Pos}
theorem SA{x1}(hg:Gl X "zip")(hm:X.mg "zip"=none)(ha:LA X [e1,e2] wa)
  (he:starEach [e1,e2] X.env=(false,eval e1 X.env)::starEach [e2] X.env:=by rfl) (hpl:(backTo pos (starEach [e2] X.env)).any (·.1)=false:=by rfl):
  LI X (.Tuple elts x1 tpos) (.Call (.Name "zip" p) [e1,e2] [] pos) (A8 wa):=
 PI.imp (V4 TZ ⟨by decide,by decide⟩ hg hm ha (by decide+kernel) he hpl) λσ H R h=>by
  obtain⟨μ,ρ,mh,R',RR,En,h,F⟩:=h;refine⟨μ,ρ,mh,_,RR,En,h,λxs mh1 q μ1 vs H1 P1 R1 I1=>?_⟩;obtain⟨x,y,ds,es,rfl,h1,h2,hz,q⟩:=q;obtain⟨v,u,rfl,iv,iu⟩:=HB I1;obtain⟨a,xs,rfl,sa,la⟩:=tR R1 iv h1;obtain⟨b,ys,rfl,sb,lb⟩:=tR R1 iu h2;refine⟨[(a,PD x),(b,PD y)],rfl,rfl,?_,F _ _ mh1 q μ1 _ H1 P1 R1 ?_⟩
  ·intro pp hpp;simp at hpp;rcases hpp with rfl | rfl
   ·exact⟨xs,sa⟩
   ·exact⟨ys,sb⟩
  ·have later:∀μ' mh' H',eL μ1 H1 μ' H' ->Rep X.K μ' mh' H' ->(bG mh' x=some ds/\bG mh' y=some es)->∃xs ys,HN X.K H' (PD x) a xs/\IsL X.K μ' H' ds xs/\HN X.K H' (PD y) b ys/\IsL X.K μ' H' es ys:=λμ' mh' H' P' R' st=>by
    obtain⟨a',xs',e1,s1,l1⟩:=tR R' (Is.kG P' _ _ iv) st.1;obtain⟨b',ys',e2,s2,l2⟩:=tR R' (Is.kG P' _ _ iu) st.2;cases e1;cases e2;exact⟨xs',ys',s1,l1,s2,l2⟩
   refine⟨by rw[sR];lia,λμ' mh' H' P' R' st i d e=>?_,λμ' mh' H' P' R' st=>?_⟩
   ·obtain⟨xs',ys',s1,l1,s2,l2⟩:=later μ' mh' H' P' R' st;obtain⟨dx,dy,g1,g2,rfl⟩:=A2 e;obtain⟨vx,k1,ix⟩:=eI l1 g1;obtain⟨vy,k2,iy⟩:=eI l2 g2;refine⟨⟨[vx,vy],rfl,λk a' t' v hk hv=>?_⟩,λz H'' yl=>?_⟩
    ·match k with
     | 0=>cases hk;cases hv;exact⟨xs',s1,k1⟩
     | 1=>cases hk;cases hv;exact⟨ys',s2,k2⟩
     | k+2=>simp at hk
    ·obtain⟨pp,vs,hp,rfl,rfl,hvl,hvs⟩:=yl
     match vs,hvl with
     | [v1,v2],_=>
      have e1:=hvs 0 a (PD x) v1 rfl rfl xs' s1;have e2:=hvs 1 b (PD y) v2 rfl rfl ys' s2;rw[k1]at e1;rw[k2]at e2;cases e1;cases e2;have Pn:aN μ' H' μ' (upd H' pp (.tup [vx,vy])):=aN.new R' hp;refine⟨Pn,R'.new hp,?_⟩;unfold Is;refine⟨pp,[vx,vy],rfl,.of bK,?_⟩;unfold IsL;exact⟨vx,[vy],rfl,Is.mono R' Pn _ _ ix,jN (Is.mono R' Pn _ _ iy)⟩
   ·obtain⟨xs',ys',s1,l1,s2,l2⟩:=later μ' mh' H' P' R' st;rw[sR];by_cases hle:ds.length<=es.length
    ·refine⟨0,a,PD x,xs',rfl,s1,by rw[aK l1];lia,λj b u hj=>absurd hj (by lia)⟩
    ·refine⟨1,b,PD y,ys',rfl,s2,by rw[aK l2];lia,λj b u hj hs=>?_⟩;have:j=0:=by lia
     subst this;cases hs;exact⟨xs',s1,by rw[aK l1];lia⟩
end
section
variable {K:aKd}{μ μ' :List Addr}{mh:MH}{H H0:Hp}{q:Addr}{o:HO}
mutual
theorem Is.out(hm:KO (H q)):∀(d:D) (v:V),Is K μ H d v->Is K μ (upd H q o) d v
 | .b6,v,h=>by unfold Is at*;exact h
 | .bl _,v,h=>by unfold Is at*;exact h
 | .int _,v,h=>by unfold Is at*;exact h
 | .str _,v,h=>by unfold Is at*;exact h
 | .ty _,v,h=>by unfold Is at*;exact h
 | .tup ds,v,h=>by
  unfold Is at*;obtain⟨a,vs,e,s,l⟩:=h;refine⟨a,vs,e,?_,IsL.out hm ds vs l⟩
  rcases s with (s | ⟨ob,s⟩) | s
  ·exact .inl (.inl (by rw[aP (λz=>by subst z;rw[s]at hm;exact hm)];exact s))
  ·exact .inl (.inr ⟨ob,by rw[aP (λz=>by subst z;rw[s]at hm;exact hm)];exact s⟩)
  ·exact .inr s
 | .fl ds,v,h=>by
  unfold Is at*;obtain⟨a,vs,e,s,l⟩:=h;refine⟨a,vs,e,?_,IsL.out hm ds vs l⟩
  rcases s with ⟨ob,s⟩ | s
  ·exact .inl ⟨ob,by rw[aP (λz=>by subst z;rw[s]at hm;exact hm)];exact s⟩
  ·exact .inr s
 | .ref n,v,h=>by unfold Is at*;exact h
theorem IsL.out(hm:KO (H q)):∀(ds:List D) (vs:List V),IsL K μ H ds vs->IsL K μ (upd H q o) ds vs
 | [],vs,h=>by unfold IsL at*;exact h
 | d::ds,vs,h=>by
  unfold IsL at*;obtain⟨v,r,e,i,l⟩:=h;exact⟨v,r,e,Is.out hm d v i,IsL.out hm ds r l⟩
end
mutual
theorem Is.pre(hp:∀(n:Nat) a,μ[n]? =some a->μ'[n]? =some a):∀(d:D) (v:V),Is K μ H d v->Is K μ' H d v
 | .b6,v,h=>by unfold Is at*;exact h
 | .bl _,v,h=>by unfold Is at*;exact h
 | .int _,v,h=>by unfold Is at*;exact h
 | .str _,v,h=>by unfold Is at*;exact h
 | .ty _,v,h=>by unfold Is at*;exact h
 | .tup ds,v,h=>by unfold Is at*;obtain⟨a,vs,e,s,l⟩:=h;exact⟨a,vs,e,s,IsL.pre hp ds vs l⟩
 | .fl ds,v,h=>by unfold Is at*;obtain⟨a,vs,e,s,l⟩:=h;exact⟨a,vs,e,s,IsL.pre hp ds vs l⟩
 | .ref n,v,h=>by unfold Is at*;obtain⟨a,e,q⟩:=h;exact⟨a,hp n a e,q⟩
theorem IsL.pre(hp:∀(n:Nat) a,μ[n]? =some a->μ'[n]? =some a):∀(ds:List D) (vs:List V),IsL K μ H ds vs->IsL K μ' H ds vs
 | [],vs,h=>by unfold IsL at*;exact h
 | d::ds,vs,h=>by unfold IsL at*;obtain⟨v,r,e,i,l⟩:=h;exact⟨v,r,e,Is.pre hp d v i,IsL.pre hp ds r l⟩
end
theorem Rep.out(R:Rep K μ mh H)(hm:KO (H q))(hq:q∉μ):Rep K μ mh (upd H q o):=⟨R.len,R.nd,λn a ob h1 h2=>by
 have h:=R.obj n a ob h1 h2;have hne:a≠q:=λz=>hq (z▸aGo h1)
 cases ob with
 | lst ds=>obtain⟨vs,e,l⟩:=h;exact⟨vs,by rw[aP hne];exact e,IsL.out hm ds vs l⟩
 | dic t kvs=>obtain⟨vs,e,l⟩:=h;exact⟨vs,by rw[aP hne];exact e,IsL.out hm _ vs l⟩
 | fdc t kvs ob=>obtain⟨vs,u,e,e2,l⟩:=h;exact⟨vs,u,by rw[aP hne];exact e,e2,IsL.out hm _ vs l⟩⟩
theorem aN.out(P:aN μ H0 μ' H)(h0:H0 q=none):aN μ H0 μ' (upd H q o):=⟨P.pre,λb u e n=>by rw[aP (bM e h0)];exact P.fr b u e n,P.nw⟩
theorem Rep.TL{ob0:MO}(R:Rep K μ mh H)(hq:q∉μ)(e:nU K (μ++[q]) H ob0 q):Rep K (μ++[q]) (mh++[ob0]) H:=by
 have pr:∀{es us},IsL K μ H es us->IsL K (μ++[q]) H es us:=λ{es us} l=>IsL.pre (λn a h=>by rw[List.getElem?_append_left (List.getElem?_eq_some_iff.mp h).1];exact h) es us l;refine⟨by simp[R.len],?_,λn a ob h1 h2=>?_⟩
 ·rw[List.nodup_append];refine⟨R.nd,by simp,λa ha b hb=>?_⟩;simp at hb;subst hb;exact λz=>hq (z▸ha)
 ·by_cases hn:n<μ.length
  ·rw[List.getElem?_append_left hn]at h1;rw[List.getElem?_append_left (by rw[<-R.len];exact hn)]at h2;have h:=R.obj n a ob h1 h2
   cases ob with
   | lst es=>obtain⟨us,e1,l1⟩:=h;exact⟨us,e1,pr l1⟩
   | dic t kvs=>obtain⟨us,e1,l1⟩:=h;exact⟨us,e1,pr l1⟩
   | fdc t kvs ob=>obtain⟨us,u,e1,e2,l1⟩:=h;exact⟨us,u,e1,e2,pr l1⟩
  ·rw[List.getElem?_append_right (by lia)]at h1;rw[List.getElem?_append_right (by rw[<-R.len];lia)]at h2
   have hz:n-μ.length=0:=by
    have:=(aGc.mp h1).1;simp at this;lia
   rw[hz]at h1;rw[<-R.len,hz]at h2;simp at h1 h2;subst h1 h2;exact e
theorem Rep.ZP{ds:List D}{vs:List V}(R:Rep K μ mh H)(hq:q∉μ)(e:H q=some (.lst vs))(l:IsL K μ H ds vs):Rep K (μ++[q]) (mh++[.lst ds]) H:=
 R.TL hq ⟨vs,e,IsL.pre (λn a h=>by rw[List.getElem?_append_left (List.getElem?_eq_some_iff.mp h).1];exact h) ds vs l⟩
end
def fW(own:List Str)(aD:List Nat)(ρ:d7):d7:=own.map (λ_=>none)++aD.map λi=>(ρ[i]?).join
def i7(g:WG)(t:WT)(w:WE)(ρe:d7)(St:MH->Prop)(Q:DK):List D->List D->MH->Prop
 | [],ys,mh=>St mh/\Q (.ref mh.length) (mh++[.lst ys])
 | d::ds,ys,mh=>St mh/\g d ρe λρ2=>t ρ2 mh λb mh3=>if b=true then w ρ2 mh3 λy mh4=>i7 g t w ρe St Q ds (ys++[y]) mh4 else i7 g t w ρe St Q ds ys mh3
def A9(own:List Str)(aD:List Nat)(wi:WI)(g:WG)(t:WT)(w:WE):WE:=λρ mh Q=>wi ρ mh λds St mh1=>i7 g t w (fW own aD ρ) St Q ds [] mh1
def kJ:WT:=λ_ mh Q=>Q true mh
section
variable {K:aKd}{μ μ1:List Addr}{mh:MH}{H H1:Hp}
theorem aN.away{q:Addr}{o:HO}(P:aN μ H μ1 H1)(hn:q∉μ)(e:H q=some o):q∉μ1/\H1 q=some o:=by
 refine⟨λh=>?_,P.fr q o e hn⟩;rcases P.nw q h with z | z
 ·exact hn z
 ·rw[e]at z;cases z
theorem cA.emb{ρ:d7}{σ:L2.St}{own:List Str}{aD:List Nat}(E:cA K μ H ρ σ):cA K μ H (fW own aD ρ) (qO own aD σ):=by
 refine⟨by simp[fW,qO],λi d h=>?_⟩;unfold fW at h;unfold qO;by_cases hi:i<own.length
 ·rw[List.getElem?_append_left (by simpa using hi),List.getElem?_map]at h
  cases q:own[i]? with
  | none=>rw[q]at h;simp at h
  | some z=>rw[q]at h;simp at h
 ·rw[List.getElem?_append_right (by simpa using hi),List.getElem?_map]at h⊢;simp only[List.length_map]at h⊢
  cases q:aD[i-own.length]? with
  | none=>rw[q]at h;simp at h
  | some k=>
   rw[q]at h;simp only[Option.map_some,Option.some.injEq]at h⊢
   cases r:ρ[k]? with
   | none=>rw[r]at h;simp at h
   | some z=>
    rw[r]at h;simp at h;subst h;obtain⟨v,h1,h2⟩:=E.2 k d r;exact⟨v,by rw[h1];rfl,h2⟩
end
section
variable {X:Cx}
def KG(X:Cx)(es:List Expr)(w:WT):Prop:=UW X es (LC X.K w)
theorem RT:KG X [] kJ:=λpins s σ H Q I q=>QT pins s σ H Q I (by
 obtain⟨μ,ρ,mh,R,RR,En,h,F⟩:=q
 exact F true mh h μ H aN.refl RR)
theorem RS{c:Expr}{t:WT}(h:LT X c t):KG X [c] t:=QS h
theorem G3{wi:WI}{g:TG}{gd:WG}{t:WT}{w:WE}{own:List Str}{aD:List Nat}(hr:jV X.K g gd){σ:L2.St}{H:Hp}{Q:VK}(h:tL X.K (A9 own aD wi gd t w) σ H Q):tLC own aD (T8 X.K wi) g (LC X.K t) (tL X.K w) σ H Q:=by
 obtain⟨μ,ρ,mh,R,RR,En,h,F⟩:=h;refine⟨μ,ρ,mh,_,RR,En,h,λds St mh1 q μ1 J H1 P1 R1 It acc hacc=>?_⟩;have hacc1:acc∉μ1:=λz=>R1.ne hacc z rfl
 refine⟨λi m ys H' =>∃μ' mh' dys,aN μ1 H1 μ' H' /\Rep X.K μ' mh' H' /\acc∉μ' /\H' acc=some (.lst ys)/\IsL X.K μ' H' dys ys/\dys.length<=i/\i<=ds.length/\m=ds.length-i/\i7 gd t w (fW own aD ρ) St R (ds.drop i) dys mh',
  ⟨ds.length,μ1,mh1,[],aN.out aN.refl hacc,R1.new hacc,hacc1,bK,by unfold IsL;rfl,aGi _,aHp _,by simp,by simpa using q⟩,?_⟩
 rintro i m ys H' ⟨μ',mh',dys,P',R',ha',e',l',hd',hi',rfl,c⟩;refine⟨e',?_⟩;by_cases hlt:i<ds.length
 ·rw[List.drop_eq_getElem_cons hlt]at c;obtain⟨hst,c⟩:=c;obtain⟨hgo,hy⟩:=It.go μ' mh' H' (P'.weak R1) R' hst i ds[i] (by simp[hlt]);refine .inr ⟨hgo,λys2 H2=>∃μ2 mh2 dys2,aN μ1 H1 μ2 H2/\Rep X.K μ2 mh2 H2/\acc∉μ2/\H2 acc=some (.lst ys2)/\IsL X.K μ2 H2 dys2 ys2/\dys2.length<=i+1/\i7 gd t w (fW own aD ρ) St R (ds.drop (i+1)) dys2 mh2,?_,λx H'' y=>?_⟩
  ·rintro ys2 H2 ⟨μ2,mh2,dys2,P2,R2,ha2,e2,l2,hd2,c2⟩;exact⟨ds.length-(i+1),by lia,μ2,mh2,dys2,P2,R2,ha2,e2,l2,hd2,hlt,rfl,c2⟩
  ·obtain⟨Py,Ry,Iy⟩:=hy x H'' y;obtain⟨hay,ey⟩:=Py.away ha' e';have ly:=IsL.mono R' Py dys ys l';have P0y:=P1.trans (P'.trans Py);refine hr x _ H'' _ μ' (fW own aD ρ) mh' _ _ Ry (En.mono RR P0y).emb Iy c λρ2 q2 σ2 En2=>?_;refine⟨μ',ρ2,mh',_,Ry,En2,q2,λb mh3 q3 μ3 H3 P3 R3=>?_⟩;obtain⟨ha3,e3⟩:=P3.away hay ey;have l3:=IsL.mono Ry P3 dys ys ly;have P13:=(P'.trans Py).trans P3
   cases b with
   | false=>rw[if_neg Bool.false_ne_true]at q3⊢;exact⟨μ3,mh3,dys,P13,R3,ha3,e3,l3,by lia,q3⟩
   | true=>
    rw[if_pos rfl]at q3⊢;refine⟨by have:=It.small;rw[aK l'];lia,μ3,ρ2,mh3,_,R3,En2.mono Ry P3,q3,λy mh4 q4 μ4 vy H4 P4 R4 I4=>?_⟩;obtain⟨ha4,e4⟩:=P4.away ha3 e3;have hm:KO (H4 acc):=by rw[e4];trivial
    have l4:=IsL.mono R3 P4 dys ys l3;exact⟨e4,μ4,mh4,dys++[y],aN.out (P13.trans P4) hacc,R4.out hm ha4,ha4,bK,IsL.out hm _ _ (eJ l4 (jN I4)),by simp;lia,q4⟩
 ·have e:i=ds.length:=by lia
  subst e;rw[List.drop_of_length_le (Nat.le_refl _)]at c;refine .inl ⟨It.stop μ' mh' H' (P'.weak R1) R' c.1,?_⟩
  have Pa:aN μ1 H1 (μ' ++[acc]) H' :=⟨by obtain⟨t,rfl⟩:=P'.pre;exact⟨t++[acc],by simp⟩,P'.fr,λa ha=>by
   rcases aGh.mp ha with ha | ha
   ·exact P'.nw a ha
   ·simp at ha;subst ha;exact .inr hacc⟩
  exact F _ _ c.2 (μ' ++[acc]) _ H' (P1.trans Pa) (R'.ZP ha' e' l') (by unfold Is;exact⟨acc,by rw[<-R'.len];simp,rfl⟩)
theorem aC7{tg iter elt:Expr}{ifs:List Expr}{scope sc:Scope}{N:List Str}{pos:Pos}{wi:WI}{g:TG}{gd:WG}{t:WT}{w:WE}(own:List Str)(aD:List Nat)
  (hN:X.N=N) (hsc:X.env.scope=sc) (chk:dR N sc scope aD=true) (fO:X.calm=true) (hi:LI X tg iter wi) (ho:qT own.length g)
  (hr:jV X.K g gd)
  (hg:∀cl C fp s₀ H₀,PG (aL X own aD scope cl C fp s₀ H₀) tg g) (ht:∀cl C fp s₀ H₀,KG (aL X own aD scope cl C fp s₀ H₀) ifs t)
  (he:∀cl C fp s₀ H₀,LE (aL X own aD scope cl C fp s₀ H₀) elt w)
  (hs:∀x,foldedSetIterable iter X.env x=pure x:=by intro _;rfl):LE X (.ListComp elt [⟨tg,iter,ifs,0⟩] scope pos) (A9 own aD wi gd t w):=
 PE.imp (aBh (wi:=T8 X.K wi) (tt:=LC X.K t) (te:=tL X.K w) own aD hN hsc chk fO hi ho hg (λcl C fp s₀ H₀=>ht cl C fp s₀ H₀) (λcl C fp s₀ H₀=>he cl C fp s₀ H₀) hs) λσ H Q h=>G3 hr h
theorem NA(i:Nat){x:Str}{pos' lF:Pos}{tg iter elt:Expr}{ifs:List Expr}{scope sc:Scope}{N:List Str}{pos:Pos}{wi:WI}{g:TG}{gd:WG}{t:WT}{w:WE}(nd:X.N.Nodup)(own:List Str)(aD:List Nat)
  (hN:X.N=N) (hsc:X.env.scope=sc) (chk:dR N sc scope aD=true) (fO:X.calm=true) (hi:LI X tg iter wi) (ho:qT own.length g)
  (hr:jV X.K g gd)
  (hg:∀cl C fp s₀ H₀,PG (aL X own aD scope cl C fp s₀ H₀) tg g) (ht:∀cl C fp s₀ H₀,KG (aL X own aD scope cl C fp s₀ H₀) ifs t)
  (he:∀cl C fp s₀ H₀,LE (aL X own aD scope cl C fp s₀ H₀) elt w)
  (hx0:X.N[i]? =some x:=by rfl) (hx:Loc X.env.scope x:=by first | exact Or.inl rfl | exact Or.inr rfl) (hw:swapsWith (.ListComp elt [⟨tg,iter,ifs,0⟩] scope pos) (some (.Name x pos')) lF.line X.env=pure true:=by rfl) (hf:X.fn x=true\/X.env.scope.names.lookup x=some .local:=by first | exact .inl rfl | exact .inr rfl | assumption)
  (hs:∀x,foldedSetIterable iter X.env x=pure x:=by intro _;rfl):LS X (.Assign [.Name x pos'] (.ListComp elt [⟨tg,iter,ifs,0⟩] scope pos) lF) (bS (A9 own aD wi gd t w) (gN i)):=
 PS.imp (L8 (wi:=T8 X.K wi) (tt:=LC X.K t) (te:=tL X.K w) own aD hN hsc chk fO hi ho hg (λcl C fp s₀ H₀=>ht cl C fp s₀ H₀) (λcl C fp s₀ H₀=>he cl C fp s₀ H₀) nd hx0 hx hw hf hs) λD σ H h=>G3 hr (FX (zW i) h)
end
mutual
def dN(n:Nat):D->Bool
 | .ref k=>decide (k<n)
 | .tup ds=>cL n ds
 | .fl ds=>cL n ds
 | _=>true
def cL(n:Nat):List D->Bool
 | []=>true
 | d::ds=>dN n d && cL n ds
end
def zC(n:Nat):MO->Bool
 | .lst ds=>cL n ds
 | .dic _ kvs=>cL n (kvs.map (·.2))
 | .fdc _ kvs _=>cL n (kvs.map (·.2))
def kM(mh:MH):Prop:=∀o∈mh,zC mh.length o=true
section
variable {K:aKd}{μ:List Addr}{mh:MH}{H:Hp}
mutual
theorem QK:∀(d:D) (v:V),Is K μ H d v->dN μ.length d=true
 | .b6,v,h=>rfl
 | .bl _,v,h=>rfl
 | .int _,v,h=>rfl
 | .str _,v,h=>rfl
 | .ty _,v,h=>rfl
 | .tup ds,v,h=>by obtain⟨a,vs,_,_,l⟩:=eG h;simpa[dN] using gR ds vs l
 | .fl ds,v,h=>by obtain⟨a,vs,_,_,l⟩:=pO h;simpa[dN] using gR ds vs l
 | .ref n,v,h=>by obtain⟨a,e,_⟩:=n9 h;simpa[dN] using (aGc.mp e).1
theorem gR:∀(ds:List D) (vs:List V),IsL K μ H ds vs->cL μ.length ds=true
 | [],vs,h=>rfl
 | d::ds,vs,h=>by
  unfold IsL at h;obtain⟨v,r,_,i,l⟩:=h;simp only[cL,QK d v i,gR ds r l,Bool.and_self]
end
theorem Rep.mok(R:Rep K μ mh H):kM mh:=λo ho=>by
 obtain⟨n,hn⟩:=aGt.mp ho;have hl:n<μ.length:=by rw[R.len];exact(aGc.mp hn).1
 have h:=R.obj n μ[n] o (by simp[hl]) hn;rw[<-R.len]
 cases o with
 | lst ds=>obtain⟨vs,_,l⟩:=h;exact gR ds vs l
 | dic t kvs=>obtain⟨vs,_,l⟩:=h;exact gR _ vs l
 | fdc t kvs ob=>obtain⟨vs,_,_,_,l⟩:=h;exact gR _ vs l
mutual
theorem Is.cut{n:Nat}:∀(d:D) (v:V),dN n d=true->Is K μ H d v->Is K (μ.take n) H d v
 | .b6,v,_,h=>by unfold Is at*;exact h
 | .bl _,v,_,h=>by unfold Is at*;exact h
 | .int _,v,_,h=>by unfold Is at*;exact h
 | .str _,v,_,h=>by unfold Is at*;exact h
 | .ty _,v,_,h=>by unfold Is at*;exact h
 | .tup ds,v,b,h=>by unfold Is at*;obtain⟨a,vs,e,s,l⟩:=h;exact⟨a,vs,e,s,IsL.cut ds vs (by simpa[dN] using b) l⟩
 | .fl ds,v,b,h=>by unfold Is at*;obtain⟨a,vs,e,s,l⟩:=h;exact⟨a,vs,e,s,IsL.cut ds vs (by simpa[dN] using b) l⟩
 | .ref k,v,b,h=>by unfold Is at*;obtain⟨a,e,q⟩:=h;exact⟨a,by rw[List.getElem?_take_of_lt (by simpa[dN] using b)];exact e,q⟩
theorem IsL.cut{n:Nat}:∀(ds:List D) (vs:List V),cL n ds=true->IsL K μ H ds vs->IsL K (μ.take n) H ds vs
 | [],vs,_,h=>by unfold IsL at*;exact h
 | d::ds,vs,b,h=>by
  unfold IsL at*;simp only[cL,Bool.and_eq_true]at b;obtain⟨v,r,e,i,l⟩:=h;exact⟨v,r,e,Is.cut d v b.1 i,IsL.cut ds r b.2 l⟩
end
theorem Rep.cut{mhA junk:MH}(R:Rep K μ (mhA++junk) H)(ok:kM mhA):Rep K (μ.take mhA.length) mhA H:=by
 have hl:mhA.length<=μ.length:=by rw[R.len];simp
 refine⟨by simp[hl],List.Nodup.sublist (aK6 _ _) R.nd,λn a o h1 h2=>?_⟩;have hn:n<mhA.length:=(aGc.mp h2).1;rw[List.getElem?_take_of_lt hn]at h1;have h:=R.obj n a o h1 (by rw[List.getElem?_append_left hn];exact h2);have b:=ok o (aGo h2)
 cases o with
 | lst ds=>obtain⟨vs,e,l⟩:=h;exact⟨vs,e,IsL.cut ds vs b l⟩
 | dic t kvs=>obtain⟨vs,e,l⟩:=h;exact⟨vs,e,IsL.cut _ vs b l⟩
 | fdc t kvs ob=>obtain⟨vs,u,e,e2,l⟩:=h;exact⟨vs,u,e,e2,IsL.cut _ vs b l⟩
end
def Out(n:Nat)(d:D)(mh1:MH)(R:DK):Prop:=R d mh1\/(∃mhA junk,mh1=mhA++junk/\n<=mhA.length/\kM mhA/\dN mhA.length d=true/\R d mhA)\/
 ∃mhA junk j o,mh1=mhA++junk/\n<=mhA.length/\kM mhA/\d= .ref j/\mhA.length<=j/\mh1[j]? =some o/\zC mhA.length o=true/\R (.ref mhA.length) (mhA++[o])
theorem GR{K:aKd}{μ:List Addr}{mh:MH}{H:Hp}{R:DK}{Q:VK}(RR:Rep K μ mh H)(F:Fin K μ H R Q):Fin K μ H (λd mh1=>Out mh.length d mh1 R) Q:=by
 intro d mh1 h μ1 v H1 P1 R1 I1
 have key:∀{mhA:MH},mh.length<=mhA.length->∃t,μ1.take mhA.length=μ++t:=λ{mhA} hle=>by
  obtain⟨t,rfl⟩:=P1.pre;rw[List.take_append,List.take_of_length_le (by rw[RR.len];exact hle)];exact⟨_,rfl⟩
 rcases h with h | ⟨mhA,junk,rfl,hle,ok,b,h⟩ | ⟨mhA,junk,j,o,rfl,hle,ok,rfl,hj,ho,b,h⟩
 ·exact F d mh1 h μ1 v H1 P1 R1 I1
 ·exact F d mhA h (μ1.take mhA.length) v H1 ⟨key hle,P1.fr,λa ha=>P1.nw a (aHt ha)⟩ (R1.cut ok) (Is.cut d v b I1)
 ·have Rc:=R1.cut ok;obtain⟨a,ha,rfl⟩:=n9 I1;have hob:=R1.obj j a o ha ho;have hlen:(μ1.take mhA.length).length=mhA.length:=Rc.len
  have hnot:a∉μ1.take mhA.length:=λz=>by
   obtain⟨k,hk⟩:=aGt.mp z;have hk2:k<mhA.length:=by have:=(aGc.mp hk).1;lia
   rw[List.getElem?_take_of_lt hk2]at hk;have:=MV R1.nd hk ha
   lia
  cases o with
  | lst ds=>
   obtain⟨vs,e,l⟩:=hob;refine F _ _ h (μ1.take mhA.length++[a]) _ H1 ⟨?_,P1.fr,λc hc=>?_⟩ (Rc.ZP hnot e (IsL.cut ds vs b l)) (by unfold Is;exact⟨a,by rw[<-hlen];simp,rfl⟩)
   ·obtain⟨t,ht⟩:=key hle;exact⟨t++[a],by rw[ht];simp⟩
   ·rcases aGh.mp hc with hc | hc
    ·exact P1.nw c (aHt hc)
    ·simp at hc;subst hc;exact P1.nw c (aGo ha)
  | dic t kvs=>
   obtain⟨vs,e,l⟩:=hob;refine F _ _ h (μ1.take mhA.length++[a]) _ H1 ⟨?_,P1.fr,λc hc=>?_⟩ (Rc.TL hnot ⟨vs,e,IsL.pre (λn a h=>by rw[List.getElem?_append_left (List.getElem?_eq_some_iff.mp h).1];exact h) _ vs (IsL.cut _ vs b l)⟩) (by unfold Is;exact⟨a,by rw[<-hlen];simp,rfl⟩)
   ·obtain⟨t,ht⟩:=key hle;exact⟨t++[a],by rw[ht];simp⟩
   ·rcases aGh.mp hc with hc | hc
    ·exact P1.nw c (aHt hc)
    ·simp at hc;subst hc;exact P1.nw c (aGo ha)
  | fdc t kvs ob=>
   obtain⟨vs,u,e,e2,l⟩:=hob;refine F _ _ h (μ1.take mhA.length++[a]) _ H1 ⟨?_,P1.fr,λc hc=>?_⟩ (Rc.TL hnot ⟨vs,u,e,e2,IsL.pre (λn a h=>by rw[List.getElem?_append_left (List.getElem?_eq_some_iff.mp h).1];exact h) _ vs (IsL.cut _ vs b l)⟩) (by unfold Is;exact⟨a,by rw[<-hlen];simp,rfl⟩)
   ·obtain⟨t,ht⟩:=key hle;exact⟨t++[a],by rw[ht];simp⟩
   ·rcases aGh.mp hc with hc | hc
    ·exact P1.nw c (aHt hc)
    ·simp at hc;subst hc;exact P1.nw c (aGo ha)
def aJ(N:List Str)(ds:List D):d7:=ds.map some++List.replicate (N.length-ds.length) none
theorem BF{K:aKd}{μ:List Addr}{H:Hp}{N:List Str}{ds:List D}{vs:List V}(l:IsL K μ H ds vs):cA K μ H (aJ N ds) (L2.start N vs):=by
 have hl:=aK l;refine⟨by simp[aJ,L2.start,hl],λi d h=>?_⟩;unfold aJ at h;unfold L2.start;by_cases hi:i<ds.length
 ·rw[List.getElem?_append_left (by simpa using hi),List.getElem?_map]at h;obtain⟨d',h1,h2⟩:=aHb.mp h;cases h2;obtain⟨v,h3,h4⟩:=eI l h1;exact⟨v,by rw[List.getElem?_append_left (by simpa[hl] using hi),List.getElem?_map,h3];rfl,h4⟩
 ·rw[List.getElem?_append_right (by simpa using hi)]at h;obtain⟨_,h⟩:=aGc.mp h;simp at h
section
variable {P:Program}{w:World}{K:aKd}{mg:aKg}{base:Heap}
theorem aCr{x qual:Str}{st:Stmt}{f:Addr}{fd:FuncData}{N ps:List Str}{k:Nat}{s:OA}{wB:WS}(F:Fun K x qual st f fd)(S:aU N ps (aC st))(len:∀ds mh R,s ds mh R->ds.length=ps.length)
  (hb:∀(cdv:Value) (A:Around) (outer:List Env) (s:Shared) (H:Hp) (E:XK),fR k (A.deeper (envOfC qual (aC st) s.heap.objs.size f cdv))->
   mC (u7 AY P w K mg base N qual (aC st) f cdv A outer s H E).PB (bU st) wB)
  (hw:∀ds mh R,kM mh->cL mh.length ds=true->s ds mh R->wB {nx:=λ_ mh1=>Out mh.length .b6 mh1 R,rt:=λd mh1=>Out mh.length d mh1 R} (aJ N ds) mh):iU P w K mg base AY (k+1) f fd ps (LD K s):=by
 refine F.ok S (λvs H Q E h=>?_) (λcdv A outer sh H vs Q E hr h=>?_)
 ·obtain⟨μ,mh,ds,R,RR,il,h,_⟩:=h;rw[aK il];exact len ds mh R h
 ·obtain⟨μ,mh,ds,R,RR,il,h,Fi⟩:=h;refine⟨_,hb cdv A outer sh H E hr,μ,aJ N ds,mh,_,RR,BF il,hw ds mh R RR.mok (by rw[<-RR.len];exact gR ds vs il) h,?_⟩;have Fo:=GR RR Fi;exact⟨λρ' mh' q μ' σ' H' P' R' En' =>Fo .b6 mh' q μ' .b6 H' P' R' .b6,Fo,λ_ _ q=>False.elim q,λ_ _ q=>False.elim q⟩
end
def Fn(P:Program)(w:World)(K:aKd)(mg:aKg)(base:Heap)(k:Nat)(x:Str)(ps:List Str)(s:OA):Prop:=
 ∃f fd,iU P w K mg base AY k f fd ps (LD K s)/\mg x=some (.ref f)/\PySem.W.keepIn K (.ref f)=true/\Binds K fd ps []
theorem Fn.mono{P:Program}{w:World}{K:aKd}{mg:aKg}{base:Heap}{j k:Nat}{x:Str}{ps:List Str}{s:OA}(h:Fn P w K mg base j x ps s)(hk:j<=k):Fn P w K mg base k x ps s:=
 let ⟨f,fd,a,b,c,d⟩:=h;⟨f,fd,a.mono hk,b,c,d⟩
theorem Fn.imp{P:Program}{w:World}{K:aKd}{mg:aKg}{base:Heap}{k:Nat}{x:Str}{ps:List Str}{s s' :OA}(h:Fn P w K mg base k x ps s)(hi:∀ds mh R,s' ds mh R->s ds mh R):Fn P w K mg base k x ps s' :=
 let ⟨f,fd,a,b,c,d⟩:=h;⟨f,fd,a.imp λvs H Q E zz15=>by obtain⟨μ,mh,ds,R,r1,r2,r3,r4⟩:=zz15;exact⟨μ,mh,ds,R,r1,r2,hi ds mh R r3,r4⟩,b,c,d⟩
def yL(K:aKd)(mg:aKg)(x:Str)(d:D):Prop:=∃v u,mg x=some u/\RelV v u/\∀μ H,Is K μ H d v
section
variable {X:Cx}{e:Expr}{es:List Expr}{wr:WA}{pos p:Pos}{x:Str}
theorem NG{k:Nat}{ps:List Str}{s:OA}(F:Fn X.prog X.w X.K X.mg X.base k x ps s)(hr:fR k X.A)(ha:LA X (e::es) wr)(hg:Gl X x:=by rfl)(hdb:(x==("__debug__":Str))=false:=by decide)
  (he:starEach (e::es) X.env=(false,eval e X.env)::starEach es X.env:=by rfl) (hpl:(backTo pos (starEach es X.env)).any (·.1)=false:=by rfl):LE X (.Call (.Name x p) (e::es) [] pos) (aG s wr):=by
 obtain⟨f,fd,a,b,c,d⟩:=F;exact SJ a hr hg b c d ha hdb he hpl
theorem aC8{d:D}(h:yL X.K X.mg x d)(hg:Gl X x:=by rfl)(hd:(x==("__debug__":Str))=false:=by decide):LE X (.Name x pos) (wC d):=by
 obtain⟨v,u,a,b,c⟩:=h;exact SF hg a b c hd
theorem B9{T:String}(hm:X.mg x=none)(hv:bootBuiltins x=some (.type T))(hg:Gl X x:=by rfl)(hn:x≠ "__name__":=by decide)(hd:(x==("__debug__":Str))=false:=by decide):LE X (.Name x pos) (wC (.ty T)):=SD hg hm hv hn hd
theorem aCb{id:String}{f:OA}(hc:cS X (.builtin id) (fN X.K f))(hm:X.mg x=none)(hv:bootBuiltins x=some (.builtin id))(ha:LA X (e::es) wr)(hg:Gl X x:=by rfl)(hn:x≠ "__name__":=by decide)(hdb:(x==("__debug__":Str))=false:=by decide)
  (he:starEach (e::es) X.env=(false,eval e X.env)::starEach es X.env:=by rfl) (hpl:(backTo pos (starEach es X.env)).any (·.1)=false:=by rfl):LE X (.Call (.Name x p) (e::es) [] pos) (aG f wr):=NI hc hg hm hv ha hn hdb he hpl
theorem aC9{T:String}{f:OA}(hc:cS X (.type T) (fN X.K f))(hm:X.mg x=none)(hv:bootBuiltins x=some (.type T))(ha:LA X (e::es) wr)(hg:Gl X x:=by rfl)(hn:x≠ "__name__":=by decide)(hdb:(x==("__debug__":Str))=false:=by decide)
  (he:starEach (e::es) X.env=(false,eval e X.env)::starEach es X.env:=by rfl) (hpl:(backTo pos (starEach es X.env)).any (·.1)=false:=by rfl):LE X (.Call (.Name x p) (e::es) [] pos) (aG f wr):=IZ hc hg hm hv ha hn hdb he hpl
theorem PZ(i:Nat)(hN:X.N.Nodup)(hi:X.N[i]? =some x:=by rfl)(hx:Loc X.env.scope x:=by first | exact Or.inl rfl | exact Or.inr rfl)(hf:X.fn x=true\/X.env.scope.names.lookup x=some .local:=by first | exact .inl rfl | exact .inr rfl):PG X (.Name x pos) (pR i):=Q4 hN hi hx hf
theorem aBv{op:CmpOp}(b:Expr)(h:op≠ .In:=by decide)(h2:op≠ .NotIn:=by decide):behindInMarks op b=false:=MQ b h h2
end
structure Bl(mg:aKg):Prop where
 len:mg "len"=none
 range:mg "range"=none
 zip:mg "zip"=none
 all:mg "all"=none
 any:mg "any"=none
 abs:mg "abs"=none
 min:mg "min"=none
 max:mg "max"=none
 isinstance:mg "isinstance"=none
 sorted:mg "sorted"=none
 int:mg "int"=none
 str:mg "str"=none
 bool:mg "bool"=none
 list:mg "list"=none
 tuple:mg "tuple"=none
 set:mg "set"=none
 dict:mg "dict"=none
 sum:mg "sum"=none
 enumerate:mg "enumerate"=none
theorem ZH:bootBuiltins "int"=some (.type "int"):=by decide+kernel
theorem Y9:bootBuiltins "str"=some (.type "str"):=by decide+kernel
theorem TC:bootBuiltins "bool"=some (.type "bool"):=by decide+kernel
theorem HK:bootBuiltins "list"=some (.type "list"):=by decide+kernel
theorem vG:bootBuiltins "tuple"=some (.type "tuple"):=by decide+kernel
theorem ZA:bootBuiltins "set"=some (.type "set"):=by decide+kernel
theorem ZG:bootBuiltins "len"=some (.builtin "len"):=by decide+kernel
theorem ZI:bootBuiltins "abs"=some (.builtin "abs"):=by decide+kernel
theorem ZD:bootBuiltins "min"=some (.builtin "min"):=by decide+kernel
theorem ZE:bootBuiltins "max"=some (.builtin "max"):=by decide+kernel
theorem wG:bootBuiltins "isinstance"=some (.builtin "isinstance"):=by decide+kernel
theorem qP:bootBuiltins "sorted"=some (.builtin "sorted"):=by decide+kernel
def oLt:O2:=λx y mh Q=>match x with
 | .int i=>match y with | .int j=>Q (.bl (decide (i<j))) mh | _=>False
 | .str a=>match y with | .str b=>Q (.bl (decide (a.cps.toList<b.cps.toList))) mh | _=>False
 | _=>False
def oLe:O2:=λx y mh Q=>match x with
 | .int i=>match y with | .int j=>Q (.bl (decide (i<=j))) mh | _=>False
 | .str a=>match y with | .str b=>Q (.bl (!decide (b.cps.toList<a.cps.toList))) mh | _=>False
 | _=>False
def O9:O2:=λx y mh Q=>match x with
 | .int i=>match y with | .int j=>Q (.bl (decide (j<i))) mh | _=>False
 | _=>False
def oGe:O2:=λx y mh Q=>match x with
 | .int i=>match y with | .int j=>Q (.bl (decide (j<=i))) mh | _=>False
 | _=>False
section
variable {X:Cx}
theorem aBq(hu:X.A.units+64<cLine):d8 X (compareOp .Lt) (bP X.K oLt):=by
 intro pins s σ H x y v u Q I rx ry q;obtain⟨μ,mh,dx,dy,R,RR,ix,iy,q,F⟩:=q
 cases dx with
 | int i=>cases dy with
  | int j=>cases bO ix;cases bO iy;exact aBl pins s σ H _ _ v u Q I rx ry ⟨i,j,rfl,rfl,F.here RR q .bl⟩
  | _=>exact False.elim q
 | str i=>cases dy with
  | str j=>cases eU ix;cases eU iy;exact IM pins s σ H _ _ v u Q I rx ry ⟨i,j,rfl,rfl,F.here RR q .bl⟩
  | _=>exact False.elim q
 | _=>exact False.elim q
theorem aBr(hu:X.A.units+64<cLine):d8 X (compareOp .LtE) (bP X.K oLe):=by
 intro pins s σ H x y v u Q I rx ry q;obtain⟨μ,mh,dx,dy,R,RR,ix,iy,q,F⟩:=q
 cases dx with
 | int i=>cases dy with
  | int j=>cases bO ix;cases bO iy;exact aBm pins s σ H _ _ v u Q I rx ry ⟨i,j,rfl,rfl,F.here RR q .bl⟩
  | _=>exact False.elim q
 | str i=>cases dy with
  | str j=>
   cases eU ix;cases eU iy;obtain⟨t,rfl⟩:=rx;obtain⟨t',rfl⟩:=ry;exact PySem.P.le_str ⟨.bl (!decide (j.cps.toList<i.cps.toList)),H,I,by show _=_;first | rfl | (congr 1;simp),F.here RR q .bl⟩
  | _=>exact False.elim q
 | _=>exact False.elim q
theorem aBs(hu:X.A.units+64<cLine):d8 X (compareOp .Gt) (bP X.K O9):=by
 intro pins s σ H x y v u Q I rx ry q;obtain⟨μ,mh,dx,dy,R,RR,ix,iy,q,F⟩:=q
 cases dx with
 | int i=>cases dy with
  | int j=>cases bO ix;cases bO iy;exact aBn pins s σ H _ _ v u Q I rx ry ⟨i,j,rfl,rfl,F.here RR q .bl⟩
  | _=>exact False.elim q
 | _=>exact False.elim q
theorem aBt(hu:X.A.units+64<cLine):d8 X (compareOp .GtE) (bP X.K oGe):=by
 intro pins s σ H x y v u Q I rx ry q;obtain⟨μ,mh,dx,dy,R,RR,ix,iy,q,F⟩:=q
 cases dx with
 | int i=>cases dy with
  | int j=>cases bO ix;cases bO iy;exact aBo pins s σ H _ _ v u Q I rx ry ⟨i,j,rfl,rfl,F.here RR q .bl⟩
  | _=>exact False.elim q
 | _=>exact False.elim q
end
def got{α:Type}(o:Option α)(k:α->Prop):Prop:=match o with | some a=>k a | none=>False
@[simp] theorem bY {α:Type}(a:α)(k:α->Prop):got (some a) k=k a:=rfl
@[simp] theorem aCp {α:Type}(k:α->Prop):got none k=False:=rfl
theorem fC{α:Type}(o:Option α)(k:α->Prop):(∃a,o=some a/\k a)↔got o k:=by
 cases o <;> simp[got]
def asB:D->Option Bool | .bl b=>some b | _=>none
def asI:D->Option Int | .int i=>some i | _=>none
@[simp] theorem aG2 (b:Bool):asB (.bl b)=some b:=rfl
@[simp] theorem aDq (i:Int):asI (.int i)=some i:=rfl
theorem exB(x:D)(P:Bool->Prop):(∃k,x= .bl k/\P k)=got (asB x) P:=by
 apply propext
 cases x with
 | bl b=>exact⟨λzz0=>by obtain⟨k,e,h⟩:=zz0;cases e;exact h,λh=>⟨b,rfl,h⟩⟩
 | _=>exact⟨λzz1=>by obtain⟨k,e,h⟩:=zz1;exact(by cases e),λh=>False.elim h⟩
theorem exI(x:D)(P:Int->Prop):(∃k,x= .int k/\P k)=got (asI x) P:=by
 apply propext
 cases x with
 | int b=>exact⟨λzz2=>by obtain⟨k,e,h⟩:=zz2;cases e;exact h,λh=>⟨b,rfl,h⟩⟩
 | _=>exact⟨λzz3=>by obtain⟨k,e,h⟩:=zz3;exact(by cases e),λh=>False.elim h⟩
section
variable {mh:MH}{Q:DK}{ρ:d7}
@[simp] theorem aAy (i:Nat):aB i ρ mh Q↔got ((ρ[i]?).join) λd=>Q d mh:=by
 unfold aB
 cases h:ρ[i]? with
 | none=>simp
 | some o=>cases o <;> simp
@[simp] theorem s_c (d:D):wC d ρ mh Q=(Q d mh):=rfl
@[simp] theorem aEk (f:O2)(a b:WE):bA f a b ρ mh Q=(a ρ mh λx mh1=>b ρ mh1 λy mh2=>f x y mh2 Q):=rfl
@[simp] theorem s_un (f:O1)(a:WE):rE f a ρ mh Q=(a ρ mh λx mh1=>f x mh1 Q):=rfl
@[simp] theorem s_nil (R:List D->MH->Prop):aF ρ mh R=(R [] mh):=rfl
@[simp] theorem aF0 (a:WE)(r:WA)(R:List D->MH->Prop):aA a r ρ mh R=(a ρ mh λx mh1=>r ρ mh1 λxs mh2=>R (x::xs) mh2):=rfl
@[simp] theorem s_call (f:OA)(a:WA):aG f a ρ mh Q=(a ρ mh λds mh1=>f ds mh1 Q):=rfl
@[simp] theorem s_tup (a:WA):dH a ρ mh Q=(a ρ mh λds mh1=>ds.length<=sizeLine/\Q (.tup ds) mh1):=rfl
@[simp] theorem s_lst (a:WA):nW a ρ mh Q=(a ρ mh λds mh1=>ds.length<=sizeLine/\Q (.ref mh1.length) (mh1++[.lst ds])):=rfl
@[simp] theorem aF1 (a b:WE):wM a b ρ mh Q↔a ρ mh λx mh1=>got (asB x) λc=>if c=true then b ρ mh1 Q else Q (.bl false) mh1:=by unfold wM;simp only[exB]
@[simp] theorem aEm (a:WE):GB a ρ mh Q↔a ρ mh λx mh1=>got (asB x) λc=>Q (.bl !c) mh1:=by unfold GB;simp only[exB]
@[simp] theorem s_if (t:WT)(a b:WE):wIf t a b ρ mh Q=(t ρ mh λc mh1=>if c=true then a ρ mh1 Q else b ρ mh1 Q):=rfl
@[simp] theorem s_sl (f:OS)(a:WE)(l h:WO):wSl f a l h ρ mh Q=(a ρ mh λx mh1=>l ρ mh1 λlo mh2=>h ρ mh2 λhi mh3=>f x lo hi mh3 Q):=rfl
@[simp] theorem s_no (R:Option Int->MH->Prop):U5 ρ mh R=(R none mh):=rfl
@[simp] theorem aEj (a:WE)(R:Option Int->MH->Prop):rF a ρ mh R↔a ρ mh λx mh1=>got (asI x) λi=>R (some i) mh1:=by unfold rF;simp only[exI]
@[simp] theorem s_mt (T:String)(f:OM)(a:WE)(r:WA):GC T f a r ρ mh Q=(a ρ mh λx mh1=>vY mh1 T x/\r ρ mh1 λds mh2=>f x ds mh2 Q):=rfl
@[simp] theorem s_lc (own:List Str)(aD:List Nat)(i:WI)(g:WG)(t:WT)(a:WE):A9 own aD i g t a ρ mh Q=(i ρ mh λds St mh1=>i7 g t a (fW own aD ρ) St Q ds [] mh1):=rfl
variable {R:Bool->MH->Prop}
@[simp] theorem s_tst (a:WE):dU a ρ mh R↔a ρ mh λx mh1=>got (asB x) λk=>R k mh1:=by unfold dU;simp only[exB]
@[simp] theorem s_tru (a:WE):r8 a ρ mh R↔a ρ mh λx mh1=>got (iO mh1 x) λk=>R k mh1:=by
 unfold r8
 have:(λx mh1=>∃k,iO mh1 x=some k/\R k mh1)=λx mh1=>got (iO mh1 x) λk=>R k mh1:=by
  funext x m;exact propext (fC _ _)
 rw[this]
@[simp] theorem aF2 (t u:WT):rG t u ρ mh R=(t ρ mh λc mh1=>if c=true then u ρ mh1 R else R false mh1):=rfl
@[simp] theorem s_orT (t u:WT):K5 t u ρ mh R=(t ρ mh λc mh1=>if c=true then R true mh1 else u ρ mh1 R):=rfl
@[simp] theorem aEn (t:WT):tG t ρ mh R=(t ρ mh λc mh1=>R (!c) mh1):=rfl
@[simp] theorem LL:kJ ρ mh R=(R true mh):=rfl
variable {E:eO}
@[simp] theorem aEo:dI E ρ mh=(E.nx ρ mh):=rfl
@[simp] theorem UB (t u:WS):aW t u E ρ mh=(t {E with nx:=u E} ρ mh):=rfl
@[simp] theorem s_cnt:U6 E ρ mh=(E.ct ρ mh):=rfl
@[simp] theorem aEx (a:WE):iE a E ρ mh=(a ρ mh λ_ mh1=>E.nx ρ mh1):=rfl
@[simp] theorem s_ret (a:WE):dW a E ρ mh=(a ρ mh E.rt):=rfl
@[simp] theorem s_ifS (t:WT)(a b:WS):gC t a b E ρ mh=(t ρ mh λc mh1=>if c=true then a E ρ mh1 else b E ρ mh1):=rfl
@[simp] theorem aB3 (a:WE)(g:WG):bS a g E ρ mh=(a ρ mh λd mh1=>g d ρ λρ' =>E.nx ρ' mh1):=rfl
@[simp] theorem aEf (a o i:WE):tF a o i E ρ mh=(a ρ mh λd mh1=>o ρ mh1 λob mh2=>i ρ mh2 λix mh3=>QH ob ix d mh3 λmh4=>E.nx ρ mh4):=rfl
@[simp] theorem s_for (i:WI)(g:WG)(b:WS):jF i g b E ρ mh=(i ρ mh λds St mh1=>kH g b E St ds ρ mh1):=rfl
@[simp] theorem aEv (i:Nat)(d:D)(P:d7->Prop):gN i d ρ P=(P (ρ.set i (some d))):=rfl
@[simp] theorem aD9 (P:d7->Prop):cR [] ρ P↔P ρ:=by simp[cR]
@[simp] theorem aB2 (t:WG)(u:TN)(d:D)(r:List D)(P:d7->Prop):aH t u (d::r) ρ P↔t d ρ λρ' =>u r ρ' P:=⟨λzz4=>by obtain⟨a,b,e,h⟩:=zz4;cases e;exact h,λh=>⟨d,r,rfl,h⟩⟩
@[simp] theorem s_gT (n:Nat)(u:TN)(ds:List D)(P:d7->Prop):gT n u (.tup ds) ρ P↔ds.length=n/\u ds ρ P:=by
 unfold gT;exact⟨λzz5=>by obtain⟨es,e,h⟩:=zz5;cases e;exact h,λh=>⟨ds,rfl,h⟩⟩
@[simp] theorem aEg (a:WE)(P:List D->(MH->Prop)->MH->Prop):cY a ρ mh P↔a ρ mh λx mh1=>got (bG mh1 x) λds=>P ds (λmh' =>bG mh' x=some ds) mh1:=by
 unfold cY
 have:(λx mh1=>∃ds,bG mh1 x=some ds/\P ds (λmh' =>bG mh' x=some ds) mh1)=λx mh1=>got (bG mh1 x) λds=>P ds (λmh' =>bG mh' x=some ds) mh1:=by
  funext x m;exact propext (fC _ _)
 rw[this]
@[simp] theorem aEh (a:WA)(P:List D->(MH->Prop)->MH->Prop):kA a ρ mh P=(a ρ mh λds mh1=>∃j,ds=[.int j]/\ -(2^62)<=j/\j<=sizeLine/\P (uC 0 j.toNat) (λ_=>True) mh1):=rfl
@[simp] theorem aEe (a:WA)(P:List D->(MH->Prop)->MH->Prop):A8 a ρ mh P↔a ρ mh λxs mh1=>match xs with
  | [x,y]=>got (bG mh1 x) λds=>got (bG mh1 y) λes=>ds.length<=sizeLine/\P (kI ds es) (λmh' =>bG mh' x=some ds/\bG mh' y=some es) mh1
  | _=>False:=by
 unfold A8
 have:(λxs mh1=>∃x y ds es,xs=[x,y]/\bG mh1 x=some ds/\bG mh1 y=some es/\ds.length<=sizeLine/\P (kI ds es) (λmh' =>bG mh' x=some ds/\bG mh' y=some es) mh1)=λxs mh1=>match xs with
  | [x,y]=>got (bG mh1 x) λds=>got (bG mh1 y) λes=>ds.length<=sizeLine/\P (kI ds es) (λmh' =>bG mh' x=some ds/\bG mh' y=some es) mh1
  | _=>False:=by
  funext xs m;apply propext
  match xs with
  | []=>simp
  | [_]=>simp
  | [x,y]=>
   simp only[<-fC];constructor
   ·rintro⟨x',y',ds,es,e,h1,h2,h⟩;cases e;exact⟨ds,h1,es,h2,h⟩
   ·rintro⟨ds,h1,es,h2,h⟩;exact⟨x,y,ds,es,rfl,h1,h2,h⟩
  | _::_::_::_=>simp
 rw[this]
@[simp high] theorem aDm (b:Int)(P:Int->Prop):(∃c,[D.int b]=[D.int c]/\P c)↔P b:=⟨λzz6=>by obtain⟨c,e,h⟩:=zz6;cases e;exact h,λh=>⟨b,rfl,h⟩⟩
@[simp high] theorem aDl (a b:Int)(P:Int->Int->Prop):(∃c d,[D.int a,D.int b]=[D.int c,D.int d]/\P c d)↔P a b:=⟨λzz7=>by obtain⟨c,d,e,h⟩:=zz7;cases e;exact h,λh=>⟨a,b,rfl,h⟩⟩
@[simp] theorem LM (C:Int->Int->Prop)(g:Int->Int->D)(i j:Int):zE C g (.int i) (.int j) mh Q↔C i j/\Q (g i j) mh:=by
 unfold zE;exact⟨λzz8=>by obtain⟨a,b,e,f,h⟩:=zz8;cases e;cases f;exact h,λh=>⟨i,j,rfl,rfl,h⟩⟩
@[simp] theorem s_neg (i:Int):fK (.int i) mh Q↔Q (.int (-i)) mh:=by
 unfold fK;exact⟨λzz9=>by obtain⟨a,e,h⟩:=zz9;cases e;exact h,λh=>⟨i,rfl,h⟩⟩
@[simp] theorem LQ (i j:Int):fL (.int i) (.int j) mh Q=(Q (.int (i+j)) mh):=rfl
@[simp] theorem aF4 (i j:Str):fL (.str i) (.str j) mh Q=(i.length+j.length<=sizeLine/\Q (.str (i++j)) mh):=rfl
@[simp] theorem aF3 (i j:List D):fL (.tup i) (.tup j) mh Q=(i.length+j.length<=sizeLine/\Q (.tup (i++j)) mh):=rfl
theorem LP{n m:Nat}{i j:List D}(h1:mh[n]? =some (.lst i))(h2:mh[m]? =some (.lst j)):fL (.ref n) (.ref m) mh Q↔(i++j).length<=sizeLine/\Q (.ref mh.length) (mh++[.lst (i++j)]):=by
 show (∃i j,mh[n]? =some (.lst i)/\mh[m]? =some (.lst j)/\ER (i++j) mh Q)↔_;rw[h1,h2];exact⟨λzz10=>by obtain⟨a,b,e,f,h⟩:=zz10;cases e;cases f;exact h,λh=>⟨i,j,rfl,rfl,h⟩⟩
@[simp] theorem LN (ds:List D)(i:Int):gV (.tup ds) (.int i) mh Q↔got (nR ds i) λd=>Q d mh:=by
 unfold gV;rw[<-fC];exact⟨λzz11=>by obtain⟨a,e,es,d,h1,h2,h⟩:=zz11;cases e;cases h1;exact⟨d,h2,h⟩,λzz12=>by obtain⟨d,h1,h⟩:=zz12;exact⟨i,rfl,ds,d,rfl,h1,h⟩⟩
@[simp] theorem aB0 (ds:List D)(i:Int):gV (.fl ds) (.int i) mh Q↔got (nR ds i) λd=>Q d mh:=by
 unfold gV;rw[<-fC];exact⟨λzz13=>by obtain⟨a,e,es,d,h1,h2,h⟩:=zz13;cases e;cases h1;exact⟨d,h2,h⟩,λzz14=>by obtain⟨d,h1,h⟩:=zz14;exact⟨i,rfl,ds,d,rfl,h1,h⟩⟩
theorem fH{n:Nat}{ds:List D}(h:mh[n]? =some (.lst ds))(i:Int):gV (.ref n) (.int i) mh Q↔got (nR ds i) λd=>Q d mh:=by
 unfold gV;rw[<-fC];have e:bG mh (.ref n)=some ds:=by simp[bG,h]
 exact⟨λzz15=>by obtain⟨a,ee,es,d,h1,h2,hq⟩:=zz15;cases ee;rw[e]at h1;cases h1;exact⟨d,h2,hq⟩,λzz16=>by obtain⟨d,h1,hq⟩:=zz16;exact⟨i,rfl,ds,d,e,h1,hq⟩⟩
@[simp] theorem s_ltI (i j:Int):oLt (.int i) (.int j) mh Q=(Q (.bl (decide (i<j))) mh):=rfl
@[simp] theorem s_leI (i j:Int):oLe (.int i) (.int j) mh Q=(Q (.bl (decide (i<=j))) mh):=rfl
@[simp] theorem aB1 (i j:Int):O9 (.int i) (.int j) mh Q=(Q (.bl (decide (j<i))) mh):=rfl
@[simp] theorem s_geI (i j:Int):oGe (.int i) (.int j) mh Q=(Q (.bl (decide (j<=i))) mh):=rfl
@[simp] theorem s_eqI (i j:Int):oEq (.int i) (.int j) mh Q↔Q (.bl (i==j)) mh:=by simp[oEq,jQ,bare,deep,pV]
@[simp] theorem s_neI (i j:Int):O8 (.int i) (.int j) mh Q↔Q (.bl (!(i==j))) mh:=by simp[O8,jQ,bare,deep,pV]
@[simp] theorem s_eqB (i j:Bool):oEq (.bl i) (.bl j) mh Q↔Q (.bl (i==j)) mh:=by simp[oEq,jQ,bare,deep,pV]
@[simp] theorem s_neB (i j:Bool):O8 (.bl i) (.bl j) mh Q↔Q (.bl (!(i==j))) mh:=by simp[O8,jQ,bare,deep,pV]
@[simp] theorem s_eqS (i j:Str):oEq (.str i) (.str j) mh Q↔Q (.bl (i==j)) mh:=by simp[oEq,jQ,bare,deep,pV]
@[simp] theorem s_eqT (i j:List D):oEq (.tup i) (.tup j) mh Q↔f9 i=true/\f9 j=true/\c9 i+1<=40/\Q (.bl (fV i j)) mh:=by simp[oEq,jQ,bare,deep,pV]
@[simp] theorem aEu (x:D)(T:String):p7 [x,.ty T] mh Q↔got (PY mh x) λt=>T∈bJ/\Q (.bl (r9 t T)) mh:=by
 unfold p7;rw[<-fC];constructor
 ·rintro⟨x',c,t,e,h1,⟨T',e2,h2,h⟩ | ⟨Ts,e2,_⟩⟩
  ·cases e;cases e2;exact⟨t,h1,h2,h⟩
  ·cases e;cases e2
 ·rintro⟨t,h1,h2,h⟩;exact⟨x,_,t,rfl,h1,.inl ⟨T,rfl,h2,h⟩⟩
@[simp] theorem aEt (x:D)(T U:String):p7 [x,.tup [.ty T,.ty U]] mh Q↔got (PY mh x) λt=>T∈bJ/\U∈bJ/\Q (.bl (r9 t T || r9 t U)) mh:=by
 unfold p7;rw[<-fC];constructor
 ·rintro⟨x',c,t,e,h1,⟨T',e2,h2,h⟩ | ⟨Ts,e2,h2,h⟩⟩
  ·cases e;cases e2
  ·cases e;injection e2 with e3
   match Ts,e3 with
   | [T',U'],e3=>
    simp at e3;obtain⟨rfl,rfl⟩:=e3;exact⟨t,h1,h2 _ (by simp),h2 _ (by simp),by simpa using h⟩
 ·rintro⟨t,h1,h2,h3,h⟩;exact⟨x,_,t,rfl,h1,.inr ⟨[T,U],rfl,by simp[h2,h3],by simpa using h⟩⟩
@[simp] theorem VR (ds:List D):gH [.tup ds] mh Q↔Q (.int ds.length) mh:=by
 unfold gH;exact⟨λzz17=>by obtain⟨a,e,h⟩:=zz17;cases e;obtain⟨es,h1,h⟩:=h;cases h1;exact h,λh=>⟨_,rfl,ds,rfl,h⟩⟩
@[simp] theorem aEs (ds:List D):gH [.fl ds] mh Q↔Q (.int ds.length) mh:=by
 unfold gH;exact⟨λzz18=>by obtain⟨a,e,h⟩:=zz18;cases e;obtain⟨es,h1,h⟩:=h;cases h1;exact h,λh=>⟨_,rfl,ds,rfl,h⟩⟩
theorem lK{n:Nat}{ds:List D}(h:mh[n]? =some (.lst ds)):gH [.ref n] mh Q↔Q (.int ds.length) mh:=by
 unfold gH;have e:bG mh (.ref n)=some ds:=by simp[bG,h]
 exact⟨λzz19=>by obtain⟨a,ee,hq⟩:=zz19;cases ee;obtain⟨es,h1,hq⟩:=hq;rw[e]at h1;cases h1;exact hq,λhq=>⟨_,rfl,ds,e,hq⟩⟩
@[simp] theorem aEr (z:Str):gH [.str z] mh Q↔z.length<=sizeLine/\Q (.int z.length) mh:=by
 unfold gH;exact⟨λzz20=>by obtain⟨a,e,h⟩:=zz20;cases e;exact h,λh=>⟨_,rfl,h⟩⟩
@[simp] theorem s_abs (i:Int):TM [.int i] mh Q↔Q (.int (if i<0 then -i else i)) mh:=by
 unfold TM;exact⟨λzz21=>by obtain⟨a,e,h⟩:=zz21;cases e;exact h,λh=>⟨i,rfl,h⟩⟩
@[simp] theorem aEq (i j:Int):DO [.int i,.int j] mh Q↔Q (.int (if j > i then j else i)) mh:=by
 unfold DO;exact⟨λzz22=>by obtain⟨a,b,e,h⟩:=zz22;cases e;exact h,λh=>⟨i,j,rfl,h⟩⟩
@[simp] theorem aEp (i j:Int):yJ [.int i,.int j] mh Q↔Q (.int (if j<i then j else i)) mh:=by
 unfold yJ;exact⟨λzz23=>by obtain⟨a,b,e,h⟩:=zz23;cases e;exact h,λh=>⟨i,j,rfl,h⟩⟩
@[simp] theorem aAz (x:D):qS [x] mh Q↔got (bG mh x) λds=>Q (.tup ds) mh:=by
 unfold qS;rw[<-fC];exact⟨λzz26=>by obtain⟨a,ds,e,h1,h⟩:=zz26;cases e;exact⟨ds,h1,h⟩,λzz27=>by obtain⟨ds,h1,h⟩:=zz27;exact⟨x,ds,rfl,h1,h⟩⟩
@[simp] theorem s_slT (ds:List D)(lo hi:Option Int):Z4 (.tup ds) lo hi mh Q=(Q (.tup (cutD ds lo hi)) mh):=rfl
theorem UA{n:Nat}{ds:List D}(h:mh[n]? =some (.lst ds))(lo hi:Option Int):Z4 (.ref n) lo hi mh Q↔Q (.ref mh.length) (mh++[.lst (cutD ds lo hi)]):=by
 show (∃ds,mU mh (.ref n)=some ds/\Q (.ref mh.length) (mh++[.lst (cutD ds lo hi)]))↔_;have e:mU mh (.ref n)=some ds:=by simp[mU,h]
 exact⟨λzz28=>by obtain⟨es,h1,hq⟩:=zz28;rw[e]at h1;cases h1;exact hq,λhq=>⟨ds,e,hq⟩⟩
theorem t9{n:Nat}{ds:List D}{P:MH->Prop}(h:mh[n]? =some (.lst ds))(i:Int)(d:D):QH (.ref n) (.int i) d mh P↔got (E5 ds.length i) λj=>P (mh.set n (.lst (ds.set j d))):=by
 unfold QH;rw[<-fC];exact⟨λzz29=>by obtain⟨m,es,k,j,e1,e2,h1,h2,hq⟩:=zz29;cases e1;cases e2;rw[h]at h1;cases h1;exact⟨j,h2,hq⟩,λzz30=>by obtain⟨j,h1,hq⟩:=zz30;exact⟨n,ds,i,j,rfl,rfl,h,h1,hq⟩⟩
theorem eS{n:Nat}{es:List D}(h:mh[n]? =some (.lst es))(d:D):dD (.ref n) [d] mh Q↔es.length<sizeLine/\Q .b6 (mh.set n (.lst (es++[d]))):=by
 unfold dD;exact⟨λzz31=>by obtain⟨m,fs,d',e1,e2,h1,hq⟩:=zz31;cases e1;cases e2;rw[h]at h1;cases h1;exact hq,λhq=>⟨n,es,d,rfl,rfl,h,hq⟩⟩
@[simp] theorem aG0 (d:D)(ds:List D):nR (d::ds) 0=some d:=by
 have:=iK (xs:=d::ds) (j:=0) (v:=d) rfl;simpa using this
theorem eR(mh:MH)(o:MO):(mh++[o])[mh.length]? =some o:=by simp
end
theorem cJ{n:Nat}{d:D}{mh:MH}{R:DK}(h:R d mh):Out n d mh R:= .inl h
theorem uJ{d:D}{mh junk:MH}{R:DK}(ok:kM mh)(b:dN mh.length d=true)(h:R d mh):Out mh.length d (mh++junk) R:= .inr (.inl ⟨mh,junk,rfl,aGi _,ok,b,h⟩)
def lx:List Int->List Int->Bool
 | [],[]=>false
 | [],_::_=>true
 | _::_,[]=>false
 | a::as,b::bs=>if a<b then true else if b<a then false else lx as bs
theorem GY:∀x y:List Int,lx x y=true->lx y x=false
 | [],[],h=>by simp[lx]at h
 | [],_::_,h=>by simp[lx]
 | _::_,[],h=>by simp[lx]at h
 | a::as,b::bs,h=>by
  simp only[lx]at h⊢;by_cases h1:a<b
  ·rw[if_neg (by lia),if_pos h1]
  ·rw[if_neg h1]at h;by_cases h2:b<a
   ·rw[if_pos h2]at h;cases h
   ·rw[if_neg h2]at h⊢;rw[if_neg h1];exact GY as bs h
theorem UI:∀x y z:List Int,lx y x=false->lx z y=false->lx z x=false
 | [],y,z,h1,h2=>by
  cases z with
  | nil=>rfl
  | cons _ _=>rfl
 | a::as,[],z,h1,h2=>by simp[lx]at h1
 | a::as,b::bs,[],h1,h2=>by simp[lx]at h2
 | a::as,b::bs,c::cs,h1,h2=>by
  simp only[lx]at h1 h2⊢;by_cases h3:b<a
  ·rw[if_pos h3]at h1;cases h1
  ·rw[if_neg h3]at h1;by_cases h4:c<b
   ·rw[if_pos h4]at h2;cases h2
   ·rw[if_neg h4]at h2;rw[if_neg (by lia)];by_cases h5:a<c
    ·rw[if_pos h5]
    ·rw[if_neg h5];rw[if_neg (by lia)]at h1 h2;exact UI as bs cs h1 h2
def jP:D->List Int
 | .int i=>[i]
 | .str z=>z.cps.toList.map (λ(c:Nat)=>(c:Int))++[-1]
 | _=>[]
def enc:D->List Int
 | .tup ds=>ds.flatMap jP
 | d=>jP d
theorem EV:∀a b:List Nat,lx (a.map (λ(c:Nat)=>(c:Int))++[-1]) (b.map (λ(c:Nat)=>(c:Int))++[-1])=decide (a<b)
 | [],[]=>by simp[lx]
 | [],b::bs=>by
  have:(-1:Int)<(b:Int):=by lia
  simp[lx,this]
 | a::as,[]=>by
  have h1:¬((a:Int) < -1):=by lia
  have h2:(-1:Int)<(a:Int):=by lia
  simp[lx,h1,h2]
 | a::as,b::bs=>by
  have ih:=EV as bs;simp only[List.map_cons,List.cons_append,lx,ih];by_cases h1:a<b
  ·rw[if_pos (by lia)];exact(decide_eq_true (List.cons_lt_cons_iff.mpr (.inl h1))).symm
  ·rw[if_neg (by lia)];by_cases h2:b<a
   ·rw[if_pos (by lia)];exact(aIf (λq=>by rcases List.cons_lt_cons_iff.mp q with q | q <;> lia)).symm
   ·rw[if_neg (by lia)];have e:a=b:=by lia
    subst e;rw[Bool.eq_iff_iff,decide_eq_true_iff,decide_eq_true_iff,List.cons_lt_cons_iff];simp
inductive Sc where | i | s
def fU:Sc->D->Bool
 | .i,.int _=>true
 | .s,.str _=>true
 | _,_=>false
def dZ:List Sc->List D->Bool
 | [],[]=>true
 | c::cs,d::ds=>fU c d && dZ cs ds
 | _,_=>false
theorem RM(x:List Int):∀r r' :List Int,lx (x++r) (x++r')=lx r r' :=by
 induction x with
 | nil=>intro r r';rfl
 | cons a as ih=>intro r r';simp[lx,ih]
theorem QC{a b:Str}(h:a.cps.toList=b.cps.toList):a=b:=by
 cases a;cases b;simp at h;simp[h]
theorem rP:∀(a b:List Nat) (r r' :List Int),a≠b->lx ((a.map (λ(c:Nat)=>(c:Int))++[-1])++r) ((b.map (λ(c:Nat)=>(c:Int))++[-1])++r')=lx (a.map (λ(c:Nat)=>(c:Int))++[-1]) (b.map (λ(c:Nat)=>(c:Int))++[-1])
 | [],[],_,_,h=>absurd rfl h
 | [],b::bs,r,r',_=>by
  have:(-1:Int)<(b:Int):=by lia
  simp[lx,this]
 | a::as,[],r,r',_=>by
  have h1:¬((a:Int) < -1):=by lia
  have h2:(-1:Int)<(a:Int):=by lia
  simp[lx,h1,h2]
 | a::as,b::bs,r,r',h=>by
  simp only[List.map_cons,List.cons_append,lx];by_cases h1:(a:Int)<b
  ·simp[h1]
  ·by_cases h2:(b:Int)<a
   ·simp[h1,h2]
   ·have e:a=b:=by lia
    subst e;simp only[h1,h2,if_false];exact rP as bs r r' λq=>h (by rw[q])
theorem RP{c:Sc}{d e:D}(h1:fU c d=true)(h2:fU c e=true)(h:d≠e)(r r' :List Int):lx (jP d++r) (jP e++r')=lx (jP d) (jP e):=by
 cases c <;> cases d <;> simp[fU]at h1 <;> cases e <;> simp[fU]at h2
 ·rename_i i j;have:i≠j:=λq=>h (by rw[q]);simp only[jP,List.cons_append,List.nil_append,lx];by_cases h1:i<j
  ·simp[h1]
  ·have:j<i:=by lia
   simp[h1,this]
 ·rename_i a b;simp only[jP];exact rP _ _ r r' λq=>h (by rw[QC q])
theorem OL{c:Sc}{d e:D}(h1:fU c d=true)(h2:fU c e=true):pV d e=true↔d=e:=by
 cases c <;> cases d <;> simp[fU]at h1 <;> cases e <;> simp[fU]at h2
 ·simp[pV]
 ·simp[pV]
mutual
theorem K8{h:Heap}:∀{d e:D} {u:Value},Vl h d u->Vl h e u->d=e
 | .b6,e,u,p,q=>by
  unfold Vl at p;subst p
  cases e <;> unfold Vl at q <;> first | rfl | (cases q;done) | (obtain⟨_,q⟩:=q;cases q;done) | (obtain⟨_,_,q,_⟩:=q;cases q;done)
 | .bl a,e,u,p,q=>by
  unfold Vl at p;subst p
  cases e <;> unfold Vl at q <;> first | (cases q;rfl) | (cases q;done) | (obtain⟨_,q⟩:=q;cases q;done) | (obtain⟨_,_,q,_⟩:=q;cases q;done)
 | .int a,e,u,p,q=>by
  unfold Vl at p;obtain⟨t,rfl⟩:=p
  cases e <;> unfold Vl at q <;> first | (cases q;done) | (obtain⟨_,q⟩:=q;cases q;rfl) | (obtain⟨_,q⟩:=q;cases q;done) | (obtain⟨_,_,q,_⟩:=q;cases q;done)
 | .str a,e,u,p,q=>by
  unfold Vl at p;obtain⟨t,rfl⟩:=p
  cases e <;> unfold Vl at q <;> first | (cases q;done) | (obtain⟨_,q⟩:=q;cases q;rfl) | (obtain⟨_,q⟩:=q;cases q;done) | (obtain⟨_,_,q,_⟩:=q;cases q;done)
 | .ty _,e,u,p,q=>by unfold Vl at p;exact p.elim
 | .ref _,e,u,p,q=>by unfold Vl at p;exact p.elim
 | .tup as,e,u,p,q=>by
  unfold Vl at p;obtain⟨a,us,rfl,ht,l⟩:=p
  cases e with
  | tup bs=>
   unfold Vl at q;obtain⟨b,ws,e,ht2,l2⟩:=q;cases e;obtain⟨o,h1,_,n,h2⟩:=ht;obtain⟨o2,h3,_,n2,h4⟩:=ht2;rw[h1]at h3;cases h3;rw[h2]at h4;injection h4 with h5;have h6:us=ws:=by simpa using aHk Array.toList h5
   subst h6;rw[yR l l2]
  | fl bs=>
   unfold Vl at q;obtain⟨b,ws,e,ht2,l2⟩:=q;cases e;exact(sM ht2 ht).elim
  | _=>unfold Vl at q;first | (cases q;done) | (obtain⟨_,q⟩:=q;cases q;done)
 | .fl as,e,u,p,q=>by
  unfold Vl at p;obtain⟨a,us,rfl,ht,l⟩:=p
  cases e with
  | fl bs=>
   unfold Vl at q;obtain⟨b,ws,e,ht2,l2⟩:=q;cases e;obtain⟨o,h1,_,n,h2⟩:=ht;obtain⟨o2,h3,_,n2,h4⟩:=ht2;rw[h1]at h3;cases h3;rw[h2]at h4;injection h4 with h5;have h6:us=ws:=by simpa using aHk Array.toList h5
   subst h6;rw[yR l l2]
  | tup bs=>
   unfold Vl at q;obtain⟨b,ws,e,ht2,l2⟩:=q;cases e;exact(sM ht ht2).elim
  | _=>unfold Vl at q;first | (cases q;done) | (obtain⟨_,q⟩:=q;cases q;done)
theorem yR{h:Heap}:∀{ds es:List D} {us:List Value},eN h ds us->eN h es us->ds=es
 | [],es,us,p,q=>by unfold eN at p;subst p;cases es with | nil=>rfl | cons=>unfold eN at q;obtain⟨_,_,e,_⟩:=q;cases e
 | d::ds,es,us,p,q=>by
  unfold eN at p;obtain⟨u,r,rfl,i,l⟩:=p
  cases es with
  | nil=>unfold eN at q;cases q
  | cons e es=>
   unfold eN at q;obtain⟨u2,r2,e2,i2,l2⟩:=q;cases e2;rw[K8 i i2,yR l l2]
end
mutual
theorem Vl.keep{h h' :Heap}(k:∀b o,h.get? b=some o->h'.get? b=some o):∀(d:D) (u:Value),Vl h d u->Vl h' d u
 | .b6,u,q=>by unfold Vl at*;exact q
 | .bl _,u,q=>by unfold Vl at*;exact q
 | .int _,u,q=>by unfold Vl at*;exact q
 | .str _,u,q=>by unfold Vl at*;exact q
 | .ty _,u,q=>by unfold Vl at*;exact q
 | .ref _,u,q=>by unfold Vl at*;exact q
 | .tup ds,u,q=>by
  unfold Vl at*;obtain⟨a,us,e,⟨o,h1,h2⟩,l⟩:=q;exact⟨a,us,e,⟨o,k _ _ h1,h2⟩,eN.keep k ds us l⟩
 | .fl ds,u,q=>by
  unfold Vl at*;obtain⟨a,us,e,⟨o,h1,h2⟩,l⟩:=q;exact⟨a,us,e,⟨o,k _ _ h1,h2⟩,eN.keep k ds us l⟩
theorem eN.keep{h h' :Heap}(k:∀b o,h.get? b=some o->h'.get? b=some o):∀(ds:List D) (us:List Value),eN h ds us->eN h' ds us
 | [],us,q=>by unfold eN at*;exact q
 | d::ds,us,q=>by
  unfold eN at*;obtain⟨u,r,e,i,l⟩:=q;exact⟨u,r,e,Vl.keep k d u i,eN.keep k ds r l⟩
end
def KN(ds:List D):Prop:=(∃c,∀d∈ds,fU c d=true)\/∃c cs,∀d∈ds,∃es,d= .tup es/\dZ (c::cs) es=true
open Classical in
noncomputable def dv(h:Heap)(u:Value):D:=if q:∃d,Vl h d u then q.choose else .b6
theorem nQ{h:Heap}{d:D}{u:Value}(p:Vl h d u):dv h u=d:=by
 unfold dv;rw[dif_pos ⟨d,p⟩];exact K8 (Exists.choose_spec (⟨d,p⟩:∃d,Vl h d u)) p
noncomputable def ltV(h:Heap)(x y:Keyed):Bool:=lx (enc (dv h x.1)) (enc (dv h y.1))
theorem EW(h:Heap):TS.Wk (ltV h):=⟨λx y=>GY _ _,λx y z=>UI _ _ _⟩
theorem mG{h:Heap}:∀{ds:List D} {us:List Value},eN h ds us->∀u∈us,∃d∈ds,Vl h d u
 | [],us,q,u,hu=>by unfold eN at q;subst q;cases hu
 | d::ds,us,q,u,hu=>by
  unfold eN at q;obtain⟨w,r,rfl,i,l⟩:=q;rcases aGk.mp hu with rfl | hu
  ·exact⟨d,aGf,i⟩
  ·obtain⟨e,he,p⟩:=mG l u hu;exact⟨e,aGg _ he,p⟩
open PySem.W in
theorem xM{prog:Program}{w:World}{A:Around}{Q:Bool->Shared->Prop}{s:Shared}(hu:A.units+32<cLine):∀(cs:List Sc) (as bs:List D) (us vs:List Value) (i:Nat) (b:Bool),(b=true->i=0->True)->dZ cs as=true->dZ cs bs=true->eN s.heap as us->eN s.heap bs vs->
  Q (lx (as.flatMap jP) (bs.flatMap jP)) s->KatLex prog w A b false Q (us.zip vs) i s
 | [],[],[],us,vs,i,b,_,_,_,l1,l2,q=>by unfold eN at l1 l2;subst l1 l2;exact kat_nil q
 | [],[],_::_,_,_,_,_,_,_,h2,_,_,_=>by simp[dZ]at h2
 | [],_::_,_,_,_,_,_,_,h1,_,_,_,_=>by simp[dZ]at h1
 | _::_,[],_,_,_,_,_,_,h1,_,_,_,_=>by simp[dZ]at h1
 | _::_,_::_,[],_,_,_,_,_,_,h2,_,_,_=>by simp[dZ]at h2
 | c::cs,a::as,d::bs,us,vs,i,b,hb,h1,h2,l1,l2,q=>by
  unfold eN at l1 l2;obtain⟨u,ur,rfl,p1,l1⟩:=l1;obtain⟨v,vr,rfl,p2,l2⟩:=l2;simp only[dZ,Bool.and_eq_true]at h1 h2;rw[List.zip_cons_cons];have dz:deep a<=0:=by cases c <;> cases a <;> simp[fU]at h1 <;> simp[deep]
  refine kat_cons (oB (s:=s) 0 dz (by lia) p1 p2 prog w _ _ ?_);simp only[List.flatMap_cons]at q;refine kat_go (λe=>kat_yes ?_) (λe=>kat_no ?_)
  ·have ead:a=d:=(OL h1.1 h2.1).mp e;subst ead;rw[RM]at q;exact xM hu cs as bs ur vr (i+1) b (λ_ _=>trivial) h1.2 h2.2 l1 l2 q
  ·have nad:a≠d:=λz=>by rw[(OL h1.1 h2.1).mpr z]at e;cases e
   rw[RP h1.1 h2.1 nad]at q
   cases c with
   | i=>
    cases a <;> simp[fU]at h1;cases d <;> simp[fU]at h2;rename_i x y;unfold Vl at p1 p2;obtain⟨t1,rfl⟩:=p1;obtain⟨t2,rfl⟩:=p2
    have q' :Q (decide (x<y)) s:=by
     have:lx (jP (.int x)) (jP (.int y))=decide (x<y):=by
      simp only[jP,lx];by_cases hlt:x<y
      ·simp[hlt]
      ·simp[hlt]
     rw[<-this];exact q
    cases hbi:(b && i==0) with
    | true=>exact oneLt_int q'
    | false=>exact kat_one _ _ (lt_int q')
   | s=>
    cases a <;> simp[fU]at h1;cases d <;> simp[fU]at h2;rename_i x y;unfold Vl at p1 p2;obtain⟨t1,rfl⟩:=p1;obtain⟨t2,rfl⟩:=p2
    have q' :Q (decide (x.cps.toList<y.cps.toList)) s:=by
     have:lx (jP (.str x)) (jP (.str y))=decide (x.cps.toList<y.cps.toList):=EV _ _;rw[<-this];exact q
    cases hbi:(b && i==0) with
    | true=>exact oneLt_str q'
    | false=>exact kat_one _ _ (lt_str q')
def scT:Sc->String | .i=>"int" | .s=>"str"
section
variable {prog:Program}{w:World}{A:Around}
theorem qK:∀{cs:List Sc} {ds:List D},dZ cs ds=true->ds.length=cs.length
 | [],[],_=>rfl
 | [],_::_,h=>by simp[dZ]at h
 | _::_,[],h=>by simp[dZ]at h
 | c::cs,d::ds,h=>by simp only[dZ,Bool.and_eq_true]at h;simp[qK h.2]
theorem mL{vs:List Value}{x:Keyed}(h:x∈(pairsOf vs).toList):x=(x.1,x.1)/\x.1∈vs:=by
 rw[pairsOf_toList]at h
 induction vs with
 | nil=>simp at h
 | cons v r ih=>
  rw[List.zip_cons_cons]at h;rcases aGk.mp h with e | e
  ·rw[e];exact⟨rfl,aGf⟩
  ·obtain⟨a,b⟩:=ih e;exact⟨a,aGg _ b⟩
theorem tS{s:Shared}{ds:List D}{vs:List Value}(hu:A.units+40<cLine)(U:KN ds)(l:eN s.heap ds vs)(h2:2<=vs.length):
  ∃κ,∀h' :Heap,(∀b o,s.heap.get? b=some o->h'.get? b=some o)->TS.mT prog w A {s with heap:=h'} κ (ltV s.heap) (pairsOf vs)/\
   ∀Q' E',Q' κ {s with heap:=h'}->wpAny (model prog w) A (keyKind' vs.toArray) Q' E' {s with heap:=h'}:=by
 rcases U with ⟨c,hc⟩ | ⟨c,cs,hc⟩
 ·refine⟨oneType',λh' k=>⟨λx y hx hy Q q=>?_,λQ' E' q=>?_⟩⟩
  ·obtain⟨_,mx⟩:=mL hx;obtain⟨_,my⟩:=mL hy;obtain⟨d,dm,dp⟩:=mG l _ mx;obtain⟨e,em,ep⟩:=mG l _ my
   have q' :Q (lx (enc d) (enc e)) {s with heap:=h'}:=by
    have:ltV s.heap x y=lx (enc d) (enc e):=by unfold ltV;rw[nQ dp,nQ ep]
    rw[<-this];exact q
   have hd:=hc d dm;have he:=hc e em;obtain⟨x1,x2⟩:=x;obtain⟨y1,y2⟩:=y
   cases c with
   | i=>
    cases d <;> simp[fU]at hd;cases e <;> simp[fU]at he;rename_i i j;unfold Vl at dp ep;obtain⟨t1,rfl⟩:=dp;obtain⟨t2,rfl⟩:=ep;refine PySem.W.kat_lt_int ?_
    have:lx (enc (.int i)) (enc (.int j))=decide (i<j):=by
     simp only[enc,jP,lx];by_cases hlt:i<j
     ·simp[hlt]
     ·simp[hlt]
    rw[<-this];exact q'
   | s=>
    cases d <;> simp[fU]at hd;cases e <;> simp[fU]at he;rename_i i j;unfold Vl at dp ep;obtain⟨t1,rfl⟩:=dp;obtain⟨t2,rfl⟩:=ep;refine PySem.W.kas_lt_str ?_;have:lx (enc (.str i)) (enc (.str j))=decide (i.cps.toList<j.cps.toList):=EV _ _;rw[<-this];exact q'
  ·have ty:∀v∈vs,PySem.W.Looks (model prog w) h' (typeOf v) (.type (scT c)):=λv hv=>by
    obtain⟨d,dm,dp⟩:=mG l _ hv;have hd:=hc d dm
    cases c with
    | i=>cases d <;> simp[fU]at hd;unfold Vl at dp;obtain⟨t1,rfl⟩:=dp;exact aIt rfl
    | s=>cases d <;> simp[fU]at hd;unfold Vl at dp;obtain⟨t1,rfl⟩:=dp;exact aIt rfl
   exact PySem.W.kas_kind (s:={s with heap:=h'}) h2 ty (by cases c <;> rfl) (by cases c <;> rfl) q
 ·refine⟨tuples' true,λh' k=>⟨λx y hx hy Q q=>?_,λQ' E' q=>?_⟩⟩
  ·obtain⟨_,mx⟩:=mL hx;obtain⟨_,my⟩:=mL hy;obtain⟨d,dm,dp⟩:=mG l _ mx;obtain⟨e,em,ep⟩:=mG l _ my
   have q' :Q (lx (enc d) (enc e)) {s with heap:=h'}:=by
    have:ltV s.heap x y=lx (enc d) (enc e):=by unfold ltV;rw[nQ dp,nQ ep]
    rw[<-this];exact q
   obtain⟨as,rfl,ha⟩:=hc d dm;obtain⟨bs,rfl,hb⟩:=hc e em;obtain⟨x1,x2⟩:=x;obtain⟨y1,y2⟩:=y;unfold Vl at dp ep;obtain⟨a,us,ea,⟨o,ho,hcl,n,hd⟩,lu⟩:=dp;obtain⟨b,ws,eb,⟨o2,ho2,hcl2,n2,hd2⟩,lw⟩:=ep;have ea' :x1=Value.ref a:=ea;have eb' :y1=Value.ref b:=eb;subst ea' eb';refine PySem.W.kat_lt (s:={s with heap:=h'}) (k _ _ ho) hd (k _ _ ho2) hd2 ?_;have z1:=bF lu;have z2:=bF lw;have z3:=qK ha;have z4:=qK hb;have zz:decide (us.toArray.size<ws.toArray.size)=false:=aIf (by simp only[List.size_toArray];lia);rw[zz];exact xM (s:={s with heap:=h'}) (by lia) (c::cs) as bs us ws 0 true (λ_ _=>trivial) ha hb (eN.keep k as us lu) (eN.keep k bs ws lw) q'
  ·have fs:∃fs:List Value,PySem.W.KatTups h' vs fs/\fs.length=vs.length/\∀v∈fs,PySem.W.Looks (model prog w) h' (typeOf v) (.type (scT c)):=by
    clear q h2
    have go:∀(ds:List D) (vs:List Value),(∀d∈ds,∃es,d= .tup es/\dZ (c::cs) es=true)->eN s.heap ds vs->∃fs:List Value,PySem.W.KatTups h' vs fs/\fs.length=vs.length/\∀v∈fs,PySem.W.Looks (model prog w) h' (typeOf v) (.type (scT c)):=by
     intro ds
     induction ds with
     | nil=>intro vs _ l;unfold eN at l;subst l;exact⟨[],PySem.W.KatTups.nil,rfl,λv hv=>by cases hv⟩
     | cons d r ih=>
      intro vs hc l;unfold eN at l;obtain⟨u,ur,rfl,p,l⟩:=l;obtain⟨fs,f1,f2,f3⟩:=ih ur (λe he=>hc e (aGg _ he)) l;obtain⟨es,rfl,he⟩:=hc d aGf;unfold Vl at p;obtain⟨a,us,rfl,⟨o,ho,hcl,n,hd⟩,lu⟩:=p
      cases es with
      | nil=>simp[dZ]at he
      | cons e0 er=>
       unfold eN at lu;obtain⟨u0,u1,rfl,p0,_⟩:=lu;simp only[dZ,Bool.and_eq_true]at he;refine⟨u0::fs,PySem.W.KatTups.cons (k _ _ ho) hcl hd (by simp) f1,by simp[f2],λv hv=>?_⟩;rcases aGk.mp hv with rfl | hv
       ·cases c with
        | i=>cases e0 <;> simp[fU]at he;unfold Vl at p0;obtain⟨t1,rfl⟩:=p0;exact aIt rfl
        | s=>cases e0 <;> simp[fU]at he;unfold Vl at p0;obtain⟨t1,rfl⟩:=p0;exact aIt rfl
       ·exact f3 v hv
    exact go ds vs hc l
   obtain⟨fs,f1,f2,f3⟩:=fs;refine PySem.W.kat_kind (s:={s with heap:=h'}) f1 (by lia) f3 (by cases c <;> rfl) ?_;have:(Value.type (scT c) !=Value.type "tuple")=true:=by cases c <;> rfl
   rw[this];exact q
end
theorem lN{α β:Type}(f:α->β):∀{l:List β} {m:List β},l.Perm m->∀t:List α,m=t.map f->∃t' :List α,t'.Perm t/\t'.map f=l:=by
 intro l m h
 induction h with
 | nil=>intro t e;cases t <;> simp at e;exact⟨[],.refl _,rfl⟩
 | cons x _ ih=>
  intro t e
  cases t with
  | nil=>simp at e
  | cons a r=>
   simp at e;obtain⟨t',p,q⟩:=ih r e.2;exact⟨a::t',p.cons a,by simp[q,e.1]⟩
 | swap x y l=>
  intro t e
  match t,e with
  | [],e=>simp at e
  | [_],e=>simp at e
  | a::b::r,e=>
   simp at e;exact⟨b::a::r,.swap _ _ _,by simp[e]⟩
 | trans _ _ ih1 ih2=>
  intro t e;obtain⟨t1,p1,q1⟩:=ih2 t e;obtain⟨t2,p2,q2⟩:=ih1 t1 q1.symm;exact⟨t2,p2.trans p1,q2⟩
def HM:OA:=λxs mh Q=>∃x ds,xs=[x]/\mU mh x=some ds/\ds.length<4000/\KN ds/\
 ∀ds',ds'.Perm ds->ds'.Pairwise (λd e=>lx (enc e) (enc d)=false)->Q (.ref mh.length) (mh++[.lst ds'])
theorem yI{ds:List D}(U:KN ds):f9 ds=true:=by
 have sc:∀{cs:List Sc} {es:List D},dZ cs es=true->f9 es=true:=λ{cs}=>by
  induction cs with
  | nil=>intro es h;cases es with | nil=>rfl | cons=>simp[dZ]at h
  | cons c cs ih=>
   intro es h
   cases es with
   | nil=>simp[dZ]at h
   | cons e es=>
    simp only[dZ,Bool.and_eq_true]at h;simp only[f9,ih h.2,Bool.and_true];cases c <;> cases e <;> simp[fU]at h <;> rfl
 rcases U with ⟨c,hc⟩ | ⟨c,cs,hc⟩
 ·induction ds with
  | nil=>rfl
  | cons d r ih=>
   have hd:=hc d aGf;simp only[f9,ih λe he=>hc e (List.mem_cons_of_mem _ he),Bool.and_true];cases c <;> cases d <;> simp[fU]at hd <;> rfl
 ·induction ds with
  | nil=>rfl
  | cons d r ih=>
   obtain⟨es,rfl,he⟩:=hc d aGf;simp only[f9,ih λe he=>hc e (List.mem_cons_of_mem _ he),Bool.and_true];simpa[bare] using sc he
structure Tri where
 d:D
 v:V
 u:Value
theorem VF{K:aKd}{μ:List Addr}{H:Hp}{h:Heap}:∀{ds:List D} {vs:List V} {us:List Value},IsL K μ H ds vs->Vals vs us->eN h ds us->∃ts:List Tri,ts.map (·.d)=ds/\ts.map (·.v)=vs/\ts.map (·.u)=us/\∀t∈ts,Is K μ H t.d t.v/\RelV t.v t.u/\Vl h t.d t.u
 | [],vs,us,l,r,q=>by unfold IsL at l;subst l;cases r;exact⟨[],rfl,rfl,rfl,λt ht=>by cases ht⟩
 | d::ds,vs,us,l,r,q=>by
  unfold IsL at l;obtain⟨v,vr,rfl,i,l⟩:=l
  cases r with
  | @cons _ u0 _ ur0 r1 r2=>
   unfold eN at q;obtain⟨w,wr,e,p,q⟩:=q;injection e with e1 e2;subst e1 e2;obtain⟨ts,a,b,c,f⟩:=VF l r2 q
   exact⟨⟨d,v,u0⟩::ts,by simp[a],by simp[b],by simp[c],λt ht=>by
    rcases aGk.mp ht with rfl | ht
    ·exact⟨i,r1,p⟩
    ·exact f t ht⟩
theorem zT{K:aKd}{μ:List Addr}{H:Hp}:∀{ts:List Tri},(∀t∈ts,Is K μ H t.d t.v)->IsL K μ H (ts.map (·.d)) (ts.map (·.v))
 | [],_=>by simp[IsL]
 | t::ts,h=>by
  simp only[List.map_cons];unfold IsL;exact⟨_,_,rfl,h t aGf,zT λx hx=>h x (aGg _ hx)⟩
theorem tI:∀{ts:List Tri},(∀t∈ts,RelV t.v t.u)->Vals (ts.map (·.v)) (ts.map (·.u))
 | [],_=>.nil
 | t::ts,h=>.cons (h t aGf) (tI λx hx=>h x (aGg _ hx))
section
variable {X:Cx}
theorem JZ(hu:X.A.units+64<cLine):cS X (.builtin "sorted") (fN X.K HM):=by
 intro pins s σ H xs us Q I r q;obtain⟨μ,mh,ds,R,RR,il,⟨x,es,rfl,e,h64,U,q⟩,F⟩:=q;obtain⟨v,rfl,iv⟩:=nK il;obtain⟨a,vs,rfl,sq,l⟩:=uP RR iv e;obtain⟨u,rfl,ru⟩:=vals1 r;cases ru;obtain⟨aI,rv,pl,hz⟩:=I.list sq;have vl:=qC I es (yI U) l rv;have hlen:aI.length=es.length:=bF vl;have u2:X.A.in1.in1.units+40<cLine:=by show X.A.units+1+1+40<_;lia
 have ask:∃κ,2<=aI.length->∀h' :Heap,(∀b o,s.heap.get? b=some o->h'.get? b=some o)->TS.mT X.prog X.w X.A.in1.in1 {s with heap:=h'} κ (ltV s.heap) (pairsOf aI)/\
   ∀Q' E',Q' κ {s with heap:=h'}->wpAny (model X.prog X.w) X.A.in1.in1 (keyKind' aI.toArray) Q' E' {s with heap:=h'}:=by
  by_cases h2:2<=aI.length
  ·obtain⟨κ,hk⟩:=tS (prog:=X.prog) (w:=X.w) (A:=X.A.in1.in1) u2 U vl h2;exact⟨κ,λ_=>hk⟩
  ·exact⟨general',λz=>absurd z h2⟩
 obtain⟨κ,ask⟩:=ask;refine TS.LG (κ:=κ) (EW s.heap) pl.isList (by lia) ask λout p1 p2=>?_;obtain⟨ts,t1,t2,t3,t4⟩:=VF l rv vl;rw[<-t3]at p1;obtain⟨ts',p3,p4⟩:=lN (·.u) p1 ts rfl;have h4:∀t∈ts',Is X.K μ H t.d t.v/\RelV t.v t.u/\Vl s.heap t.d t.u:=λt ht=>t4 t (p3.mem_iff.mp ht);have pd:(ts'.map (·.d)).Perm es:=by rw[<-t1];exact p3.map _
 have pw:(ts'.map (·.d)).Pairwise (λd e=>lx (enc e) (enc d)=false):=by
  rw[<-p4]at p2;rw[List.pairwise_map]at p2⊢;refine p2.imp_of_mem λ{t t'} m m' hh=>?_;have e1:dv s.heap t.u=t.d:=nQ (h4 t m).2.2;have e2:dv s.heap t'.u=t'.d:=nQ (h4 t' m').2.2;unfold ltV at hh;rw[e1,e2]at hh;exact hh
 obtain⟨ep,he⟩:=sortedAll_at s.heap aI out.toArray
 have ln:(ts'.map (·.v)).length<=sizeLine:=by
  have:=p3.length_eq;have t2' :=aHk List.length t2;simp at t2' ⊢
  lia
 have I1:Inv X pins σ (upd H (s.heap.objs.size+1) (.lst (ts'.map (·.v)))) {s with heap:=sortedAll s.heap aI out.toArray}:=
  I.laid (t' :=s.toks) (λb o hb=>sortedAll_old hb) (aK8 _) ⟨ln,out,ep,by rw[<-p4];exact tI λt ht=>(h4 t ht).2.1,he⟩
 exact⟨.ref (s.heap.objs.size+1),_,I1,rfl,iH RR F (zT λt ht=>(h4 t ht).1) (q _ pd pw) _ (I.bZ.fresh (aK8 _))⟩
end
theorem b8{g:WG}{b:WS}{E:eO}{St:MH->Prop}(Pv:Nat->d7->MH->Prop)(ds:List D)(hst:∀i ρ mh,Pv i ρ mh->St mh)
  (hs:∀i d ρ mh (N:d7->MH->Prop),ds[i]? =some d->Pv i ρ mh->(∀ρ' mh',Pv (i+1) ρ' mh' ->N ρ' mh')->g d ρ λρ2=>b {E with nx:=N,ct:=N,bk:=E.nx} ρ2 mh)
  (hd:∀ρ mh,Pv ds.length ρ mh->E.nx ρ mh) {ρ:d7} {mh:MH} (h0:Pv 0 ρ mh):kH g b E St ds ρ mh:=by
 have go:∀(k i:Nat),i+k=ds.length->∀ρ mh,Pv i ρ mh->kH g b E St (ds.drop i) ρ mh:=by
  intro k
  induction k with
  | zero=>
   intro i hi ρ mh p;have:i=ds.length:=by lia
   subst this;rw[List.drop_of_length_le (Nat.le_refl _)];exact⟨hst _ _ _ p,hd ρ mh p⟩
  | succ k ih=>
   intro i hi ρ mh p;have hlt:i<ds.length:=by lia
   rw[List.drop_eq_getElem_cons hlt];exact⟨hst _ _ _ p,hs i ds[i] ρ mh _ (by simp[hlt]) p λρ' mh' p' =>ih (i+1) (by lia) ρ' mh' p'⟩
 have:=go ds.length 0 (by simp) ρ mh h0;simpa using this
theorem OW{g:WG}{t:WT}{w:WE}{ρe:d7}{St:MH->Prop}{Q:DK}(Pv:Nat->List D->MH->Prop)(ds:List D)(hst:∀i ys mh,Pv i ys mh->St mh)
  (hs:∀i d ys mh (N:List D->MH->Prop),ds[i]? =some d->Pv i ys mh->(∀ys' mh',Pv (i+1) ys' mh' ->N ys' mh')->g d ρe λρ2=>t ρ2 mh λb mh3=>if b=true then w ρ2 mh3 λy mh4=>N (ys++[y]) mh4 else N ys mh3)
  (hd:∀ys mh,Pv ds.length ys mh->Q (.ref mh.length) (mh++[.lst ys])) {mh:MH} (h0:Pv 0 [] mh):i7 g t w ρe St Q ds [] mh:=by
 have go:∀(k i:Nat),i+k=ds.length->∀ys mh,Pv i ys mh->i7 g t w ρe St Q (ds.drop i) ys mh:=by
  intro k
  induction k with
  | zero=>
   intro i hi ys mh p;have:i=ds.length:=by lia
   subst this;rw[List.drop_of_length_le (Nat.le_refl _)];exact⟨hst _ _ _ p,hd ys mh p⟩
  | succ k ih=>
   intro i hi ys mh p;have hlt:i<ds.length:=by lia
   rw[List.drop_eq_getElem_cons hlt];exact⟨hst _ _ _ p,hs i ds[i] ys mh (λys' mh' =>i7 g t w ρe St Q (ds.drop (i+1)) ys' mh') (by simp[hlt]) p λys' mh' p' =>ih (i+1) (by lia) ys' mh' p'⟩
 have:=go ds.length 0 (by simp) [] mh h0;simpa using this
theorem sL{lo:Int}{n i:Nat}{d:D}(h:(uC lo n)[i]? =some d):i<n/\d= .int (lo+i):=by
 simp only[uC,List.getElem?_map]at h;obtain⟨k,hk,rfl⟩:=aHb.mp h;obtain⟨hi,rfl⟩:=aGc.mp hk;simp at hi;exact⟨hi,by simp⟩
@[simp] theorem aDa (lo:Int)(n:Nat):(uC lo n).length=n:=by simp[uC]
def yM(mh:MH)(b:Nat):Prop:=∃c m:Int,mh[b]? =some (.lst [.int c,.int m])/\0<=c/\0<=m/\m<2147483629
theorem yM.lt{mh:MH}{b:Nat}(h:yM mh b):b<mh.length:=let ⟨_,_,e,_⟩:=h;(aGc.mp e).1
def cO(mh:MH)(b:Nat)(mh' :MH):Prop:=yM mh' b/\∃o,mh' =mh.set b o
theorem cO.len{mh mh' :MH}{b:Nat}(h:cO mh b mh'):mh'.length=mh.length:=by obtain⟨_,o,rfl⟩:=h;simp
theorem cO.trans{mh mh1 mh2:MH}{b:Nat}(h:cO mh b mh1)(h' :cO mh1 b mh2):cO mh b mh2:=by
 obtain⟨_,o,rfl⟩:=h;obtain⟨b2,o2,rfl⟩:=h';exact⟨b2,o2,by simp⟩
theorem cO.refl{mh:MH}{b:Nat}(h:yM mh b):cO mh b mh:=by
 refine⟨h,mh[b]'h.lt,?_⟩;simp
theorem cO.other{mh mh' :MH}{b n:Nat}(h:cO mh b mh')(hn:n≠b):mh'[n]? =mh[n]? :=by
 obtain⟨_,o,rfl⟩:=h;exact List.getElem?_set_ne (aHh hn)
theorem yM.zC{mh:MH}{b:Nat}(h:yM mh b)(k:Nat):∀o,mh[b]? =some o->zC k o=true:=by
 obtain⟨c,m,e,_⟩:=h;intro o ho;rw[e]at ho;cases ho;rfl
theorem cO.mok{mh mh' :MH}{b:Nat}(h:cO mh b mh')(ok:kM mh):kM mh' :=by
 have hb:=h.1;obtain⟨_,o,e⟩:=h;intro x hx;have hl:mh'.length=mh.length:=by rw[e];simp
 obtain⟨n,hn⟩:=aGt.mp hx;by_cases hnb:n=b
 ·subst hnb;exact hb.zC _ x hn
 ·rw[e,List.getElem?_set_ne (Ne.symm hnb)]at hn;rw[hl];exact ok x (aGo hn)
def lL:OA:=λds mh Q=>∃b many,ds=[.ref b,.int many]/\1<=many/\many<=1073741789/\yM mh b/\∀r mh',0<=r->r<many->cO mh b mh' ->Q (.int r) mh'
def IC:OA:=λds mh Q=>∃(ns:List Int) (a:Int),ds=[.fl (ns.map .int),.int a]/\ns.length<=63/\0<=a/\a<=100/\∀mh',(∃o,mh' =mh++[o])->yM mh' mh.length->Q (.ref mh.length) mh'
def fX(K:aKd)(x:Str)(st:Stmt):Prop:=∃f oc od kV doc pm an cd ct sl,PySem.W.nsIn K mainGlobals x=some (some (.ref f))/\
 K.lookup f=some ⟨oc,od,.func (PySem.W.fnOf x x (cM st) (bU st) (aC st) .none kV doc pm an cd ct),sl⟩/\PySem.W.codeIn K cd x=true/\PySem.W.keepIn K (.ref f)=true
theorem aDo{K:aKd}{x:Str}{st:Stmt}{f:Addr}{oc:Value}{od an:Option Addr}{sl:Array (Option Value)}{kV doc pm cd ct:Value}(a:PySem.W.nsIn K mainGlobals x=some (some (.ref f)))
  (l:K.lookup f=some ⟨oc,od,.func (PySem.W.fnOf x x (cM st) (bU st) (aC st) .none kV doc pm an cd ct),sl⟩) (c:PySem.W.codeIn K cd x=true) (k:PySem.W.keepIn K (.ref f)=true):fX K x st:=⟨f,oc,od,kV,doc,pm,an,cd,ct,sl,a,l,c,k⟩
def cI(x:Str)(st:Stmt)(ps:List Str):Prop:=∀(kV doc pm:Value) (an:Option Addr) (cdv ct:Value) (us:List Value),us.length=ps.length->bindArgs (PySem.W.fnOf x x (cM st) (bU st) (aC st) .none kV doc pm an cdv ct) ⟨us,[]⟩=pure (ps.zip us)
section
variable {P:Program}{w:World}{K:aKd}{mg:aKg}{base:Heap}{h:Heap}
theorem Y2{x:Str}{st:Stmt}{N ps:List Str}{k:Nat}{s:OA}{wB:WS}(Dx:fX K x st)(KX:K.In h)(G:h.Ns mainGlobals mg)(bd:cI x st ps)(S:aU N ps (aC st))(len:∀ds mh R,s ds mh R->ds.length=ps.length)
  (hb:∀(f:Addr) (cdv:Value) (A:Around) (outer:List Env) (s:Shared) (H:Hp) (E:XK),fR k (A.deeper (envOfC x (aC st) s.heap.objs.size f cdv))->
   mC (u7 AY P w K mg base N x (aC st) f cdv A outer s H E).PB (bU st) wB)
  (hw:∀ds mh R,kM mh->cL mh.length ds=true->s ds mh R->wB {nx:=λ_ mh1=>Out mh.length .b6 mh1 R,rt:=λd mh1=>Out mh.length d mh1 R} (aJ N ds) mh):Fn P w K mg base (k+1) x ps s:=by
 obtain⟨f,oc,od,kV,doc,pm,an,cd,ct,sl,a,l,c,kp⟩:=Dx;have F:=FF (st:=st) l c kp;exact⟨f,_,aCr F S len (λcdv A outer s H E hr=>hb f cdv A outer s H E hr) hw,aJp KX G a,kp,F.binds bd⟩
theorem OH{x:Str}{st:Stmt}{ps:List Str}{k:Nat}(Dx:fX K x st)(KX:K.In h)(G:h.Ns mainGlobals mg)(bd:cI x st ps):Fn P w K mg base k x ps (λ_ _ _=>False):=by
 obtain⟨f,oc,od,kV,doc,pm,an,cd,ct,sl,a,l,c,kp⟩:=Dx;have F:=FF (st:=st) l c kp;refine⟨f,_,⟨λvs H Q E q=>?_,λA outer s H args us vs Q E _ _ _ _ q=>?_⟩,aJp KX G a,kp,F.binds bd⟩
 ·obtain⟨_,_,_,_,_,_,q,_⟩:=q;exact q.elim
 ·obtain⟨_,_,_,_,_,_,q,_⟩:=q;exact q.elim
end
def vS:OA:=λds mh Q=>∃ns:List Int,ds=[.fl (ns.map .int)]/\ns.length<=63/\∀mh',Q (.bl true) mh'
theorem CK{K:aKd}{μ:List Addr}{H:Hp}:∀ns:List Int,IsL K μ H (ns.map .int) (ns.map .int)
 | []=>by simp[IsL]
 | n::ns=>by simp only[List.map_cons];unfold IsL;exact⟨_,_,rfl,.int,CK ns⟩
theorem X7{K:aKd}{H:Hp}{a:Addr}{ns:List Int}(hl:ns.length<=63)(hO:TQ H)(hS:oH K H a (ns.map V.int)):LD K vS [.ref a] H (λv _=>v= .bl true) λ_ _ _=>False:=by
 have sf:PJ K H a (ns.map V.int):=by
  rcases hS with (hS | hS) | hS
  ·rcases hO a with z | ⟨o,xs,z⟩
   ·rw[hS]at z;cases z
   ·rw[hS]at z;cases z
  ·exact .inl hS
  ·exact .inr hS
 refine⟨[],[],[.fl (ns.map .int)],λd _=>d= .bl true,⟨rfl,List.nodup_nil,λn a o h1=>by simp at h1⟩,?_,⟨ns,rfl,hl,λ_=>rfl⟩,λd mh' q μ' v H' _ _ I=>?_⟩
 ·refine jN ?_;unfold Is;exact⟨a,_,rfl,sf,CK ns⟩
 ·subst q;exact NS I
theorem walkD{l:PySem.W.OpenLaw}{k:Nat}{q:Program}{loose:List Str}{XP:(aKg)->Heap->Prop}{YP:World->Heap->Prop}{d:DefRec}{K:Params->aKd}{x:Str}(hn:l.most=some 63)(hdf:d.params.defaults=[])(hr:fR k callerA)
  (hY:∀(w:World) (h:Heap),YP w h->(K w.params).In h)
  (F:∀(w:World) (mg:aKg) (fa:Addr) (h:Heap),(K w.params).In h->h.Ns mainGlobals mg->mg d.name=some (.ref fa)->
   ∃fd:FuncData,(∀(s:Shared) (u:Value),BindsTo s fd ⟨[u],[]⟩ [(x,u)])/\∀base:Heap,(K w.params).In base->base.Ns mainGlobals mg->iU l.prog w (K w.params) mg base AY k fa fd [x] (LD (K w.params) vS)):
  PySem.W.WalkO q loose XP YP l.row.toRowW d [] (λf vs=>PySem.call f vs):=
 L2.PX (n:=63) (k:=k) (x:=x) (CX:=λ_=>AY) (sp:=λw=>LD (K w.params) vS) hn (by decide) hdf hr hY F (λ_ _ a ns hl hO hS=>X7 hl hO hS) λ_ _ _ _ _ z=>z
theorem X9{P:Program}{w:World}{K:aKd}{mg:aKg}{h:Heap}{st:Stmt}{x:Str}{N:List Str}{k:Nat}{fa:Addr}(KX:K.In h)(G:h.Ns mainGlobals mg)(hfa:mg "law"=some (.ref fa))(Dx:fX K "law" st)(S:aU N [x] (aC st))(bd:cI "law" st [x])
  (hb:∀base:Heap,∃wB:WS,(∀(f:Addr) (cdv:Value) (A:Around) (outer:List Env) (s:Shared) (H:Hp) (E:XK),fR k (A.deeper (envOfC "law" (aC st) s.heap.objs.size f cdv))->
   mC (u7 AY P w K mg base N "law" (aC st) f cdv A outer s H E).PB (bU st) wB)/\
   ∀ds mh R,kM mh->cL mh.length ds=true->vS ds mh R->wB {nx:=λ_ mh1=>Out mh.length .b6 mh1 R,rt:=λd mh1=>Out mh.length d mh1 R} (aJ N ds) mh):
  ∃fd:FuncData,(∀(s:Shared) (u:Value),BindsTo s fd ⟨[u],[]⟩ [(x,u)])/\∀base:Heap,iU P w K mg base AY (k+1) fa fd [x] (LD K vS):=by
 obtain⟨f,oc,od,kV,doc,pm,an,cd,ct,sl,a,l,c,kp⟩:=Dx;have e:=hfa.symm.trans (aJp KX G a);cases e;have F:=FF (st:=st) l c kp;refine⟨_,λs u=>.of_eq (bd kV doc pm an cd ct [u] rfl),λbase=>?_⟩;obtain⟨wB,h1,h2⟩:=hb base;exact aCr F S (λds mh R hs=>by obtain⟨ns,rfl,_⟩:=hs;rfl) (λcdv A outer s H E hr=>h1 fa cdv A outer s H E hr) h2
theorem bl_mk{K:aKd}{h:Heap}{mg:aKg}(KX:K.In h)(G:h.Ns mainGlobals mg)
  (z1:PySem.W.nsIn K mainGlobals "len"=some none) (z2:PySem.W.nsIn K mainGlobals "range"=some none) (z3:PySem.W.nsIn K mainGlobals "zip"=some none) (z4:PySem.W.nsIn K mainGlobals "all"=some none) (z5:PySem.W.nsIn K mainGlobals "any"=some none) (z6:PySem.W.nsIn K mainGlobals "abs"=some none) (z7:PySem.W.nsIn K mainGlobals "min"=some none) (z8:PySem.W.nsIn K mainGlobals "max"=some none) (z9:PySem.W.nsIn K mainGlobals "isinstance"=some none) (z10:PySem.W.nsIn K mainGlobals "sorted"=some none) (z11:PySem.W.nsIn K mainGlobals "int"=some none) (z12:PySem.W.nsIn K mainGlobals "str"=some none) (z13:PySem.W.nsIn K mainGlobals "bool"=some none) (z14:PySem.W.nsIn K mainGlobals "list"=some none) (z15:PySem.W.nsIn K mainGlobals "tuple"=some none) (z16:PySem.W.nsIn K mainGlobals "set"=some none) (z17:PySem.W.nsIn K mainGlobals "dict"=some none) (z18:PySem.W.nsIn K mainGlobals "sum"=some none) (z19:PySem.W.nsIn K mainGlobals "enumerate"=some none):Bl mg:=
 ⟨aH0 KX G z1,aH0 KX G z2,aH0 KX G z3,aH0 KX G z4,aH0 KX G z5,aH0 KX G z6,aH0 KX G z7,aH0 KX G z8,aH0 KX G z9,aH0 KX G z10,aH0 KX G z11,aH0 KX G z12,aH0 KX G z13,aH0 KX G z14,aH0 KX G z15,aH0 KX G z16,aH0 KX G z17,aH0 KX G z18,aH0 KX G z19⟩
theorem E8{M:Model}{A:Around}{E:aKe}{s:Shared}{a b:Value}{Q:aKe}(ha:s.TypeIs a "list")(hb:s.TypeIs b "list")(hc:wpAny M A (call (.builtin "list.__iadd__") [a,b]) Q E s):wpAny M A (inplaceOp .Add a b) Q E s:=by
 refine aH7 (aGb (aI7 ha (aGb (aIv (show fillsInplaceSlot (.type "list") "add" true=pure false from rfl) ?_))));show wpAny M A (if false=true then _ else _) Q E s;rw[if_neg Bool.false_ne_true];exact aGb (wpAny_binaryOp1_none ha hb rfl (aGb (aIv (show seqSlot? (Value.type "list") (dunderI "add")=pure (some (Value.builtin "list.__iadd__")) from rfl) (aGb (aHg hc)))))
section
variable {X:Cx}
theorem NV:d8 X (inplaceOp .Add) (λx y H Q=>∃l b xs zs,x= .ref l/\y= .ref b/\H l=some (.lst xs)/\H b=some (.lst zs)/\xs.length+zs.length<=sizeLine/\Q (.ref l) (upd H l (.lst (xs++zs)))):=by
 intro pins s σ H x y v u Q I rx ry h;obtain⟨l,b,xs,zs,rfl,rfl,hH,hB,hz,q⟩:=h;cases rx;cases ry;obtain⟨z,aI,n,r,hl,e⟩:=I.zL hH;obtain⟨z2,its2,n2,r2,hl2,e2⟩:=I.zL hB;have hsz:aI.toArray.size+its2.toArray.size<=sizeLine:=by rw[List.size_toArray,List.size_toArray];lia
 have hlong:¬(!aI.toArray.isEmpty && Builtin.List.listTooLong (aI.toArray.size+its2.toArray.size))=true:=by
  rw[pI hsz,Bool.and_false];exact aJ7
 refine E8 ⟨_,e,rfl⟩ ⟨_,e2,rfl⟩ (call_meets F.slot_list_iadd ⟨_,e,rfl⟩ F.entry_list_iadd (F.args_list_iadd_2 _ _)
  (AutoSeq1.list___iadd___list_list_0 l aI.toArray n b its2.toArray n2 hlong (by rw[List.size_toArray];lia) (by lia)) ⟨e,e2,?_⟩)
 refine⟨.ref l,_,I.M8 (its' :=aI++its2) hH e (by simp) (r.append r2) ?_,rfl,q⟩;rw[List.length_append]
 lia
def UH:O2:=λx y mh Q=>match x with
 | .int i=>match y with | .int j=>Q (.int (i+j)) mh | _=>False
 | .str i=>match y with | .str j=>i.length+j.length<=sizeLine/\Q (.str (i++j)) mh | _=>False
 | .ref n=>match y with | .ref m=>∃es fs,mh[n]? =some (.lst es)/\mh[m]? =some (.lst fs)/\es.length+fs.length<=sizeLine/\Q (.ref n) (mh.set n (.lst (es++fs))) | _=>False
 | _=>False
theorem RG:d8 X (inplaceOp .Add) (bP X.K UH):=by
 intro pins s σ H x y v u Q I rx ry q;obtain⟨μ,mh,dx,dy,R,RR,ix,iy,q,F⟩:=q
 cases dx with
 | int i=>
  cases dy with
  | int j=>cases bO ix;cases bO iy;exact SR pins s σ H _ _ v u Q I rx ry ⟨i,j,rfl,rfl,F.here RR q .int⟩
  | _=>exact False.elim q
 | str i=>
  cases dy with
  | str j=>cases eU ix;cases eU iy;exact CM pins s σ H _ _ v u Q I rx ry ⟨i,j,rfl,rfl,q.1,F.here RR q.2 .str⟩
  | _=>exact False.elim q
 | ref n=>
  cases dy with
  | ref m=>
   obtain⟨es,fs,e1,e2,hz,q⟩:=q;obtain⟨a,vs,rfl,hn,hv,l⟩:=fT RR ix e1;obtain⟨b,ws,rfl,hm,hw,l2⟩:=fT RR iy e2;exact NV pins s σ H _ _ v u Q I rx ry ⟨a,b,vs,ws,rfl,rfl,hv,hw,by rw[aK l,aK l2];exact hz,F.put RR hn (eJ l l2) q ix⟩
  | _=>exact False.elim q
 | _=>exact False.elim q
def aAj(i:Nat)(w:WE)(f:O2):WS:=λE ρ mh=>∃x,ρ[i]? =some (some x)/\w ρ mh λy mh1=>f x y mh1 λz mh2=>E.nx (ρ.set i (some z)) mh2
theorem XT(i:Nat){x:Str}{e:Expr}{w:WE}{op:Operator}{f:O2}{pos pos' :Pos}(hN:X.N.Nodup)(ho:d8 X (inplaceOp op) (bP X.K f))(he:LE X e w)(hi:X.N[i]? =some x:=by rfl)(hx:Loc X.env.scope x:=by first | exact Or.inl rfl | exact Or.inr rfl)(hf:X.fn x=true\/X.env.scope.names.lookup x=some .local:=by first | exact .inl rfl | exact .inr rfl | assumption):
  LS X (.AugAssign (.Name x pos') op e pos) (aAj i w f):=PS.imp (V3 hN hi hx he ho hf) λD σ H h=>by
 obtain⟨μ,ρ,mh,E,R,En,⟨x,hx,h⟩,F⟩:=h;obtain⟨v,hv,iv⟩:=En.2 i x hx;refine⟨v,hv,μ,ρ,mh,_,R,En,h,λd mh1 q μ1 u H1 P1 R1 I1=>?_⟩;exact⟨μ1,mh1,x,d,_,R1,Is.mono R P1 x v iv,I1,q,λz mh2 q2 μ2 vz H2 P2 R2 I2=>F.nx _ mh2 q2 μ2 _ H2 (P1.trans P2) R2 ((En.mono R (P1.trans P2)).set i I2)⟩
end
theorem pN{a b:Key}(h:bC a=bC b):a=b:=by
 cases a <;> cases b <;> simp[bC]at h <;> rw[h]
open Classical in
noncomputable def putD(kvs:List (D×D))(k v:D):List (D×D):=if ∃p∈kvs,p.1=k then kvs.map (λp=>if p.1=k then (p.1,v) else p) else kvs++[(k,v)]
theorem BN{kvs:List (D×D)}{k v:D}{p:D×D}(h:p∈putD kvs k v):p∈kvs\/(p.1=k/\p.2=v):=by
 unfold putD at h;split at h
 ·obtain⟨q,hq,e⟩:=aGm.mp h;split at e
  ·rename_i hk;subst e;exact .inr ⟨hk,rfl⟩
  ·subst e;exact .inl hq
 ·rcases aGh.mp h with h | h
  ·exact .inl h
  ·simp at h;subst h;exact .inr ⟨rfl,rfl⟩
open Classical in
theorem IE(kvs:List (D×D))(k v:D):(putD kvs k v).map (·.1)=if (∃p∈kvs,p.1=k) then kvs.map (·.1) else kvs.map (·.1)++[k]:=by
 unfold putD;split
 ·rw[List.map_map];apply aJy;intro p _;simp only[Function.comp];split <;> rfl
 ·simp
section
variable {K:aKd}{μ:List Addr}{H:Hp}{κ:Type}[DecidableEq κ]{f:κ->D}
theorem BJ(hf:∀{a b},f a=f b->a=b)(k:κ){d:D}{v:V}(hd:Is K μ H d v):∀(kvs:List (D×D)) (kk:List (κ×V)),kvs.map (·.1)=kk.map (λp=>f p.1)->IsL K μ H (kvs.map (·.2)) (kk.map (·.2))->
  IsL K μ H ((open Classical in kvs.map λp=>if p.1=f k then (p.1,d) else p).map (·.2)) ((kk.map λp=>if p.1=k then (p.1,v) else p).map (·.2))
 | [],[],_,_=>by simp[IsL]
 | [],_::_,h,_=>by simp at h
 | _::_,[],h,_=>by simp at h
 | p::kvs,q::kk,h,l=>by
  simp only[List.map_cons,List.cons.injEq]at h;simp only[List.map_cons]at l⊢;unfold IsL at l⊢;obtain⟨w,r,e,i,l⟩:=l;simp only[List.cons.injEq]at e;obtain⟨rfl,rfl⟩:=e;have ih:=BJ hf k hd kvs kk h.2 l;by_cases hk:q.1=k
  ·have:p.1=f k:=by rw[h.1,hk]
   simp only[if_pos hk,if_pos this];exact⟨_,_,rfl,hd,ih⟩
  ·have:¬p.1=f k:=λz=>hk (hf (h.1.symm.trans z));simp only[if_neg hk,if_neg this];exact⟨_,_,rfl,i,ih⟩
theorem GN(hf:∀{a b},f a=f b->a=b)(k:κ){d:D}{v:V}(hd:Is K μ H d v){kvs:List (D×D)}{kk:List (κ×V)}(h:kvs.map (·.1)=kk.map (λp=>f p.1))(l:IsL K μ H (kvs.map (·.2)) (kk.map (·.2))):
  (putD kvs (f k) d).map (·.1)=(putK kk k v).map (λp=>f p.1)/\IsL K μ H ((putD kvs (f k) d).map (·.2)) ((putK kk k v).map (·.2)):=by
 have same:(∃p∈kvs,p.1=f k)↔(kk.any λkv=>decide (kv.1=k))=true:=by
  rw[List.any_eq_true];constructor
  ·rintro⟨p,hp,e⟩;have:f k∈kk.map (λp=>f p.1):=by rw[<-h,<-e];exact aGm.mpr ⟨p,hp,rfl⟩
   obtain⟨q,hq,e2⟩:=aGm.mp this;exact⟨q,hq,by simpa using hf e2⟩
  ·rintro⟨q,hq,e⟩;have:f q.1∈kvs.map (·.1):=by rw[h];exact aGm.mpr ⟨q,hq,rfl⟩
   obtain⟨p,hp,e2⟩:=aGm.mp this;exact⟨p,hp,by rw[e2];simp at e;rw[e]⟩
 unfold putD putK;by_cases c:∃p∈kvs,p.1=f k
 ·rw[if_pos c,if_pos (same.mp c)];refine⟨?_,BJ hf k hd kvs kk h l⟩
  have e1:(open Classical in kvs.map λp=>if p.1=f k then (p.1,d) else p).map (·.1)=kvs.map (·.1):=by
   rw[List.map_map];apply aJy;intro p _;simp only[Function.comp];split <;> rfl
  have e2:(kk.map λp=>if p.1=k then (p.1,v) else p).map (λp=>f p.1)=kk.map (λp=>f p.1):=by
   rw[List.map_map];apply aJy;intro p _;simp only[Function.comp];split <;> rfl
  rw[e1,e2,h]
 ·rw[if_neg c,if_neg (λz=>c (same.mpr z))];refine⟨by simp[h],?_⟩;simp only[List.map_append,List.map_cons,List.map_nil];exact eJ l (jN hd)
end
theorem AE{K:aKd}{μ:List Addr}{mh:MH}{H:Hp}{n:Nat}{a:Addr}{o:MO}{ob:HO}(R:Rep K μ mh H)(h:μ[n]? =some a)(hm:KO (some ob))(l:nU K μ (upd H a ob) o a):Rep K μ (mh.set n o) (upd H a ob):=by
 have P:aN μ H μ (upd H a ob):=aN.set R h;refine⟨by simp[R.len],R.nd,λm b ob' h1 h2=>?_⟩;by_cases hmn:m=n
 ·subst hmn;rw[h]at h1;cases h1;have hl:m<mh.length:=by rw[<-R.len];exact(aGc.mp h).1
  rw[List.getElem?_set_self hl]at h2;cases h2;exact l
 ·rw[List.getElem?_set_ne (Ne.symm hmn)]at h2;exact(R.obj m b ob' h1 h2).mono R P (aP λz=>hmn (MV R.nd h1 (by rw[z];exact h)))
theorem Rep.aFe{K:aKd}{μ:List Addr}{mh:MH}{H:Hp}{q:Addr}{o:MO}{ob:HO}(R:Rep K μ mh H)(hq:H q=none)(l:nU K (μ++[q]) (upd H q ob) o q):Rep K (μ++[q]) (mh++[o]) (upd H q ob):=by
 have R1:Rep K μ mh (upd H q ob):=R.new hq;exact R1.TL (λz=>R.ne hq z rfl) l
def K6(t:Bool):WE:=λ_ mh Q=>Q (.ref mh.length) (mh++[.dic t []])
section
variable {X:Cx}{pos:Pos}
theorem SH:LE X (.Dict [] [] pos) (K6 false):=PE.imp MI λσ H Q h=>by
 obtain⟨μ,ρ,mh,R,RR,E,h,F⟩:=h;intro p hp;exact F _ _ h (μ++[p]) _ _ (aN.MU RR hp) (RR.aFe hp ⟨[],⟨[],bK,rfl,rfl⟩,by simp[IsL]⟩) (by unfold Is;exact⟨p,by rw[<-RR.len];simp,rfl⟩)
end
theorem mM{K:aKd}{μ:List Addr}{H:Hp}{k:Key}{v:V}(h:Is K μ H (bC k) v):v=kV k:=by
 cases k <;> (simp only[bC]at h;unfold Is at h;exact h)
theorem xS{K:aKd}{μ:List Addr}{H:Hp}:∀{ks:List Key} {vs:List V},IsL K μ H (ks.map bC) vs->vs=ks.map kV
 | [],vs,h=>by simp only[List.map_nil]at h;unfold IsL at h;exact h
 | k::ks,vs,h=>by
  simp only[List.map_cons]at h;unfold IsL at h;obtain⟨v,r,rfl,i,l⟩:=h;rw[mM i,xS l];rfl
theorem oD{K:aKd}{μ:List Addr}{mh:MH}{H:Hp}{n:Nat}{v:V}{t:Bool}{kvs:List (D×D)}(R:Rep K μ mh H)(h:Is K μ H (.ref n) v)(e:mh[n]? =some (.dic t kvs)):∃a vs,v= .ref a/\μ[n]? =some a/\HS (H a) (kvs.map (·.1)) vs t/\IsL K μ H (kvs.map (·.2)) vs:=by
 obtain⟨a,q,rfl⟩:=n9 h;obtain⟨vs,hv,l⟩:=R.obj n a _ q e;exact⟨a,vs,rfl,q,hv,l⟩
def UE(o k d:D)(mh:MH)(Q:MH->Prop):Prop:=∃n kvs key,o= .ref n/\mh[n]? =some (.dic false kvs)/\k=bC key/\kvs.length<sizeLine/\Q (mh.set n (.dic false (putD kvs k d)))
def K4(w wo wi:WE):WS:=λE ρ mh=>w ρ mh λd mh1=>wo ρ mh1 λo mh2=>wi ρ mh2 λi mh3=>UE o i d mh3 λmh4=>E.nx ρ mh4
section
variable {X:Cx}{pos pos' tpos:Pos}{o i e:Expr}{es:List Expr}{w wo wi:WE}{wa:WA}
theorem RV(hu:X.A.units+64<cLine)(he:LE X e w)(ho:LE X o wo)(hi:LE X i wi)(hs:swapsWith e (some (.Subscript o i pos')) pos.line X.env=pure false:=by rfl):LS X (.Assign [.Subscript o i pos'] e pos) (K4 w wo wi):=
 PS.imp (QY (by lia) ho hi he hs) λD σ H h=>by
  obtain⟨μ,ρ,mh,E,R,En,h,F⟩:=h;refine⟨μ,ρ,mh,_,R,En,h,λd mh1 q μ1 v H1 P1 R1 I1=>?_⟩;refine⟨μ1,ρ,mh1,_,R1,En.mono R P1,q,λdo' mh2 q2 μ2 vo H2 P2 R2 I2=>?_⟩;refine⟨μ2,ρ,mh2,_,R2,En.mono R (P1.trans P2),q2,λdi mh3 q3 μ3 vi H3 P3 R3 I3=>?_⟩;obtain⟨n,kvs,key,rfl,e1,rfl,hz,q4⟩:=q3;obtain⟨a,vs,rfl,hn,⟨kk,hv,ek,rfl⟩,l⟩:=oD R3 (Is.mono R2 P3 _ _ I2) e1;cases mM I3;have Iv:=Is.mono R1 (P2.trans P3) d v I1;have P4:aN μ3 H3 μ3 (upd H3 a (.dK (putK kk key v))):=aN.set R3 hn;have ln:kk.length=kvs.length:=by have:=aHk List.length ek;simp at this;lia
  obtain⟨p1,p2⟩:=GN (f:=bC) pN key Iv ek l;have R4:Rep X.K μ3 (mh3.set n (.dic false (putD kvs (bC key) d))) (upd H3 a (.dK (putK kk key v))):=AE R3 hn (by trivial) ⟨_,⟨_,bK,p1,rfl⟩,p2.mono R3 P4⟩;have P04:=((P1.trans P2).trans P3).trans P4;exact⟨a,_,rfl,.k hv (by lia),F.nx ρ _ q4 μ3 σ _ P04 R4 (En.mono R P04)⟩
end
def hU(h:Heap)(d:Addr)(es:Array DictEntry)(ep:Nat):Prop:=∃o,h.get? d=some o/\o.ExactDict/\o.data= .dict es ep
theorem hU.keep{h h' :Heap}{d:Addr}{es:Array DictEntry}{ep:Nat}(x:hU h d es ep)(k:∀o,h.get? d=some o->h'.get? d=some o):hU h' d es ep:=let ⟨o,a,b,c⟩:=x;⟨o,k o a,b,c⟩
section
variable {prog:Program}{w:World}{A:Around}{E:aKe}{s:Shared}{it d:Addr}{i ep:Nat}{es:Array DictEntry}
theorem L1{e:DictEntry}{Q:Option Value->Shared->Prop}(hit:Heap.IsKeyIter s.heap it d i es.size ep)(hm:hU s.heap d es ep)(hx:es[i]? =some e)
  (q:∀h',Heap.IsKeyIter h' it d (i+1) es.size ep->Heap.SameBut it s.heap h' ->Q (some e.key) {s with heap:=h'}):wpAny (model prog w) A (pyNext (.ref it)) Q E s:=by
 obtain⟨o,ho,hc,hd⟩:=id hit;obtain⟨od,hod,hcd,hdd⟩:=id hm;have ht:=hit.typeIs;refine aGb (aHy (aH2 ht aHs (aGw aHs ht F.entry_dict_keyiterator_next ?_ (F.args_dict_keyiterator_next_1 _))));refine aGb (aGd ?_);refine aGb (aGb (aGb (aI4 ht (aGd ?_))));refine aGb (aIx ho hd ?_);show wpAny _ _ (if (Value.ref d==Value.none)=true then _ else _) _ _ _;rw[if_neg (show ¬((Value.ref d==Value.none)=true) from Bool.false_ne_true)];refine aGb (aGd ?_);refine aGb (wpAny_dictEntries hod hdd ?_);rw[if_neg (show ¬(((es.size:Int) !=(es.size:Int))=true) by simp)];refine aGb (aGd ?_);refine aGb (wpAny_dictEpoch hod hdd ?_);rw[if_neg (show ¬(((ep:Int) !=(ep:Int))=true) by simp)];refine aGd ?_
 have e1:(if (i:Int)<0 then none else es[(i:Int).toNat]?)=some e:=by
  rw[if_neg (by lia)];simpa using hx
 show wpAny _ _ (match (if (i:Int)<0 then none else es[(i:Int).toNat]?) with | some e=>_ | none=>_) _ _ _;rw[e1];refine aGb (aGb (aI4 ht (aGd ?_)));refine aGb (wpAny_isOneOf_keyiter ht ?_);refine aGb (aK3 ho hd (by show 1<4;lia) ?_)
 have ho1:(s.heap.update it (Obj.mapFields λx=>x.setIfInBounds 1 (rawInt ((i:Int)+1)))).get? it=some (Obj.mapFields (λx=>x.setIfInBounds 1 (rawInt ((i:Int)+1))) o):=by
  refine aHf _ ho ?_;obtain⟨c,di,da,sl⟩:=o;simp only at hd hc;subst hd;rfl
 have hit1:Heap.IsKeyIter (s.heap.update it (Obj.mapFields λx=>x.setIfInBounds 1 (rawInt ((i:Int)+1)))) it d (i+1) es.size ep:=by
  refine⟨_,ho1,?_,?_⟩
  ·obtain⟨c,di,da,sl⟩:=o;simp only at hd hc;subst hd;exact hc
  ·obtain⟨c,di,da,sl⟩:=o;simp only at hd hc;subst hd;rfl
 refine aGb (aH7 (aGb (wpAny_isOneOf_keyiter (Heap.IsKeyIter.typeIs (s:={s with heap:=s.heap.update it (Obj.mapFields λx=>x.setIfInBounds 1 (rawInt ((i:Int)+1)))}) hit1) (aGd (aGd ⟨_,rfl,aGd (q _ hit1 (aHm _ _ _))⟩)))))
theorem QM{Q:Option Value->Shared->Prop}(hh:A.handled=none)(hit:Heap.IsKeyIter s.heap it d i es.size ep)(hm:hU s.heap d es ep)(hx:es[i]? =none)
  (q:∀h',Heap.ExtBut it s.heap h' ->Q none {s with heap:=h'}):wpAny (model prog w) A (pyNext (.ref it)) Q E s:=by
 obtain⟨o,ho,hc,hd⟩:=id hit;obtain⟨od,hod,hcd,hdd⟩:=id hm;have ht:=hit.typeIs;refine aGb (aHy (aH2 ht aHs (aGw aHs ht F.entry_dict_keyiterator_next ?_ (F.args_dict_keyiterator_next_1 _))));refine aGb (aGd ?_);refine aGb (aGb (aGb (aI4 ht (aGd ?_))));refine aGb (aIx ho hd ?_);show wpAny _ _ (if (Value.ref d==Value.none)=true then _ else _) _ _ _;rw[if_neg (show ¬((Value.ref d==Value.none)=true) from Bool.false_ne_true)];refine aGb (aGd ?_);refine aGb (wpAny_dictEntries hod hdd ?_);rw[if_neg (show ¬(((es.size:Int) !=(es.size:Int))=true) by simp)];refine aGb (aGd ?_);refine aGb (wpAny_dictEpoch hod hdd ?_);rw[if_neg (show ¬(((ep:Int) !=(ep:Int))=true) by simp)];refine aGd ?_
 have e1:(if (i:Int)<0 then none else es[(i:Int).toNat]?)=none:=by
  rw[if_neg (by lia)];simpa using hx
 show wpAny _ _ (match (if (i:Int)<0 then none else es[(i:Int).toNat]?) with | some e=>_ | none=>_) _ _ _;rw[e1];refine aGb (aGb (aI4 ht (aGd ?_)));refine aGb (aK3 ho hd (by show 0<4;lia) ?_);refine aGb (aGb (aH3 (aGb (aIv (show firstArgMember (Value.type "StopIteration") []=pure _ from rfl) (aH3 ?_)))));refine aGb (wpAny_handled ?_);rw[show A.in1.handled=none from hh];refine wpAny_throw (aGb (aJ0 (T:= "StopIteration") (b:=true) ⟨_,aGj _ rfl,rfl⟩ rfl (aGd (q _ ?_))));intro b u hb e;refine aGe _ (aGe _ ?_);rw[Heap.get?_update_ne _ _ _ _ hb];exact e
end
theorem hU.typeIs{s:Shared}{d:Addr}{es:Array DictEntry}{ep:Nat}(x:hU s.heap d es ep):s.TypeIs (.ref d) "dict":=let ⟨o,a,b,c⟩:=x;⟨o,a,b.1⟩
section
variable {prog:Program}{w:World}{A:Around}{E:aKe}{s:Shared}{d:Addr}{ep:Nat}{es:Array DictEntry}
theorem L0{Q:aKe}(hd:(d==sysModules)=false)(hm:hU s.heap d es ep)
  (q:Q (.ref s.heap.objs.size) {s with heap:=s.heap.push {cls:= .type "dict_keyiterator",data:= .fields #[.ref d,.int 0 0,.int es.size 0,.int ep 0]}}):wpAny (model prog w) A (pyIter (.ref d)) Q E s:=by
 obtain⟨o,ho,hc,hdd⟩:=id hm;refine aIu hm.typeIs F.slot_dict_iter (aGw F.slot_dict_iter hm.typeIs F.entry_dict_iter ?_ (F.args_dict_iter_1 _));refine aGb (aGb (wpAny_notOrdered_dict hm.typeIs (aGb (aGd (aGd ?_)))));refine aGb (aGd ?_);refine aGb (m:=Builtin.Dict.showsAll d) ?_;show wpAny _ _ (if (d==sysModules)=true then _ else _) _ _ _;rw[hd,if_neg Bool.false_ne_true];refine aGd (aGb (wpAny_dictEntries ho hdd (aGb (wpAny_dictEpoch ho hdd (aGb (aH3 (aGd ⟨_,rfl,"dict_keyiterator",_,⟨_,aGj _ rfl,rfl⟩,aHs.lookup,q⟩)))))))
theorem QL(hd:(d==sysModules)=false):W.KdlSrc prog w "dict" d d es.size (λi v=>∃e,es[i]? =some e/\v=e.key) λh=>hU h d es ep where
 type:=λs x=>x.typeIs
 there:=λh x=>let ⟨o,a,_⟩:=x;⟨aGl a,aGl a⟩
 keep:=λh h' x k=>x.keep λo=>k d (.inl rfl) o
 notList:=rfl
 notTuple:=rfl
 hint:=λA E s Q x q=>W.kdl_hint_dict x.typeIs q
 iter:=λA s hh x=>by
  refine⟨_,λi h=>Heap.IsKeyIter h s.heap.objs.size d i es.size ep/\hU h d es ep,λE Q q=>L0 hd x q,?_,?_⟩
  ·have hne:d≠s.heap.objs.size:=by obtain⟨o,a,_⟩:=x;exact aGu (aGl a)
   refine⟨λb hb=>by simp at hb;simp[hb],λi h h' st k=>⟨st.1.at λo=>k _ (by simp) o,st.2.keep λo=>k _ (by simp) o⟩,λi s1 Q E hi st q=>?_,λs1 Q E st q=>?_,λi s1 Q E st q=>wpAny_pyIter_keyiter st.1 q⟩
   ·have hx:es[i]? =some es[i]:=by simp[hi]
    refine L1 st.1 st.2 hx λh' a b=>q _ h' s1.toks ⟨_,hx,rfl⟩ ⟨a,st.2.keep λo e=>(b.2 d hne).trans e⟩ λc o hc e=>?_;simp at hc;exact(b.2 c hc).trans e
   ·refine QM hh st.1 st.2 (by simp) λh' a=>q h' s1.toks λc o hc e=>?_;simp at hc;exact a c o hc e
  ·refine⟨⟨_,aGj _ rfl,rfl,rfl⟩,x.keep λo e=>aGe _ e⟩
end
end D3
namespace TS
open PySem PySem.Spec PyProof.Rows L2
section
variable {prog:Program}{w:World}{A:Around}{E:aKe}{s:Shared}{lt:Value×Value->Value×Value->Bool}{r d:Addr}{n:Nat}{P:Nat->Value->Prop}{OK:Heap->Prop}{T:String}
theorem LH(O:Wk lt){Q:aKe}(src:W.KdlSrc prog w T r d n P OK)(hh:A.handled=none)(ok:OK s.heap)(h64:n<4000)
  (ck:∀vs:List Value,ItemsOf P vs.toArray n->∀(h1:Heap) (tk:Nat),(∀b o,s.heap.get? b=some o->h1.get? b=some o)->∃κ,2<=vs.length->∀h' :Heap,(∀b o,h1.get? b=some o->h'.get? b=some o)->
   mT prog w A.in1.in1 {s with heap:=h',toks:=tk} κ lt (pairsOf vs)/\∀Q' E',Q' κ {s with heap:=h',toks:=tk}->wpAny (model prog w) A.in1.in1 (keyKind' vs.toArray) Q' E' {s with heap:=h',toks:=tk})
  (h:∀vs:List Value,ItemsOf P vs.toArray n->∀out:List Value,out.Perm vs->out.Pairwise (λx y=>lt (y,y) (x,x)=false)->∀(h1 h2:Heap) (tk:Nat) (ep:Nat),(∀b o,s.heap.get? b=some o->h1.get? b=some o)->(∀b o,h1.get? b=some o->h2.get? b=some o)->
   h2.get? h1.objs.size=some (seqObj "list" out.toArray ep)->Q (.ref h1.objs.size) {s with heap:=h2,toks:=tk}):
  wpAny (model prog w) A (call (.builtin "sorted") [.ref r]) Q E s:=by
 have zl:sizeLine=16777216:=aH1;refine aJ1 kind_sorted plain_sorted entry_sorted (args_sorted1 _) ?_;unfold Builtin.«sorted»;refine aGb (m:=checkCount "sorted" 1 1 _) (aGd ?_);refine aGb (W.kdu_collect src hh ok (by lia) λh1 tk acc kept items=>?_);have hsz:acc.toList.length=n:=by have:=items.1;simpa using this
 obtain⟨κ,ck⟩:=ck acc.toList (by simpa using items) h1 tk kept;refine aGb (aK9 ?_ (by lia));have ob:(h1.push (seqObj "list" acc.toList.toArray 0)).get? h1.objs.size=some (seqObj "list" acc.toList.toArray 0):=aGj _ rfl;refine aGb (aH7 (aGw slot_list_sort ⟨_,ob,rfl⟩ entry_list_sort (D4 (κ:=κ) (s:={s with heap:=h1.push (seqObj "list" acc.toList.toArray 0),toks:=tk}) O ob (by lia) (λh2 h' k=>?_) λout p1 p2=>⟨_,rfl,aGd ⟨_,rfl,?_⟩⟩) (args_list_sort _)))
 ·obtain⟨c1,c2⟩:=ck h2 h' λb o e=>k b o (aGu (aGl e)) (aGe _ e);exact⟨c1,λQ' q=>c2 Q' _ q⟩
 ·obtain⟨ep,he⟩:=sortedHeap_at (out:=out.toArray) ob;refine h acc.toList (by simpa using items) out p1 p2 h1 _ tk ep kept (λb o e=>?_) he;have lb:=aGl e;have hb:b<(h1.push (seqObj "list" acc.toList.toArray 0)).objs.size:=by rw[size_push'];exact aHi lb
  rw[sortedHeap_old (Nat.ne_of_lt lb) hb];exact aGe _ e
end
end TS
namespace D3
open PySem PySem.Spec PyProof.Rows L2
def vL:OA:=λxs mh Q=>∃n t kvs,xs=[.ref n]/\mh[n]? =some (.dic t kvs)/\kvs.length<4000/\KN (kvs.map (·.1))/\∀fs:List D,fs.Perm (kvs.map (·.1))->fs.Pairwise (λd e=>lx (enc e) (enc d)=false)->Q (.ref mh.length) (mh++[.lst fs])
theorem UO{K:aKd}{μ:List Addr}{H:Hp}(k:Key):Is K μ H (bC k) (kV k):=by
 cases k <;> (simp only[bC];unfold Is;rfl)
theorem zU{K:aKd}{μ:List Addr}{H:Hp}:∀ks:List Key,IsL K μ H (ks.map bC) (ks.map kV)
 | []=>by simp[IsL]
 | k::ks=>by simp only[List.map_cons];unfold IsL;exact⟨_,_,rfl,UO k,zU ks⟩
theorem BK{P:Program}{w:World}{k:Key}{u:Value}(h:(aV P w).is k u=true):RelV (kV k) u:=by
 rcases bQ (k:=k) (v:=u) h with ⟨i,t,rfl,rfl⟩ | ⟨x,t,rfl,rfl⟩
 ·exact⟨t,rfl⟩
 ·exact⟨t,rfl⟩
theorem uI{P:Program}{w:World}:∀{es:List DictEntry} {vs:List (Key×Value)} {kk:List (Key×V)},Pairs (aV P w) es vs->KV kk vs->Vals (kk.map λp=>kV p.1) (es.map (·.key))
 | [],vs,kk,p,r=>by cases p;cases r;exact .nil
 | e::es,vs,kk,p,r=>by
  cases p with
  | cons h1 h2 h3=>
   cases r with
   | cons r1 r2=>
    simp only[List.map_cons];refine .cons ?_ (uI h3 r2);rw[r1.1];exact BK h1
theorem xR{K:aKd}{μ:List Addr}{H:Hp}:∀kk:List (Key×V),IsL K μ H (kk.map λp=>bC p.1) (kk.map λp=>kV p.1)
 | []=>by simp[IsL]
 | p::kk=>by simp only[List.map_cons];unfold IsL;exact⟨_,_,rfl,UO _,xR kk⟩
theorem xQ{K:aKd}{μ:List Addr}{H:Hp}:∀{kk:List (List Key×V)} {xs:List (List Key×Addr×Value)},KT H kk xs->IsL K μ H (kk.map λp=>.tup (p.1.map bC)) (xs.map λx=>.ref x.2.1)
 | [],xs,r=>by cases r;simp[IsL]
 | p::kk,xs,r=>by
  cases r with
  | cons r1 r2=>
   simp only[List.map_cons];unfold IsL;refine⟨_,_,rfl,?_,xQ r2⟩;unfold Is;exact⟨_,_,rfl,.inl (.inl r1.2.1),zU _⟩
theorem gI:∀(xs:List (List Key×Addr×Value)),Vals (xs.map λx=>V.ref x.2.1) (xs.map λx=>Value.ref x.2.1)
 | []=>.nil
 | x::xs=>.cons rfl (gI xs)
theorem S4{X:Cx}{pins:List (Addr×Obj)}{σ:L2.St}{H:Hp}{s:Shared}{μ:List Addr}{a:Addr}{ks:List D}{vs:List V}{t:Bool}(I:Inv X pins σ H s)(hv:HS (H a) ks vs t):
  ∃(es:Array DictEntry) (ep:Nat) (ws:List V),(a==sysModules)=false/\hU s.heap a es ep/\IsL X.K μ H ks ws/\Vals ws (es.toList.map (·.key)):=by
 cases t with
 | false=>
  obtain⟨kk,e,rfl,rfl⟩:=hv;obtain⟨z,hd,vs,r,o,es,ep,h1,h2,h3,h4,h5,h6⟩:=HF I.bZ e;exact⟨es,ep,_,hd,⟨o,h1,h2,h3⟩,xR kk,uI h5 r⟩
 | true=>
  obtain⟨kk,e,rfl,rfl⟩:=hv;obtain⟨z,hd,xs,r,o,es,ep,h1,h2,h3,h4,h5⟩:=US I.bZ e;refine⟨es,ep,_,hd,⟨o,h1,h2,h3⟩,xQ r,?_⟩;rw[h4,List.map_map];exact gI xs
section
variable {X:Cx}
theorem FP(hu:X.A.units+64<cLine)(hc:X.calm=true):cS X (.builtin "sorted") (fN X.K vL):=by
 intro pins s σ H xs us Q I r q;obtain⟨μ,mh,ds,R,RR,il,⟨n,t,kvs,rfl,e,h64,U,q⟩,F⟩:=q;obtain⟨v,rfl,iv⟩:=nK il;obtain⟨a,vs,rfl,hn,hv,l0⟩:=oD RR iv e;obtain⟨u,rfl,ru⟩:=vals1 r;cases ru;obtain⟨es,ep,ws,hd,raw,l,rv⟩:=S4 (μ:=μ) I hv;have vl:=qC I (kvs.map (·.1)) (yI U) l rv;have hlen:es.size=kvs.length:=by have:=bF vl;simpa using this
 have u2:X.A.in1.in1.units+40<cLine:=by show X.A.units+1+1+40<_;lia
 have itm:∀vs:List Value,ItemsOf (λi v=>∃e,es[i]? =some e/\v=e.key) vs.toArray es.size->vs=es.toList.map (·.key):=λvs h=>by
  apply aJg;intro i;have hs:vs.length=es.size:=by simpa using h.1
  by_cases hi:i<es.size
  ·have hi' :i<vs.length:=by lia
   obtain⟨e,h1,h2⟩:=h.2 i vs[i] (by simp[hi']);rw[List.getElem?_map,List.getElem?_eq_getElem hi'];simp only[Array.getElem?_toList,h1,Option.map_some,h2]
  ·rw[List.getElem?_eq_none (by lia),List.getElem?_eq_none (by simp;lia)]
 refine TS.LH (EW s.heap) (QL (ep:=ep) hd) (I.ok.hd hc) raw (by lia) (λvs hi h1 tk kept=>?_) λvs hi out p1 p2 h1 h2 tk ep2 kept kept2 he=>?_
 ·cases itm vs hi;by_cases h2:2<=(es.toList.map (·.key)).length
  ·obtain⟨κ,hk⟩:=tS (prog:=X.prog) (w:=X.w) (A:=X.A.in1.in1) (s:={s with toks:=tk}) u2 U vl h2;exact⟨κ,λ_ h' k=>hk h' λb o e=>k b o (kept b o e)⟩
  ·exact⟨general',λz=>absurd z h2⟩
 ·cases itm vs hi;obtain⟨ts,t1,t2,t3,t4⟩:=VF l rv vl;rw[<-t3]at p1;obtain⟨ts',p3,p4⟩:=lN (·.u) p1 ts rfl;have h4:∀t∈ts',Is X.K μ H t.d t.v/\RelV t.v t.u/\Vl s.heap t.d t.u:=λt ht=>t4 t (p3.mem_iff.mp ht);have pd:(ts'.map (·.d)).Perm (kvs.map (·.1)):=by rw[<-t1];exact p3.map _
  have pw:(ts'.map (·.d)).Pairwise (λd e=>lx (enc e) (enc d)=false):=by
   rw[<-p4]at p2;rw[List.pairwise_map]at p2⊢;refine p2.imp_of_mem λ{t t'} m m' hh=>?_;have e1:dv s.heap t.u=t.d:=nQ (h4 t m).2.2;have e2:dv s.heap t'.u=t'.d:=nQ (h4 t' m').2.2;unfold ltV at hh;rw[e1,e2]at hh;exact hh
  have ln:(ts'.map (·.v)).length<=sizeLine:=by
   have a1:=p3.length_eq;have a2:=aHk List.length t1;have a3:=aH1;simp at a2⊢
   lia
  have I0:Inv X pins σ H {s with heap:=h1,toks:=tk}:=I.kept (t' :=tk) kept
  have I1:Inv X pins σ (upd H h1.objs.size (.lst (ts'.map (·.v)))) {s with heap:=h2,toks:=tk}:=
   I0.laid (h' :=h2) (t' :=tk) kept2 (aGi _) ⟨ln,out,ep2,by rw[<-p4];exact tI λt ht=>(h4 t ht).2.1,he⟩
  exact⟨.ref h1.objs.size,_,I1,rfl,iH RR F (zT λt ht=>(h4 t ht).1) (q _ pd pw) _ (I0.bZ.fresh (aGi _))⟩
end
def eW(mh:MH)(b:Nat)(mh' :MH):Prop:=∃mh1 T,mh' =mh1++T/\cO mh b mh1
theorem eW.refl{mh:MH}{b:Nat}(h:yM mh b):eW mh b mh:=⟨mh,[],by simp,.refl h⟩
theorem eW.le{mh mh' :MH}{b:Nat}(h:eW mh b mh'):mh.length<=mh'.length:=by
 obtain⟨mh1,T,rfl,t⟩:=h;rw[List.length_append,t.len];lia
theorem eW.blt{mh mh' :MH}{b:Nat}(h:eW mh b mh'):b<mh.length:=by
 obtain⟨mh1,T,rfl,t⟩:=h;rw[<-t.len];exact t.1.lt
theorem eW.bag{mh mh' :MH}{b:Nat}(h:eW mh b mh'):yM mh' b:=by
 obtain⟨mh1,T,rfl,⟨c,m,e,r⟩,_⟩:=h;exact⟨c,m,by rw[List.getElem?_append_left (List.getElem?_eq_some_iff.mp e).1];exact e,r⟩
theorem eW.to{mh mh' mh2:MH}{b:Nat}(h:eW mh b mh')(t:cO mh' b mh2):eW mh b mh2:=by
 have hb:=h.blt;obtain⟨mh1,T,rfl,t1⟩:=h;have hb1:b<mh1.length:=by rw[t1.len];exact hb
 obtain⟨⟨c,m,e,r⟩,o,rfl⟩:=t;rw[List.set_append_left _ _ hb1]at e⊢;refine⟨mh1.set b o,T,rfl,t1.trans ⟨⟨c,m,?_,r⟩,o,rfl⟩⟩;rw[List.getElem?_append_left (by simpa using hb1)]at e;exact e
theorem eW.push{mh mh' :MH}{b:Nat}(h:eW mh b mh')(o:MO):eW mh b (mh' ++[o]):=by
 obtain⟨mh1,T,rfl,t1⟩:=h;exact⟨mh1,T++[o],by simp,t1⟩
theorem eW.set{mh mh' :MH}{b n:Nat}(h:eW mh b mh')(hn:mh.length<=n)(o:MO):eW mh b (mh'.set n o):=by
 obtain⟨mh1,T,rfl,t1⟩:=h;refine⟨mh1,T.set (n-mh1.length) o,?_,t1⟩;rw[List.set_append_right _ _ (by rw[t1.len];exact hn)]
theorem tO{mh mh' :MH}{b:Nat}{many:Int}{Q:DK}(h:eW mh b mh')(h1:1<=many)(h2:many<=1073741789)
  (q:∀r mh2,0<=r->r<many->eW mh b mh2->mh2.length=mh'.length->(∀n,mh.length<=n->mh2[n]? =mh'[n]?)->Q (.int r) mh2):lL [.ref b,.int many] mh' Q:=
 ⟨b,many,rfl,h1,h2,h.bag,λr mh2 r0 r1 t=>q r mh2 r0 r1 (h.to t) t.len λn hn=>t.other (by have:=h.blt;lia)⟩
open Classical in
noncomputable def bI:List (D×D)->D->Option D
 | [],_=>none
 | p::r,k=>if p.1=k then some p.2 else bI r k
theorem mH{K:aKd}{μ:List Addr}{H:Hp}(key:Key):∀{kvs:List (D×D)} {kk:List (Key×V)},kvs.map (·.1)=kk.map (λp=>bC p.1)->IsL K μ H (kvs.map (·.2)) (kk.map (·.2))->
  (jH kk key=none/\bI kvs (bC key)=none)\/∃d v,jH kk key=some v/\bI kvs (bC key)=some d/\Is K μ H d v
 | [],[],_,_=>.inl ⟨rfl,rfl⟩
 | [],_::_,h,_=>by simp at h
 | _::_,[],h,_=>by simp at h
 | p::kvs,q::kk,h,l=>by
  simp only[List.map_cons,List.cons.injEq]at h;simp only[List.map_cons]at l;unfold IsL at l;obtain⟨w,r,e,i,l⟩:=l;simp only[List.cons.injEq]at e;obtain⟨rfl,rfl⟩:=e;by_cases hk:q.1=key
  ·right;have hp:p.1=bC key:=by rw[h.1,hk]
   exact⟨p.2,q.2,oU hk,by simp[bI,hp],i⟩
  ·have hp:¬p.1=bC key:=λz=>hk (pN (h.1.symm.trans z));rw[oV hk];simp only[bI,if_neg hp];exact mH key h.2 l
section
variable {X:Cx}
theorem SQ(hu:X.A.units+64<cLine):UX X (λx y H Q=>∃a v,x= .ref a/\F2 H a y (some v)/\Q v H):=by
 intro value slice pins s σ H x y v u Q I rx ry h hs;obtain⟨a,z,rfl,g,q⟩:=h;cases rx;have hT:=C7 I g;unfold subscriptTail;refine aGb ?_;rw[getitemInPython_of_ne hT.not_modules];refine aGb (aJu hT PySem.F.slot_dict_getitem.lookup ?_)
 have fin:wpAny (model X.prog X.w) X.A (subscripted slice false (.ref a) u) (λr s₃=>wpAny (model X.prog X.w) X.A (letTemporaryGo value (.ref a) r >>=λ_=>pure r) (EP X pins σ Q) X.xe s₃) X.xe s:=by
  rw[hs];exact wpAny_operating (JV (by lia) I g ry λw' s3 I3 rw' =>aGb (wpAny_letTemporaryGo (aGd ⟨z,H,I3,rw',q⟩)))
 first
  | exact aGd (aGb fin)
  | exact aGb (aGd (aGb fin))
  | exact aGb fin
def MM:O2:=λx y mh Q=>∃n kvs key d,x= .ref n/\mh[n]? =some (.dic false kvs)/\y=bC key/\bI kvs y=some d/\Q d mh
theorem ixD(hu:X.A.units+64<cLine):UX X (bP X.K MM):=by
 intro value slice pins s σ H x y v u Q I rx ry q hs;obtain⟨μ,mh,dx,dy,R,RR,ix,iy,⟨n,kvs,key,d,rfl,e,rfl,hd,q⟩,F⟩:=q;obtain⟨a,vs,rfl,hn,⟨kk,hv,ek,rfl⟩,l⟩:=oD RR ix e;cases mM iy
 rcases mH key ek l with ⟨_,z⟩ | ⟨d',w,h1,h2,iw⟩
 ·rw[hd]at z;cases z
 ·rw[hd]at h2;cases h2;exact SQ hu value slice pins s σ H _ _ v u Q I rx ry ⟨a,w,rfl,by rw[<-h1];exact .k hv,F.here RR q iw⟩ hs
end
end D3
namespace ST
open PySem PySem.SetTable
def F0(xs:Array Nat):Prop:=xs.toList.Pairwise (· < ·)
theorem EA{xs:Array Nat}(h:F0 xs){i j:Nat}(hi:i<j)(hj:j<xs.size):xs[i]'(by lia)<xs[j]:=by
 have:=aHa.mp h i j (by simp;lia) (by simpa using hj) hi;simpa using this
theorem LV{xs:Array Nat}(h:F0 xs){i j:Nat}(hi:i<=j)(hj:j<xs.size):xs[i]'(by lia)<=xs[j]:=by
 rcases aK5 hi with z | z
 ·exact aIh (EA h z hj)
 ·subst z;exact aGi _
theorem zX(xs:Array Nat)(j:Nat)(h:F0 xs):∀(fuel lo hi:Nat),hi-lo<=fuel->lo<=hi->hi<=xs.size->(∀k (hk:k<xs.size),k<lo->xs[k]<j)->(∀k (hk:k<xs.size),hi<=k->j<=xs[k])->
  (below.go xs j fuel lo hi<=xs.size)/\(∀k (hk:k<xs.size),k<below.go xs j fuel lo hi->xs[k]<j)/\(∀k (hk:k<xs.size),below.go xs j fuel lo hi<=k->j<=xs[k])
 | 0,lo,hi,h1,h2,h3,a,b=>by
  have:lo=hi:=by lia
  subst this;exact⟨h3,a,b⟩
 | fuel+1,lo,hi,h1,h2,h3,a,b=>by
  unfold below.go;by_cases hl:lo<hi
  ·rw[if_pos hl];have hm:(lo+hi) / 2<xs.size:=by lia
   have eg:xs.getD ((lo+hi) / 2) j=xs[(lo+hi) / 2]:=by simp[Array.getD,hm]
   simp only[eg];by_cases hx:xs[(lo+hi) / 2]<j
   ·rw[if_pos hx];exact zX xs j h fuel _ _ (by lia) (by lia) h3 (λk hk hk2=>aK1 (LV h (by lia) hm) hx) b
   ·rw[if_neg hx];exact zX xs j h fuel _ _ (by lia) (by lia) (by lia) a (λk hk hk2=>aH5 (aIl hx) (LV h hk2 hk))
  ·rw[if_neg hl];have:lo=hi:=by lia
   subst this;exact⟨h3,a,b⟩
theorem jU{xs:Array Nat}(j:Nat)(h:F0 xs):(below xs j<=xs.size)/\(∀k (hk:k<xs.size),k<below xs j->xs[k]<j)/\(∀k (hk:k<xs.size),below xs j<=k->j<=xs[k]):=
 zX xs j h xs.size 0 xs.size (by lia) (by lia) (aGi _) (λk hk z=>by lia) (λk hk z=>by lia)
theorem FQ{xs:Array Nat}(h:F0 xs):below xs 0=0:=by
 obtain⟨a,b,_⟩:=jU 0 h;apply aIe;intro z;have:=b 0 (by lia) (by lia)
 lia
theorem FT{xs:Array Nat}(h:F0 xs){i:Nat}(hi:i<xs.size):below xs (xs[i]+1)=i+1:=by
 obtain⟨a,b,c⟩:=jU (xs[i]+1) h
 have h1:i<below xs (xs[i]+1):=by
  apply aIe;intro z;have:=c i hi (by lia)
  lia
 apply aIe;intro z;have h2:i+1<below xs (xs[i]+1):=by lia
 have h3:=b (i+1) (by lia) h2;have h4:=EA (i:=i) (j:=i+1) h (by lia) (by lia)
 lia
theorem RK{xs:Array Nat}(h:F0 xs){j:Nat}(hn:xs[below xs j]? ≠some j):j∉xs.toList:=by
 intro hm;obtain⟨k,hk,e⟩:=aIy.mp hm;have hk' :k<xs.size:=by simpa using hk
 have e' :xs[k]=j:=by simpa using e
 obtain⟨a,b,c⟩:=jU j h
 have h1:below xs j<=k:=by
  apply aIe;intro z;have:=b k hk' (by lia)
  lia
 rcases aK5 h1 with z | z
 ·have:=EA h z hk';have:=c _ (by lia) (aGi _)
  lia
 ·apply hn;rw[z];simp[hk',e']
theorem CN{α:Type}(xs:Array α)(p:Nat)(x:α)(hp:p<=xs.size):(insertAt xs p x).toList=xs.toList.take p++x::xs.toList.drop p:=by
 unfold insertAt;simp[Array.toList_extract];rw[List.take_of_length_le (by simp)]
theorem EB{xs:Array Nat}(h:F0 xs){j:Nat}(hn:j∉xs.toList):F0 (insertAt xs (below xs j) j):=by
 obtain⟨a,b,c⟩:=jU j h;unfold F0;rw[CN _ _ _ a,List.pairwise_append];refine⟨h.sublist (aK6 _ _),?_,?_⟩
 ·rw[List.pairwise_cons];refine⟨λy hy=>?_,h.sublist (List.drop_sublist _ _)⟩;obtain⟨k,hk,e⟩:=aIy.mp hy;have hk2:below xs j+k<xs.size:=by simp at hk;lia
  have e2:xs[below xs j+k]=y:=by simpa using e
  have:=c _ hk2 (by lia);rcases aK5 this with z | z
  ·lia
  ·exfalso;apply hn;rw[z];simp
 ·intro x hx y hy;obtain⟨k,hk,e⟩:=aIy.mp hx;have hk2:k<below xs j/\k<xs.size:=by simp at hk;lia
  have e2:xs[k]=x:=by simpa using e
  have h1:=b k hk2.2 hk2.1;rcases aGk.mp hy with z | z
  ·lia
  ·obtain⟨m,hm,e3⟩:=aIy.mp z;have hm2:below xs j+m<xs.size:=by simp at hm;lia
   have e4:xs[below xs j+m]=y:=by simpa using e3
   have:=c _ hm2 (by lia)
   lia
theorem ID(n:Nat):F0 (Array.range n):=by
 unfold F0;rw[Array.toList_range];exact List.pairwise_lt_range
structure r6(l:Bool)(t:SetTable):Prop where
 ris:F0 t.place
 dum:t.dummies= #[]
 led:t.led=l
theorem r6.plain{l:Bool}{t:SetTable}(h:r6 l t)(b:Bool):r6 l {t with plain:=b}:=⟨h.ris,h.dum,h.led⟩
theorem r6.fresh(f m:Nat)(l:Bool):r6 l (.fresh f m l):=⟨by unfold F0 SetTable.fresh;simp,rfl,rfl⟩
theorem r6.GJ{l:Bool}{t:SetTable}(h:r6 l t)(n:Nat):r6 l (t.standIn n):=⟨ID n,rfl,h.led⟩
theorem r6.RB{l:Bool}{t:SetTable}(h:r6 l t)(n:Nat):r6 l (t.orStandIn n):=by
 unfold SetTable.orStandIn;split
 ·exact h
 ·exact h.GJ n
theorem tT{t:SetTable}(h:t.dummies= #[])(j:Nat):t.slot j≠ .dummy:=by
 unfold SetTable.slot;simp only[h,SetTable.has];split
 ·exact λz=>by cases z
 ·simp
theorem BP{t:SetTable}(h:t.dummies= #[])(x:Int):∀(fuel:Nat) (p:Probe) (j:Nat) (d:Option Nat),p.dummy=none->probe.go t (λ_=>x+1) x fuel p=some (.empty j d)->t.slot j= .empty/\d=none
 | 0,p,j,d,_,e=>by simp[probe.go]at e
 | fuel+1,p,j,d,hp,e=>by
  unfold probe.go at e
  cases hs:t.slot p.j with
  | empty=>
   rw[hs]at e;simp at e;obtain⟨rfl,rfl⟩:=e;exact⟨hs,hp⟩
  | dummy=>exact absurd hs (tT h _)
  | live i=>
   rw[hs]at e;have:(x+1==x)=false:=by simp;lia
   simp only[this]at e;refine BP h x fuel _ j d ?_ e;unfold SetTable.advance;split <;> simp[hp]
theorem JQ{t:SetTable}(h:t.dummies= #[]){x:Int}{j:Nat}{b:Bool}(e:t.freeSlot x=some (j,b)):t.slot j= .empty:=by
 unfold SetTable.freeSlot at e
 cases hp:t.probe (λ_=>x+1) x (t.probeStart x) with
 | none=>rw[hp]at e;cases e
 | some m=>
  rw[hp]at e
  cases m with
  | candidate a b c=>cases e
  | empty k d=>
   obtain⟨h1,h2⟩:=BP h x _ _ k d rfl hp;subst h2;simp at e;obtain⟨rfl,_⟩:=e;exact h1
theorem D5{t:SetTable}(h:r6 l t){j:Nat}(e:t.slot j= .empty):j∉t.place.toList:=by
 apply RK h.ris;intro z;unfold SetTable.slot at e;simp[z]at e
theorem r6.put{l:Bool}{t:SetTable}(h:r6 l t){j:Nat}(hj:j∉t.place.toList):r6 l (t.put j).1:=by
 unfold SetTable.put;refine⟨EB h.ris hj,?_,h.led⟩;simp[h.dum,SetTable.has]
theorem r6.lay{l:Bool}{t:SetTable}(h:r6 l t)(es:Array (Int×Value))(x:Int)(v:Value):r6 l (layNew t es x v).2.1:=by
 unfold layNew
 cases hf:t.freeSlot x with
 | none=>exact h.GJ _
 | some p=>
  obtain⟨j,b⟩:=p;have:=h.put (D5 h (JQ h.dum hf));exact this.RB _
theorem r6.aB9{l:Bool}{t:SetTable}(h:r6 l t)(es:Array (Int×Value))(n:Nat):r6 l (relayAll t es n).2.1:=by
 unfold relayAll
 cases hr:t.relaid (es.map (·.1)) n with
 | none=>exact h.GJ _
 | some p=>
  obtain⟨t',order⟩:=p;simp only;split
  ·unfold SetTable.relaid SetTable.laid at hr
   cases ho:layClean (sizeAbove n-1) (es.map (·.1)) with
   | none=>rw[ho]at hr;cases hr
   | some ow=>
    rw[ho]at hr;simp at hr;obtain⟨rfl,_⟩:=hr;refine⟨?_,rfl,h.led⟩;unfold F0;simp only[List.map_filterMap];have:(List.range (sizeAbove n-1+1)).Pairwise (· < ·):=List.pairwise_lt_range;rw[List.pairwise_filterMap];refine this.imp_of_mem λ{a b} _ _ hab x hx y hy=>?_;simp at hx hy;obtain⟨c,hc,rfl⟩:=hx;obtain⟨d,hd,rfl⟩:=hy;exact hab
  ·exact h.GJ _
theorem rO{α β:Type}(f:α->β):∀{l:List β} {m:List β},l.Perm m->∀t:List α,m=t.map f->∃t' :List α,t'.Perm t/\t'.map f=l:=by
 intro l m p
 induction p with
 | nil=>
  intro t e
  cases t with
  | nil=>exact⟨[],.refl _,rfl⟩
  | cons a t=>cases e
 | cons x p ih=>
  intro t e
  cases t with
  | nil=>cases e
  | cons a t=>
   simp at e;obtain⟨t',p1,q1⟩:=ih t e.2;exact⟨a::t',p1.cons a,by simp[e.1,q1]⟩
 | swap x y l=>
  intro t e
  cases t with
  | nil=>cases e
  | cons a t=>
   cases t with
   | nil=>simp at e
   | cons b t=>
    simp at e;exact⟨b::a::t,.swap a b t,by simp[e]⟩
 | trans p1 p2 ih1 ih2=>
  intro t e;obtain⟨t1,p1,q1⟩:=ih2 t e;obtain⟨t2,p2,q2⟩:=ih1 t1 q1.symm;exact⟨t2,p2.trans p1,q2⟩
section
variable {prog:Program}{w:World}{K:Type}[DecidableEq K](knd:KeyKind prog w K)
def Es(es:Array (Int×Value))(ks:List K):Prop:=
 ∃ps:List (K×(Int×Value)),ps.map (·.2)=es.toList/\(ps.map (·.1)).Perm ks/\∀p∈ps,knd.is p.1 p.2.2=true/\p.2.1=knd.hash p.1/\p.2.2.scannable=true
def hJ(l:Bool)(h:Heap)(a:Addr)(ks:List K):Prop:=
 ∃o es ep t,h.get? a=some o/\o.ExactSet/\o.data= .set es ep t/\Es knd es ks/\ks.Nodup/\es.size<scanBound/\t.fits es.size=true/\r6 l t
variable {knd}
theorem Es.perm{es es' :Array (Int×Value)}{ks:List K}(h:Es knd es ks)(p:es'.toList.Perm es.toList):Es knd es' ks:=by
 obtain⟨ps,h1,h2,h3⟩:=h;obtain⟨ps',p1,p2⟩:=rO (·.2) p ps h1.symm;exact⟨ps',p2,(p1.map _).trans h2,λp hp=>h3 p (p1.mem_iff.mp hp)⟩
theorem Es.size{es:Array (Int×Value)}{ks:List K}(h:Es knd es ks):es.size=ks.length:=by
 obtain⟨ps,h1,h2,h3⟩:=h;have a:=aHk List.length h1;have b:=h2.length_eq;simp at a b
 lia
theorem Es.elems{es:Array (Int×Value)}{ks:List K}(h:Es knd es ks):ElemsOf knd es.toList:=by
 obtain⟨ps,h1,h2,h3⟩:=h;intro e he;rw[<-h1]at he;obtain⟨p,hp,rfl⟩:=aGm.mp he;obtain⟨a,b,c⟩:=h3 p hp;exact⟨⟨p.1,a,b⟩,c⟩
theorem Es.mem{es:Array (Int×Value)}{ks:List K}(h:Es knd es ks)(k:K):k∈ks↔∃e∈es.toList,knd.is k e.2=true:=by
 obtain⟨ps,h1,h2,h3⟩:=h;rw[<-h2.mem_iff,<-h1];constructor
 ·intro hk;obtain⟨p,hp,rfl⟩:=aGm.mp hk;exact⟨p.2,aGm.mpr ⟨p,hp,rfl⟩,(h3 p hp).1⟩
 ·rintro⟨e,he,hk⟩;obtain⟨p,hp,rfl⟩:=aGm.mp he;exact aGm.mpr ⟨p,hp,knd.inj _ _ _ (h3 p hp).1 hk⟩
theorem Es.push{es:Array (Int×Value)}{ks:List K}(h:Es knd es ks){k:K}{x:Value}(hk:knd.is k x=true)(hx:x.scannable=true):Es knd (es.push (knd.hash k,x)) (ks++[k]):=by
 obtain⟨ps,h1,h2,h3⟩:=h;refine⟨ps++[(k,(knd.hash k,x))],by simp[h1],by simpa using h2.append_right [k],λp hp=>?_⟩;rcases aGh.mp hp with hp | hp
 ·exact h3 p hp
 ·simp at hp;subst hp;exact⟨hk,rfl,hx⟩
theorem hJ.typeIs{s:Shared}{l:Bool}{a:Addr}{ks:List K}(h:hJ knd l s.heap a ks):s.TypeIs (.ref a) "set":=let ⟨o,_,_,_,ho,hx,_⟩:=h;⟨o,ho,hx.1⟩
theorem hJ.keep{h h' :Heap}{l:Bool}{a:Addr}{ks:List K}(x:hJ knd l h a ks)(k:∀o,h.get? a=some o->h'.get? a=some o):hJ knd l h' a ks:=let ⟨o,es,ep,t,ho,r⟩:=x;⟨o,es,ep,t,k o ho,r⟩
theorem store{l:Bool}{h:Heap}{a:Addr}{o:Obj}{es:Array (Int×Value)}{ep:Nat}{t:SetTable}(ho:h.get? a=some o)(hex:o.ExactSet)(hd:o.data= .set es ep t)
  {es' :Array (Int×Value)} {t' :SetTable} {ks:List K} (he:Es knd es' ks) (nd:ks.Nodup) (hb:es'.size<scanBound) (hf:t'.fits es'.size=true) (ht:r6 l t'):
  (h.update a (Obj.putSet es' t')).get? a=some {o with data:= .set es' (ep+1) t'}/\hJ knd l (h.update a (Obj.putSet es' t')) a ks:=by
 have hg:(h.update a (Obj.putSet es' t')).get? a=some {o with data:= .set es' (ep+1) t'}:=by
  have:=aHf (Obj.putSet es' t') ho (by rw[putSet_of es' t' hd];rfl);rw[putSet_of es' t' hd]at this;exact this
 exact⟨hg,_,es',ep+1,t',hg,hex,rfl,he,nd,hb,hf,ht⟩
variable {A:Around}{E:aKe}{s:Shared}
theorem HL{l:Bool}{g:Bool->Sem Unit}(hg:∀(b:Bool) (s₁:Shared) (Q' :Unit->Shared->Prop),Q' () s₁->wpAny (model prog w) A (g b) Q' E s₁)
  {a:Addr} {o:Obj} {es:Array (Int×Value)} {ep:Nat} {t:SetTable} (ho:s.heap.get? a=some o) (hex:o.ExactSet) (hd:o.data= .set es ep t)
  {es1:Array (Int×Value)} {t2:SetTable} {ks:List K} (he:Es knd es1 ks) (nd:ks.Nodup)
  (hb1:es1.size<scanBound) (hf2:t2.fits es1.size=true) (ht:r6 l t2) {wasDummy:Bool} {R:Option Bool->Shared->Prop}
  (h:∀h',Heap.SameBut a s.heap h' ->hJ knd l h' a ks->R (some true) {s with heap:=h'}):
  wpAny (model prog w) A (do
    storeSet a es1 t2
    if (!wasDummy && t2.tooFull)=true then do
      g (relayAll t2 es1 (SetTable.grown es1.size)).2.2
      storeSet a (relayAll t2 es1 (SetTable.grown es1.size)).1 (relayAll t2 es1 (SetTable.grown es1.size)).2.1
      pure (some true)
     else pure (some true)) R E s:=by
 refine aGb (wpAny_storeSet_of ho hd ?_ (fits_of_scanBound hb1));obtain⟨ho1,hS1⟩:=store (knd:=knd) ho hex hd he nd hb1 hf2 ht;have hsb1:=aHm s.heap a (Obj.putSet es1 t2);split
 ·have hp:=relayAll_perm t2 es1 (SetTable.grown es1.size);have hfr:=relayAll_fits t2 es1 (SetTable.grown es1.size);have htr:=ht.aB9 es1 (SetTable.grown es1.size);generalize hRl:relayAll t2 es1 (SetTable.grown es1.size)=Rl at hp hfr htr⊢;obtain⟨es2,t3,gave2⟩:=Rl;dsimp only at hp hfr htr⊢;have he2:=he.perm hp;have hsz:es2.size=es1.size:=by rw[<-Array.length_toList,hp.length_eq,Array.length_toList]
  have hb2:es2.size<scanBound:=by rw[hsz];exact hb1
  refine aGb (hg _ _ _ ?_);refine aGb (wpAny_storeSet_of ho1 rfl ?_ (fits_of_scanBound hb2));obtain⟨_,hS2⟩:=store (knd:=knd) ho1 hex rfl he2 nd hb2 hfr htr;exact aGd (h _ (hsb1.trans (aHm _ a _)) hS2)
 ·exact aGd (h _ hsb1 hS1)
def mY(ks:List K)(k:K):List K:=if k∈ks then ks else ks++[k]
theorem J9{l:Bool}{a:Addr}{ks:List K}{k:K}{x:Value}{Q:Bool->Shared->Prop}(hkey:knd.is k x=true)(hsc:x.scannable=true)(hS:hJ knd l s.heap a ks)
  (hroom:ks.length+1<scanBound) (h:∀(b:Bool) h',Heap.SameBut a s.heap h' ->hJ knd l h' a (mY ks k)->Q b {s with heap:=h'}):
  wpAny (model prog w) A (setAddHashed a x (knd.hash k)) Q E s:=by
 obtain⟨o,es,ep,t,ho,hex,hd,he,nd,hb,hf,ht⟩:=hS;have hn:=he.size;have hel:=he.elems;have hmem:=he.mem;have hb1:es.size+1<scanBound:=by rw[hn];exact hroom
 unfold setAddHashed setAddHashedIn;refine aH7 (aGb (aIj ho hd hf ?_));dsimp only;rw[byScan_of hsc hb hel];simp only[↓reduceIte];unfold setAddByScan;refine aGb ?_;refine aGb (aHg ?_);refine aGb (wpAny_setScan_of hkey ho hd hf hel ?_)
 cases hr:List.findIdx? (λe=>knd.is k e.2) es.toList with
 | some j=>
  dsimp only;obtain⟨hj,hpj,_⟩:=List.findIdx?_eq_some_iff_getElem.mp hr;have hSk:k∈ks:=(hmem k).mpr ⟨es.toList[j],aJo hj,hpj⟩;refine aGd (aGd ?_);have e:s={s with heap:=s.heap}:=by cases s;rfl
  have:=h false s.heap (Heap.SameBut.refl a s.heap) ⟨o,es,ep,t,ho,hex,hd,by unfold mY;rw[if_pos hSk];exact he,by unfold mY;rw[if_pos hSk];exact nd,hb,hf,ht⟩;rw[e];exact this
 | none=>
  dsimp only
  have hSk:k∉ks:=λhk=>by
   obtain⟨e,he,hp⟩:=(hmem k).mp hk;have:=List.findIdx?_eq_none_iff.mp hr e he;rw[hp]at this;exact Bool.noConfusion this
  have hgw:∀(b:Bool) {s₁:Shared} {Q' :Unit->Shared->Prop},Q' () s₁->wpAny (model prog w) A (match b with | true=>rule "set.scan.the-table-gave-way" | false=>pure ()) Q' E s₁:=
   λb s₁ Q' hq=>by cases b <;> first | exact aGd hq | exact aHg hq
  have hperm:=layNew_perm t es (knd.hash k) x;have hfits:=layNew_fits t es (knd.hash k) x;have htok:=ht.lay es (knd.hash k) x;generalize hL:layNew t es (knd.hash k) x=L at hperm hfits htok⊢;obtain⟨es1,t1,wasDummy,gave⟩:=L;dsimp only at hperm hfits htok⊢;have he1:Es knd es1 (mY ks k):=by unfold mY;rw[if_neg hSk];exact(he.push hkey hsc).perm hperm
  have nd1:(mY ks k).Nodup:=by
   unfold mY;rw[if_neg hSk,List.nodup_append];exact⟨nd,by simp,λa ha b hb=>by simp at hb;subst hb;exact λz=>hSk (z▸ha)⟩
  have hb1' :es1.size<scanBound:=by rw[<-Array.length_toList,hperm.length_eq,Array.length_toList,Array.size_push];exact hb1
  refine aGb (hgw _ ?_);split
  ·refine aGb ?_;rw[hashByValue_scannable 8 hsc];refine aGd ?_;refine HL (l:=l) ?_ ho hex hd he1 nd1 hb1' ?_ ?_ ?_
   ·intro b s₁ Q' hq;cases b <;> first | exact aGd hq | exact aHg hq
   ·split
    ·exact hfits
    ·exact SetTable.fits_plain_off hfits
   ·split
    ·exact htok
    ·exact htok.plain false
   ·intro h' hsb hS';dsimp only;exact aGd (h _ h' hsb hS')
  ·refine aGb (aGd ?_);simp only[↓reduceIte];refine HL (l:=l) ?_ ho hex hd he1 nd1 hb1' hfits htok ?_
   ·intro b s₁ Q' hq;cases b <;> first | exact aGd hq | exact aHg hq
   ·intro h' hsb hS';dsimp only;exact aGd (h _ h' hsb hS')
end
open PySem.Spec
def iG(w:World):Bool:= !(w.params.followText "set-order")
section
variable {prog:Program}{w:World}{K:Type}[DecidableEq K]{knd:KeyKind prog w K}{A:Around}{E:aKe}{s:Shared}
theorem FG{h:Heap}{a:Addr}(ho:h.get? a=some {cls:= .type "set",dict:=none,data:= .set #[] 0 (.fresh 0 0 (iG w))}):hJ knd (iG w) h a []:=
 ⟨_,#[],0,_,ho,⟨rfl,rfl,rfl⟩,rfl,⟨[],rfl,by simp,λp hp=>by cases hp⟩,by simp,by decide,by rfl,.fresh 0 0 _⟩
def bR(ks:List K)(xs:List K):List K:=xs.foldl mY ks
theorem O4(ks:List K)(k:K):(mY ks k).length<=ks.length+1:=by unfold mY;split <;> simp
theorem FZ:∀(xs ks:List K),(bR ks xs).length<=ks.length+xs.length
 | [],ks=>by simp[bR]
 | x::xs,ks=>by
  have h1:=FZ xs (mY ks x);have h2:=O4 ks x;simp only[bR,List.foldl_cons,List.length_cons]at*
  lia
theorem MW{ks:List K}{k j:K}:j∈mY ks k↔j∈ks\/j=k:=by
 unfold mY;split
 ·rename_i h;exact⟨.inl,λz=>z.elim id λe=>e▸h⟩
 ·simp
theorem nY{j:K}:∀{xs ks:List K},j∈bR ks xs↔j∈ks\/j∈xs
 | [],ks=>by simp[bR]
 | x::xs,ks=>by
  have:=nY (j:=j) (xs:=xs) (ks:=mY ks x);simp only[bR,List.foldl_cons]at*;rw[this,MW];simp[or_assoc]
theorem MT(a:Value){Q₁:aKe}
  (h:Q₁ (.ref s.heap.objs.size) {s with heap:=s.heap.push {cls:= .type "set",dict:=none,data:= .set #[] 0 (.fresh 0 0 (iG w))}}):
  codeAny (model prog w) A (.call (.builtin "set.__new__") ⟨[.type "set",a],[]⟩) (wants Q₁ E) s:=by
 refine aJt ?_;show wpAny _ A.in1 (do checkBuiltinCall "set.__new__" ⟨[.type "set",a],[]⟩;again (.builtin "set.__new__" ⟨[.type "set",a],[]⟩)) _ _ s;refine aGb (aIv (F.newCall_set_1 a) (aGd ⟨aI2 F.plain_set_new _,aHn F.entry_set_new ?_⟩));rw[Around.under_plainId F.plain_set_new _];unfold Builtin.«set.__new__» Builtin.Frozenset.newClass;have hsub:=sub_set_self;obtain⟨hp,g,d,tk,os⟩:=s;dsimp only
 wp_walk
 refine aJm (aGd ?_);dsimp only;simp only[newObj];refine aGb (wpAny_alloc (aGd ?_));exact aGd h
end
theorem slot_next:Slot "set_iterator" "__next__" "set_iterator.__next__":=
 .of (owner:= "set_iterator") (n:= "__next__") (by rw[typeLookup_type,builtinLookup_eq_fast];kernel_rfl) (by decide+kernel) (by decide+kernel) (by decide+kernel)
  (by first | exact .inl (by decide+kernel) | exact .inr (by decide+kernel)) (by rw[isSubtype_type];kernel_rfl)
theorem wX:Slot "set_iterator" "__iter__" "set_iterator.__iter__":=
 .of (owner:= "set_iterator") (n:= "__iter__") (by rw[typeLookup_type,builtinLookup_eq_fast];kernel_rfl) (by decide+kernel) (by decide+kernel) (by decide+kernel)
  (by first | exact .inl (by decide+kernel) | exact .inr (by decide+kernel)) (by rw[isSubtype_type];kernel_rfl)
theorem entry_next:entryFor table "set_iterator.__next__"=some Builtin.«set_iterator.__next__»:=entryFor_of_tree (by kernel_rfl)
theorem BU:Manifest.owners.lookup (String.ofList "rotareti_tes".toList.reverse)=some Manifest.sig_set_iterator:=by kernel_rfl
theorem args_next(a:Value):argsOk "set_iterator.__next__" ⟨[a],[]⟩:=by
 unfold argsOk;rw[signature?_of (id:= "set_iterator.__next__") (n:= "__txen__".toList) (o:= "rotareti_tes".toList) (by kernel_rfl) BU];kernel_rfl
theorem u5:entryFor table "set.__iter__"=some Builtin.«frozenset.__iter__»:=
 entryFor_alias (id' := "frozenset.__iter__") (by kernel_rfl) rfl (by decide+kernel) (by kernel_rfl)
def lT(first:Value)(i:Nat)(a:Addr)(n ep:Nat):Obj:={cls:= .type "set_iterator",dict:=none,data:= .fields #[first,.int i 0,.ref a,.int n 0,.int ep 0],slots:= #[]}
section
variable {prog:Program}{w:World}{A:Around}{E:aKe}{s:Shared}{it a:Addr}{first:Value}{i ep n:Nat}{o:Obj}{es:Array (Int×Value)}{t:SetTable}
theorem MS{slot nx:Nat}{x:Value}{Q:Option Value->Shared->Prop}(hit:s.heap.get? it=some (lT (.int slot 0) i a es.size ep))(ho:s.heap.get? a=some o)(hd:o.data= .set es ep t)(hf:t.fits es.size=true)
  (hN:∀(A:Around) (E:aKe) (Q:Option (Value×Nat)->Shared->Prop),Q (some (x,nx)) s->wpAny (model prog w) A (setNext a slot i ep) Q E s)
  (q:∀h',h'.get? it=some (lT (.int nx 0) (i+1) a es.size ep)->Heap.SameBut it s.heap h' ->Q (some x) {s with heap:=h'}):wpAny (model prog w) A (pyNext (.ref it)) Q E s:=by
 have ht:s.TypeIs (.ref it) "set_iterator":=⟨_,hit,rfl⟩
 unfold pyNext;refine aGb (aHy (aH2 (name:=Str.ofString "__next__") ht slot_next (aGw slot_next ht entry_next ?_ (args_next _))));unfold Builtin.«set_iterator.__next__»;refine aGb (m:=slotArgs "__next__" 0 _) (aGd ?_);refine aGb (aIx hit rfl ?_);dsimp only;refine aGb (aIk ho hd hf ?_);rw[if_neg (show ¬(((es.size:Int) !=(es.size:Int))=true) by simp)];simp only[Int.toNat_natCast];refine aGb (hN _ _ _ ?_);dsimp only;refine aGb (aH8 hit (by simp) λh1 g1 k1=>?_);refine aGb (aH8 g1 (by simp) λh2 g2 k2=>?_);refine aGd ⟨x,rfl,aGd (q h2 ?_ (k1.trans k2))⟩;rw[g2];simp[lT,rawInt]
theorem wV{B:Around}(hh:B.handled=none){Q:Option Value->Shared->Prop}(h:∀h',(∀b u,s.heap.get? b=some u->h'.get? b=some u)->Q none {s with heap:=h'}):
  wpAny (model prog w) B (do let e<-newExc (.type "StopIteration") [];raiseNew e) (λ(fin:Fin) s' =>∃v,fin=Fin.done (Flow.ret v)/\wpAny (model prog w) A (pure (some v)) Q E s')
   (λe s' =>wpAny (model prog w) A (do let b<-isInstance e (Value.type "StopIteration");if b=true then pure none else throw e) Q E s') s:=by
 refine aGb ?_;simp only[newExc,newTuple];refine aGb (aH3 ?_ (by size_fits));refine aGb (m:=firstArgMember _ _) (aIv (a:=Value.none) (by first | rfl | (simp only[firstArgMember];rfl)) ?_);refine aH3 ?_ (by size_fits);simp only[raiseNew];refine aGb (wpAny_handled ?_);rw[hh];refine aGb (aGd (wpAny_throw ?_));refine aGb (aJ0 (T:= "StopIteration") (b:=true) ⟨_,aGj _ rfl,rfl⟩ isSubtype_stop ?_);exact aGd (h _ λb u e=>aGe _ (aGe _ e))
theorem zH{slot:Nat}{Q:Option Value->Shared->Prop}(hh:A.handled=none)(hit:s.heap.get? it=some (lT (.int slot 0) i a es.size ep))(ho:s.heap.get? a=some o)(hd:o.data= .set es ep t)(hf:t.fits es.size=true)
  (hN:∀(A:Around) (E:aKe) (Q:Option (Value×Nat)->Shared->Prop),Q none s->wpAny (model prog w) A (setNext a slot i ep) Q E s)
  (q:∀h',Heap.ExtBut it s.heap h' ->Q none {s with heap:=h'}):wpAny (model prog w) A (pyNext (.ref it)) Q E s:=by
 have ht:s.TypeIs (.ref it) "set_iterator":=⟨_,hit,rfl⟩
 unfold pyNext;refine aGb (aHy (aH2 (name:=Str.ofString "__next__") ht slot_next (aGw slot_next ht entry_next ?_ (args_next _))));unfold Builtin.«set_iterator.__next__»;refine aGb (m:=slotArgs "__next__" 0 _) (aGd ?_);refine aGb (aIx hit rfl ?_);dsimp only;refine aGb (aIk ho hd hf ?_);rw[if_neg (show ¬(((es.size:Int) !=(es.size:Int))=true) by simp)];simp only[Int.toNat_natCast];refine aGb (hN _ _ _ ?_);dsimp only;refine aGb (aH8 hit (by simp) λh1 g1 k1=>?_);exact wV (B:=A.in1) (s:={s with heap:=h1}) (show A.in1.handled=none from hh) λh' k=>q h' λb u hb e=>k b u ((k1.2 b hb).trans e)
theorem MR{tp:Addr}{pl:Nat}{ns:List Nat}{x:Value}{Q:Option Value->Shared->Prop}(hit:s.heap.get? it=some (lT (.ref tp) i a es.size ep))(ho:s.heap.get? a=some o)(hd:o.data= .set es ep t)(hf:t.fits es.size=true)
  (htp:s.heap.IsTuple tp (ns.map λ(k:Nat)=>rawInt k).toArray) (hns:ns[i]? =some pl) (hx:(es[pl]?).map (·.2)=some x)
  (q:∀h',h'.get? it=some (lT (.ref tp) (i+1) a es.size ep)->Heap.SameBut it s.heap h' ->Q (some x) {s with heap:=h'}):wpAny (model prog w) A (pyNext (.ref it)) Q E s:=by
 have ht:s.TypeIs (.ref it) "set_iterator":=⟨_,hit,rfl⟩
 obtain⟨ot,hot,_,nt,hdt⟩:=htp;obtain⟨⟨hx1,x'⟩,hx2,hx3⟩:=aHb.mp hx;simp only at hx3;subst hx3;unfold pyNext;refine aGb (aHy (aH2 (name:=Str.ofString "__next__") ht slot_next (aGw slot_next ht entry_next ?_ (args_next _))));unfold Builtin.«set_iterator.__next__»;refine aGb (m:=slotArgs "__next__" 0 _) (aGd ?_);refine aGb (aIx hit rfl ?_);dsimp only;refine aGb (aIk ho hd hf ?_);rw[if_neg (show ¬(((es.size:Int) !=(es.size:Int))=true) by simp)];refine aGb (aHc hot hdt ?_);dsimp only;have e1:(ns.map λ(k:Nat)=>rawInt k).toArray[(i:Int).toNat]? =some (Value.int pl 0):=by simp[hns,rawInt]
 rw[e1];dsimp only;simp only[Int.toNat_natCast];refine aGb (m:=setNextDrawn a pl ep) ?_;unfold setNextDrawn;refine aGb (aIj ho hd hf ?_);dsimp only;rw[if_neg (by simp)];rw[hx2];dsimp only;refine aGd ?_;refine aGb (aH8 hit (by simp) λh2 g2 k2=>?_);refine aGd ⟨x',rfl,aGd (q h2 ?_ k2)⟩;rw[g2];simp[lT,rawInt]
theorem zG{tp:Addr}{ns:List Nat}{Q:Option Value->Shared->Prop}(hh:A.handled=none)(hit:s.heap.get? it=some (lT (.ref tp) i a es.size ep))(ho:s.heap.get? a=some o)(hd:o.data= .set es ep t)(hf:t.fits es.size=true)
  (htp:s.heap.IsTuple tp (ns.map λ(k:Nat)=>rawInt k).toArray) (hns:ns[i]? =none)
  (q:∀h',Heap.ExtBut it s.heap h' ->Q none {s with heap:=h'}):wpAny (model prog w) A (pyNext (.ref it)) Q E s:=by
 have ht:s.TypeIs (.ref it) "set_iterator":=⟨_,hit,rfl⟩
 obtain⟨ot,hot,_,nt,hdt⟩:=htp;unfold pyNext;refine aGb (aHy (aH2 (name:=Str.ofString "__next__") ht slot_next (aGw slot_next ht entry_next ?_ (args_next _))));unfold Builtin.«set_iterator.__next__»;refine aGb (m:=slotArgs "__next__" 0 _) (aGd ?_);refine aGb (aIx hit rfl ?_);dsimp only;refine aGb (aIk ho hd hf ?_);rw[if_neg (show ¬(((es.size:Int) !=(es.size:Int))=true) by simp)];refine aGb (aHc hot hdt ?_);dsimp only;have e1:(ns.map λ(k:Nat)=>rawInt k).toArray[(i:Int).toNat]? =none:=by simpa using hns
 rw[e1];dsimp only;refine aGb (aH8 hit (by simp) λh1 g1 k1=>?_);refine aGb (aH8 g1 (by simp) λh2 g2 k2=>?_);exact wV (B:=A.in1) (s:={s with heap:=h2}) (show A.in1.handled=none from hh) λh' k=>q h' λb u hb e=>k b u (((k1.trans k2).2 b hb).trans e)
end
theorem oA{α:Type}:∀{xs:List α} {i:Nat} (h:i<xs.length),(xs[i]::xs.eraseIdx i).Perm xs
 | x::xs,0,h=>.refl _
 | x::xs,i+1,h=>by
  simp only[List.getElem_cons_succ,List.eraseIdx_cons_succ];exact(List.Perm.swap x _ _).trans ((oA (by simpa using h)).cons x)
section
variable {M:Model}{A:Around}{E:aKe}
theorem xX{α:Type}:∀(n:Nat) (xs:List α) (s:Shared) (Q:List α->Shared->Prop),xs.length<=n->(∀ys d,ys.Perm xs->Q ys {s with drawn:=d})->wpAny M A (drawOrder n xs) Q E s
 | 0,[],s,Q,_,h=>by unfold drawOrder;exact aGd (h [] s.drawn (.refl _))
 | 0,x::xs,s,Q,hl,h=>by simp at hl
 | n+1,[],s,Q,_,h=>by unfold drawOrder;exact aGd (h [] s.drawn (.refl _))
 | n+1,x::xs,s,Q,hl,h=>by
  unfold drawOrder;refine aGb ?_;have hpos:0<(x::xs).length:=by simp
  refine(λΓ p hΓ=>⟨by simp,?_⟩:wpAny M A (choose .order (x::xs).length) _ E s);have hi:M.w.draws .order (s.drawn.get .order) % (x::xs).length<(x::xs).length:=Nat.mod_lt _ hpos;generalize M.w.draws .order (s.drawn.get .order) % (x::xs).length=i at hi;revert Γ p hΓ;show wpAny M A _ _ E _;refine aGd ?_;rw[List.getElem?_eq_getElem hi];dsimp only;refine aGb (xX n ((x::xs).eraseIdx i) _ _ (by rw[List.length_eraseIdx_of_lt hi];simp at hl⊢;lia) λys d hy=>aGd (h _ d ?_));exact(hy.cons _).trans (oA hi)
end
theorem xE{α:Type}(next:Nat->Nat):∀(fuel k:Nat) (left:List α) (out:Array α),left.length<=fuel->(pickOrder.go next fuel k left out).toList.Perm (out.toList++left)
 | 0,k,left,out,h=>by
  have:left=[]:=aHu.mp (by lia);subst this;simp[pickOrder.go]
 | fuel+1,k,[],out,h=>by simp[pickOrder.go]
 | fuel+1,k,x::xs,out,h=>by
  unfold pickOrder.go
  have hi:next k % (x::xs).length<(x::xs).length:=Nat.mod_lt _ (by simp)
  rw[List.getElem?_eq_getElem hi];dsimp only
  generalize next k % (x::xs).length=i at hi
  have:=xE next fuel (k+1) ((x::xs).eraseIdx i) (out.push (x::xs)[i]) (by rw[List.length_eraseIdx_of_lt hi];simp at h⊢;lia)
  refine this.trans ?_;simp only[Array.toList_push,List.append_assoc,List.singleton_append];exact(oA hi).append_left _
theorem uH{α:Type}(next:Nat->Nat)(xs:Array α):(pickOrder next xs).toList.Perm xs.toList:=by
 unfold pickOrder
 have:=xE next xs.size 0 xs.toList #[] (by simp)
 simpa using this
section
variable {prog:Program}{w:World}{A:Around}{E:aKe}{s:Shared}{a:Addr}{ep:Nat}{o:Obj}{es:Array (Int×Value)}{t:SetTable}
theorem mS{Q:Bool->Shared->Prop}(h:Q (w.params.followText "set-order") s):wpAny (model prog w) A setsByText Q E s:=by
 unfold setsByText;exact aGb (aJm (aGd h))
def tU(t:SetTable):Nat->Nat
 | 0=>0
 | i+1=>t.place.getD i 0+1
theorem FR{l:Bool}(ht:r6 l t){i:Nat}(hi:i<=t.place.size):below t.place (tU t i)=i:=by
 cases i with
 | zero=>exact FQ ht.ris
 | succ i=>
  have:t.place.getD i 0=t.place[i]'(by lia):=by simp[Array.getD,show i<t.place.size by lia]
  show below t.place (t.place.getD i 0+1)=i+1;rw[this];exact FT ht.ris (by lia)
theorem JR(hf:t.fits es.size=true):t.place.size=es.size:=by
 simp only[SetTable.fits,Bool.and_eq_true,beq_iff_eq]at hf;exact hf.1
theorem EO{l:Bool}{i:Nat}{Q:Option (Value×Nat)->Shared->Prop}(ho:s.heap.get? a=some o)(hd:o.data= .set es ep t)(hf:t.fits es.size=true)(ht:r6 l t)(hb:w.params.followText "set-order"=false)(hl:l=true)
  (hp:(!t.plain && decide (es.size > 1))=false) (hi:i<=es.size) (q:Q ((es[i]?).map λe=>(e.2,tU t (i+1))) s):wpAny (model prog w) A (setNext a (tU t i) i ep) Q E s:=by
 have hs:=JR hf;unfold setNext;refine aGb (aIj ho hd hf ?_);dsimp only;refine aGb (mS ?_);rw[hb,if_neg Bool.false_ne_true];have e1:(if (!t.plain && decide (es.size > 1))=true then (unsupported "set_iterator.__next__:the-table-is-plain-no-more":Sem Unit) else pure ())=pure ():=by rw[hp];rfl
 show wpAny _ _ (if (!t.plain && decide (es.size > 1))=true then _ else _) Q E s;rw[hp,if_neg Bool.false_ne_true];have hled:t.led=true:=by rw[ht.led,hl]
 refine aGb ?_;show wpAny _ _ (if (!t.led && !es.isEmpty)=true then _ else _) _ E s;rw[hled];simp only[Bool.not_true,Bool.false_and,Bool.false_eq_true,if_false];refine aGd ?_;rw[FR ht (by lia)];by_cases h:i<es.size
 ·have e2:es[i]? =some es[i]:=by simp[h]
  have e3:t.place[i]? =some (t.place[i]'(by lia)):=by simp[show i<t.place.size by lia]
  rw[e2]at q⊢;rw[e3];have e4:t.place.getD i 0=t.place[i]'(by lia):=by simp[Array.getD,show i<t.place.size by lia]
  simp only[tU,e4,Option.map_some]at q;exact aGd q
 ·have e2:es[i]? =none:=by simp;lia
  rw[e2]at q⊢;exact aGd q
theorem IU{i:Nat}{Q:Option (Value×Nat)->Shared->Prop}(ho:s.heap.get? a=some o)(hd:o.data= .set es ep t)(hf:t.fits es.size=true)(hb:w.params.followText "set-order"=true)
  (q:Q (((pickOrder (w.params.setOrder a ep) es)[i]?).map λe=>(e.2,0)) s):wpAny (model prog w) A (setNext a 0 i ep) Q E s:=by
 unfold setNext;refine aGb (aIj ho hd hf ?_);dsimp only;refine aGb (mS ?_);rw[hb,if_pos rfl];rw[if_neg (by simp)];refine aGb ?_;unfold setWalk;refine aGb (aIj ho hd hf ?_);dsimp only;refine aGb (mS ?_);rw[hb,if_pos rfl];refine aGb (aJm ?_);exact aGd (aGd q)
end
theorem vZ:entryFor table "set_iterator.__iter__"=some Builtin.«dict_keyiterator.__iter__»:=
 entryFor_alias (id' := "dict_keyiterator.__iter__") (by kernel_rfl) rfl (by decide+kernel) (by kernel_rfl)
theorem AV(a:Value):argsOk "set_iterator.__iter__" ⟨[a],[]⟩:=by
 unfold argsOk;rw[signature?_of (id:= "set_iterator.__iter__") (n:= "__reti__".toList) (o:= "rotareti_tes".toList) (by kernel_rfl) BU];kernel_rfl
theorem xA{α:Type}:∀l:List α,(List.range l.length).filterMap (λk=>l[k]?)=l
 | []=>rfl
 | x::l=>by
  have:=xA l;rw[List.length_cons,List.range_succ_eq_map,List.filterMap_cons];simp only[List.getElem?_cons_zero,List.filterMap_map,Function.comp_def,List.getElem?_cons_succ];rw[this]
section
variable {prog:Program}{w:World}{A:Around}{E:aKe}{s:Shared}
theorem xN{it a:Addr}{first:Value}{i n ep:Nat}{Q:aKe}(hit:s.heap.get? it=some (lT first i a n ep))(h:Q (.ref it) s):wpAny (model prog w) A (pyIter (.ref it)) Q E s:=by
 have ht:s.TypeIs (.ref it) "set_iterator":=⟨_,hit,rfl⟩
 refine aIu ht wX (aGw wX ht vZ ?_ (AV _));show wpAny _ _ (ret (.ref it)) _ _ s;exact aGd ⟨_,rfl,"set_iterator",_,ht,slot_next.lookup,h⟩
theorem A6(hh:A.handled=none){it a:Addr}(hne:a≠it){o:Obj}{es:Array (Int×Value)}{ep:Nat}{t:SetTable}(hd:o.data= .set es ep t)(hf:t.fits es.size=true)(sl:Nat->Nat)(vs:List Value)(hlen:vs.length=es.size)
  (hN:∀(i:Nat),i<=es.size->∀(s:Shared),s.heap.get? a=some o->∀(A:Around) (E:aKe) (Q:Option (Value×Nat)->Shared->Prop),Q ((vs[i]?).map λv=>(v,sl (i+1))) s->wpAny (model prog w) A (setNext a (sl i) i ep) Q E s):
  Walks prog w A it [it,a] [it] vs.length (λi v=>vs[i]? =some v) (λi h=>i<=es.size/\h.get? it=some (lT (.int (sl i) 0) i a es.size ep)/\h.get? a=some o) where
 sub:=λb hb=>by simp at hb;simp[hb]
 frame:=λ_ _ _ st hk=>⟨st.1,hk it (by simp) _ st.2.1,hk a (by simp) _ st.2.2⟩
 item:=λi s Q E hi st hQ=>by
  have e:vs[i]? =some vs[i]:=by simp[hi]
  refine MS (x:=vs[i]) (nx:=sl (i+1)) st.2.1 st.2.2 hd hf (λA E Q q=>hN i st.1 s st.2.2 A E Q (by rw[e];exact q)) λh' g k=>?_;refine hQ _ h' s.toks e ⟨by lia,g,(k.2 a hne).trans st.2.2⟩ λb u hb e=>(k.2 b (by simpa using hb)).trans e
 done:=λs Q E st hQ=>by
  rw[hlen]at st;refine zH hh st.2.1 st.2.2 hd hf (λA E Q q=>hN es.size (aGi _) s st.2.2 A E Q (by rw[List.getElem?_eq_none (by lia)];exact q)) λh' k=>?_;exact hQ h' s.toks λb u hb e=>k b u (by simpa using hb) e
 self:=λ_ _ _ _ st hQ=>xN st.2.1 hQ
theorem K2(hh:A.handled=none){it a tp:Addr}(hne:a≠it)(hnt:tp≠it){o:Obj}{es:Array (Int×Value)}{ep:Nat}{t:SetTable}(hd:o.data= .set es ep t)(hf:t.fits es.size=true)(ns:List Nat)(vs:List Value)(hlen:ns.length=vs.length)
  (hx:∀(i pl:Nat),ns[i]? =some pl->(es[pl]?).map (·.2)=vs[i]?):
  Walks prog w A it [it,a,tp] [it] vs.length (λi v=>vs[i]? =some v) (λi h=>h.get? it=some (lT (.ref tp) i a es.size ep)/\h.get? a=some o/\h.IsTuple tp (ns.map λ(k:Nat)=>rawInt k).toArray) where
 sub:=λb hb=>by simp at hb;simp[hb]
 frame:=λ_ _ _ st hk=>⟨hk it (by simp) _ st.1,hk a (by simp) _ st.2.1,st.2.2.at λo e=>hk tp (by simp) o e⟩
 item:=λi s Q E hi st hQ=>by
  have e:vs[i]? =some vs[i]:=by simp[hi]
  have hin:i<ns.length:=by lia
  have en:ns[i]? =some ns[i]:=by simp[hin]
  refine MR (x:=vs[i]) st.1 st.2.1 hd hf st.2.2 en (by rw[hx i _ en,e]) λh' g k=>?_;refine hQ _ h' s.toks e ⟨g,(k.2 a hne).trans st.2.1,st.2.2.extBut k.extBut hnt⟩ λb u hb e=>(k.2 b (by simpa using hb)).trans e
 done:=λs Q E st hQ=>by
  refine zG hh st.1 st.2.1 hd hf st.2.2 (by rw[List.getElem?_eq_none (by lia)]) λh' k=>?_;exact hQ h' s.toks λb u hb e=>k b u (by simpa using hb) e
 self:=λ_ _ _ _ st hQ=>xN st.1 hQ
end
section
variable {prog:Program}{w:World}{K:Type}[DecidableEq K]{knd:KeyKind prog w K}{A:Around}{E:aKe}{s:Shared}
def Z9(knd:KeyKind prog w K)(ks:List K)(vs:List Value):Prop:=∃ps:List (K×Value),ps.map (·.2)=vs/\(ps.map (·.1)).Perm ks/\∀p∈ps,knd.is p.1 p.2=true
theorem Es.ZY{es:Array (Int×Value)}{ks:List K}(h:Es knd es ks){l:List (Int×Value)}(p:l.Perm es.toList):Z9 knd ks (l.map (·.2)):=by
 obtain⟨ps,h1,h2,h3⟩:=h;obtain⟨ps',p1,p2⟩:=rO (·.2) p ps h1.symm;refine⟨ps'.map λp=>(p.1,p.2.2),by rw[<-p2];simp,?_,λp hp=>?_⟩
 ·have:=(p1.map (·.1)).trans h2;simpa[Function.comp_def] using this
 ·obtain⟨q,hq,rfl⟩:=aGm.mp hp;exact(h3 q (p1.mem_iff.mp hq)).1
structure ItS(prog:Program)(w:World)(knd:KeyKind prog w K)(ks:List K)(a:Addr)(s s2:Shared)(I:Addr):Prop where
 kept:∀b u,s.heap.get? b=some u->s2.heap.get? b=some u
 new:s.heap.objs.size<=I
 same:s2.gens=s.gens/\s2.os=s.os/\s2.toks=s.toks
 walk:∃(fp:List Addr) (St:Nat->Heap->Prop) (vs:List Value),(∀A:Around,A.handled=none->Walks prog w A I fp [I] vs.length (λi v=>vs[i]? =some v) St)/\St 0 s2.heap/\(∀b∈fp,(b=a\/s.heap.objs.size<=b)/\b<s2.heap.objs.size)/\Z9 knd ks vs
theorem NP{a:Addr}{ks:List K}{Q:aKe}(hS:hJ knd (iG w) s.heap a ks)(h:∀I s2,ItS prog w knd ks a s s2 I->Q (.ref I) s2):wpAny (model prog w) A (pyIter (.ref a)) Q E s:=by
 have hT:=hS.typeIs;obtain⟨o,es,ep,t,ho,hex,hd,he,nd,hb,hf,ht⟩:=hS;have hlt:=aGl ho;refine aIu hT F.slot_set_iter (aGw F.slot_set_iter hT u5 ?_ (F.args_set_iter_1 _));unfold Builtin.«frozenset.__iter__»;refine aGb (m:=Builtin.Frozenset.slot0 "__iter__" _) (aGd ?_);refine aGb ?_;unfold Builtin.Frozenset.sizeOf;refine aGb (aIk ho hd hf (aGd ?_));refine aGb ?_;unfold setDrawn;refine aGb (aIj ho hd hf ?_);dsimp only;refine aGb (mS (aGd ?_));show wpAny _ _ (if (!w.params.followText "set-order" && (!t.plain && decide (es.size > 1)))=true then _ else _) _ _ s;have hn:=he.size;by_cases hdr:(!w.params.followText "set-order" && (!t.plain && decide (es.size > 1)))=true
 ·rw[if_pos hdr];refine aGb (xX es.size (List.range es.size) s _ (by simp) λns d hp=>?_)
  have hsz:(ns.map λ(i:Nat)=>rawInt i).length<=sizeLine:=by
   have:=hp.length_eq;have:=fits_of_scanBound hb;simp at*;lia
  refine aGb (aIw ?_ hsz);dsimp only;refine aGb (m:=setEpoch a) (wpAny_setEpoch_of (o:=o) (aGe _ ho) hd hf ?_);refine aGb (m:=newFields "set_iterator" _) (aH3 ?_ (by size_fits));refine aGd ⟨_,rfl,"set_iterator",_,⟨_,aGj _ rfl,rfl⟩,slot_next.lookup,?_⟩;refine h _ _ ⟨λb u e=>aGe _ (aGe _ e),by simp[Heap.size_push],⟨rfl,rfl,rfl⟩,?_⟩;have hvs:∀k∈ns,k<es.size:=λk hk=>by simpa using hp.mem_iff.mp hk
  have pe:(ns.filterMap λk=>es[k]?).Perm es.toList:=by
   have h1:=hp.filterMap λk=>es[k]?;have h2:(List.range es.size).filterMap (λk=>es[k]?)=es.toList:=by simpa using xA es.toList
   rw[h2]at h1;exact h1
  have elen:(ns.filterMap λk=>es[k]?).length=ns.length:=by
   have:=pe.length_eq;have:=hp.length_eq;simp at*;lia
  have eget:∀(ns:List Nat),(∀k∈ns,k<es.size)->∀(i pl:Nat),ns[i]? =some pl->es[pl]? =(ns.filterMap λk=>es[k]?)[i]? :=by
   intro ns
   induction ns with
   | nil=>intro _ i pl hi;simp at hi
   | cons k ns ih=>
    intro hv i pl hi;have hk:=hv k (by simp)
    cases i with
    | zero=>simp at hi;subst hi;simp[hk]
    | succ i=>
     simp at hi;rw[ih (λj hj=>hv j (by simp[hj])) i pl hi];simp[hk]
  refine⟨_,_,(ns.filterMap λk=>es[k]?).map (·.2),λA hh=>K2 (tp:=s.heap.objs.size) hh ?_ ?_ hd hf ns _ (by simp[elen]) λi pl hi=>by rw[eget ns hvs i pl hi,List.getElem?_map],⟨aGj _ rfl,aGe _ (aGe _ ho),?_⟩,?_,he.ZY pe⟩
  ·rw[Heap.size_push];exact aGu (aHi hlt)
  ·rw[Heap.size_push];exact aGu (aI1 _)
  ·exact⟨_,aGe _ (aGj _ rfl),rfl,_,rfl⟩
  ·intro b hb;simp only[List.mem_cons,List.not_mem_nil,or_false]at hb;simp only[Heap.size_push];rcases hb with rfl | rfl | rfl
   ·exact⟨.inr (by simp only[Heap.size_push];exact aK8 _),by simp only[Heap.size_push];exact aI1 _⟩
   ·exact⟨.inl rfl,aHi (aHi hlt)⟩
   ·exact⟨.inr (aGi _),aHi (aI1 _)⟩
 ·rw[if_neg hdr];refine aGb (aGd ?_);refine aGb (m:=setEpoch a) (wpAny_setEpoch_of ho hd hf ?_);refine aGb (m:=newFields "set_iterator" _) (aH3 ?_ (by size_fits));refine aGd ⟨_,rfl,"set_iterator",_,⟨_,aGj _ rfl,rfl⟩,slot_next.lookup,?_⟩;refine h _ _ ⟨λb u e=>aGe _ e,aGi _,⟨rfl,rfl,rfl⟩,?_⟩;have hne:a≠s.heap.objs.size:=aGu hlt
  cases hbt:w.params.followText "set-order" with
  | true=>
   have pe:=uH (w.params.setOrder a ep) es;refine⟨_,_,(pickOrder (w.params.setOrder a ep) es).toList.map (·.2),λA hh=>A6 hh hne hd hf (λ_=>0) _ (by have:=pe.length_eq;simp at*;lia) λi hi s' hs A E Q q=>IU hs hd hf hbt (by simpa[Function.comp_def] using q),⟨by lia,aGj _ rfl,aGe _ ho⟩,?_,he.ZY pe⟩;intro b hb;simp only[List.mem_cons,List.not_mem_nil,or_false]at hb;simp only[Heap.size_push];rcases hb with rfl | rfl
   ·exact⟨.inr (aGi _),aI1 _⟩
   ·exact⟨.inl rfl,aHi hlt⟩
  | false=>
   have hp:(!t.plain && decide (es.size > 1))=false:=by
    rw[hbt]at hdr;simpa using hdr
   refine⟨_,_,es.toList.map (·.2),λA hh=>A6 hh hne hd hf (tU t) _ (by simp) λi hi s' hs A E Q q=>EO hs hd hf ht hbt (by simp[iG,hbt]) hp hi (by simpa[Function.comp_def] using q),⟨by lia,aGj _ rfl,aGe _ ho⟩,?_,he.ZY (.refl _)⟩;intro b hb;simp only[List.mem_cons,List.not_mem_nil,or_false]at hb;simp only[Heap.size_push];rcases hb with rfl | rfl
   ·exact⟨.inr (aGi _),aI1 _⟩
   ·exact⟨.inl rfl,aHi hlt⟩
end
open PySem.Calls
section
variable {prog:Program}{w:World}{K:Type}[DecidableEq K]{knd:KeyKind prog w K}{A:Around}{E:aKe}{s:Shared}{a:Addr}{ks:List K}
theorem NW{Q:Bool->Shared->Prop}(hT:s.TypeIs (.ref a) "set")(h:Q false s):wpAny (model prog w) A (Builtin.List.listLengthHint (.ref a)) Q E s:=by
 unfold Builtin.List.listLengthHint;refine aGb (aJu hT PySem.F.slot_set_len.lookup ?_);generalize hid:("set.__len__":String)=id0
 wp_delta
 rw[show splitId id0=some ("set","__len__") from by subst hid;decide+kernel];subst hid;refine aGb (aJ0 (T:= "set") (b:=true) hT (by rw[isSubtype_type];kernel_rfl) ?_);refine aJv (λhab=>absurd hab (by decide)) (λ_=>?_);refine aJv (λ_=>?_) (λhab=>absurd (by decide+kernel) hab);refine aGb (aI7 hT ?_);exact aGd h
theorem NQ{vs:List Value}{acc:Array Value}(h:ItemsOf (λi v=>vs[i]? =some v) acc vs.length):acc=vs.toArray:=by
 apply Array.ext_getElem?;intro i;by_cases hi:i<vs.length
 ·have NY:i<acc.size:=by rw[h.1];exact hi
  have:=h.2 i acc[i] (by simp[NY]);simp[NY,this]
 ·simp[hi,h.1]
theorem D8{R:Result->Shared->Prop}(hS:hJ knd (iG w) s.heap a ks)(hh:A.handled=none)(S:Addr)(hSa:S≠a)(res:Value)(c₀:Nat)(hSl:s.heap.get? S=some {cls:= .type "list",data:= .seq #[] c₀})
  (hR:∀(s' :Shared) (vs:List Value) (c' :Nat),Z9 knd ks vs->s'.gens=s.gens->s'.os=s.os->(∀b o,b≠S->s.heap.get? b=some o->s'.heap.get? b=some o)->s'.heap.get? S=some {cls:= .type "list",dict:=none,data:= .seq vs.toArray c',slots:= #[]}->R (.ok (.ret res)) s')
  (hn:ks.length<=sizeLine):
  wpAny (model prog w) A.in1 (Builtin.List.listExtendWith (.ref S) (.ref a) res)
   (λfin s' =>match fin with | .done f=>R (.ok f) s' | .again c' =>c'.quiet=true/\codeAny (model prog w) A c' R s') (λe s' =>R (.error e) s') s:=by
 have hSlt:=aGl hSl;unfold Builtin.List.listExtendWith;refine aGb (aI7 (T:= "set") hS.typeIs ?_);have h1:Builtin.List.listSameRef (.ref S) (.ref a)=false:=by simp[Builtin.List.listSameRef,hSa]
 have h2:(Value.type "set"==Value.type "list")=false:=by decide
 have h3:(Value.type "set"==Value.type "tuple")=false:=by decide
 simp only[h1,h2,h3,Bool.or_false,Bool.false_eq_true,if_false];refine aGb (NP hS λI s2 it=>?_);obtain⟨fp,St,vs,W,st,hfp,ZY⟩:=it.walk
 have hlen:vs.length=ks.length:=by
  obtain⟨ps,e1,e2,_⟩:=ZY;have:=aHk List.length e1;have:=e2.length_eq;simp at*;lia
 have hSf:S∉fp:=λhm=>by
  rcases(hfp S hm).1 with z | z
  ·exact hSa z
  ·exact absurd hSlt (Nat.not_lt.mpr z)
 have key:∀(h:Heap) (c₁ tk:Nat),St 0 h->(∀b o,b≠S->s.heap.get? b=some o->h.get? b=some o)->
   h.get? S=some {cls:= .type "list",data:= .seq #[] c₁}->codeAny (model prog w) A (.builtin "list.extend.loop" ⟨[.ref S,.ref I,res],[]⟩) R {s2 with heap:=h,toks:=tk}:=by
  intro h c₁ tk hst hk hS₁;refine codeAny_extend_loopS (W A.in1 hh).toS (by lia) S hSf res vs.length 0 _ #[] c₁ rfl (aHp _) hst hS₁ (ItemsOf.nil _) λs' acc' c' hm hS' hacc=>?_;rw[NQ hacc]at hS';refine hR s' vs c' ZY (hm.gens.trans it.same.1) (hm.os.trans it.same.2.1) (λb o hb e=>hm.heap b o (λhmem=>?_) (hk b o hb e)) hS';rcases aGk.mp hmem with e' | hmem
  ·exact hb e'
  ·rw[List.mem_singleton.mp hmem]at e;exact absurd (aGl e) (Nat.not_lt.mpr it.new)
 have hS₁:=it.kept _ _ hSl;have hSet2:hJ knd (iG w) s2.heap a ks:=hS.keep λo e=>it.kept _ _ e;refine aGb (aH7 (NW hSet2.typeIs ?_));refine aJv (λ_=>?_) (λ_=>aGd ⟨aI2 PySem.F.plain_extend_loop _,key s2.heap c₀ s2.toks st (λb o _ e=>it.kept _ _ e) hS₁⟩);refine aGb (aHg ?_);refine aGb ?_;show wpAny _ _ (updateSeq S (·.push .none) >>=λ_=>updateSeq S (·.pop)) _ _ _;refine aGb (aHq hS₁ rfl ?_);have hS₂:=aHf (Obj.mapSeq (·.push Value.none)) hS₁ rfl;refine aHq (hz:=by seq_fits) hS₂ rfl ?_;have hS₃:=aHf (Obj.mapSeq (·.pop)) hS₂ rfl;refine aGd ⟨aI2 PySem.F.plain_extend_loop _,key _ _ s2.toks ?_ (λb o hb e=>?_) hS₃⟩
 ·refine(W A.in1 hh).frame 0 _ _ st λb hb o e=>?_;have hbS:b≠S:=λh=>hSf (h▸hb);exact(aH9 _ _ (aHh hbS)).trans ((aH9 _ _ (aHh hbS)).trans e)
 ·exact(aH9 _ _ (aHh hb)).trans ((aH9 _ _ (aHh hb)).trans (it.kept _ _ e))
theorem BH{R:List Value->Shared->Prop}(hS:hJ knd (iG w) s.heap a ks)(hh:A.handled=none)(hn:ks.length<=sizeLine)
  (h:∀(s' :Shared) (vs:List Value),Z9 knd ks vs->s'.gens=s.gens->s'.os=s.os->(∀b o,s.heap.get? b=some o->s'.heap.get? b=some o)->R vs s'):
  wpAny (model prog w) A (collect (.ref a)) R E s:=by
 have hlt:a<s.heap.objs.size:=by obtain⟨o,_,_,_,ho,_⟩:=hS;exact aGl ho
 unfold collect;refine aGb (wpAny_runValue (aHn PySem.F.entry_proto_collect ?_));rw[Around.under_plainId PySem.F.plain_proto_collect _];show wpAny _ A.in1 (newList [] >>=λl=>again (.builtin "list.__iadd__" ⟨[l,.ref a],[]⟩)) _ _ s;refine aGb (aH3 ?_);refine aGd ⟨aI2 PySem.F.plain_list_iadd _,aHn PySem.F.entry_list_iadd ?_⟩;rw[Around.under_plainId PySem.F.plain_list_iadd _];have hS₁:(s.heap.push {cls:= .type "list",data:= .seq ([]:List Value).toArray}).get? s.heap.objs.size=some {cls:= .type "list",data:= .seq #[]}:=aGj _ rfl;show wpAny _ A.in1 (Builtin.List.listExtendWith (.ref s.heap.objs.size) (.ref a) (.ref s.heap.objs.size)) _ _ _
 have key:=D8 (A:=A) (s:={s with heap:=s.heap.push {cls:= .type "list",data:= .seq ([]:List Value).toArray}}) (knd:=knd) (ks:=ks)
  (R:=λ(q:Result) (s' :Shared)=>∃(vs:List Value) (c' :Nat),q= .ok (.ret (.ref s.heap.objs.size))/\Z9 knd ks vs/\s'.gens=s.gens/\s'.os=s.os/\
   (∀b o,s.heap.get? b=some o->s'.heap.get? b=some o)/\s'.heap.get? s.heap.objs.size=some {cls:= .type "list",dict:=none,data:= .seq vs.toArray c',slots:= #[]})
  (hS.keep λo e=>aGe _ e) hh s.heap.objs.size (aIz hlt) (.ref s.heap.objs.size) 0 hS₁
  (λs' vs c' hv hg ho hk hS' =>⟨vs,c',rfl,hv,hg,ho,λb o e=>hk b o (aGu (aGl e)) (aGe _ e),hS'⟩) hn
 refine aH6 key (λfin s' x=>?_) λe s' x=>?_
 ·cases fin with
  | done f=>
   obtain⟨vs,c',e,hv,hg,ho,hk,hS'⟩:=x;cases e;show wpAny _ A (load s.heap.objs.size >>=_) _ _ _;refine aGb (aK0 hS' ?_);exact aGd (by simpa using h s' vs hv hg ho hk)
  | again c₁=>
   refine⟨x.1,aIi x.2 λq s₂ y=>?_⟩;obtain⟨vs,c',rfl,hv,hg,ho,hk,hS'⟩:=y;show wpAny _ A (load s.heap.objs.size >>=_) _ _ _;refine aGb (aK0 hS' ?_);exact aGd (by simpa using h s₂ vs hv hg ho hk)
 ·obtain⟨_,_,e',_⟩:=x;cases e'
end
end ST
namespace TS
open PySem PySem.Spec PyProof.Rows L2
section
variable {prog:Program}{w:World}{A:Around}{E:aKe}{s:Shared}{lt:Value×Value->Value×Value->Bool}
theorem LF(O:Wk lt){Q:aKe}{r:Addr}{Ok:List Value->Shared->Prop}
  (coll:∀(E:aKe) (R:List Value->Shared->Prop),(∀vs s',Ok vs s' ->R vs s')->wpAny (model prog w) A.in1 (collect (.ref r)) R E s)
  (h64:∀vs s',Ok vs s' ->vs.length<4000)
  (ck:∀vs s',Ok vs s' ->∃κ,2<=vs.length->∀h' :Heap,(∀b o,s'.heap.get? b=some o->h'.get? b=some o)->
   mT prog w A.in1.in1 {s' with heap:=h'} κ lt (pairsOf vs)/\∀Q' E',Q' κ {s' with heap:=h'}->wpAny (model prog w) A.in1.in1 (keyKind' vs.toArray) Q' E' {s' with heap:=h'})
  (h:∀vs s',Ok vs s' ->∀out:List Value,out.Perm vs->out.Pairwise (λx y=>lt (y,y) (x,x)=false)->∀(h2:Heap) (ep:Nat),(∀b o,s'.heap.get? b=some o->h2.get? b=some o)->
   h2.get? s'.heap.objs.size=some (seqObj "list" out.toArray ep)->Q (.ref s'.heap.objs.size) {s' with heap:=h2}):
  wpAny (model prog w) A (call (.builtin "sorted") [.ref r]) Q E s:=by
 have zl:sizeLine=16777216:=aH1;refine aJ1 kind_sorted plain_sorted entry_sorted (args_sorted1 _) ?_;unfold Builtin.«sorted»;refine aGb (m:=checkCount "sorted" 1 1 _) (aGd ?_);refine aGb (coll _ _ λvs s' ok=>?_);have hsz:=h64 vs s' ok;obtain⟨κ,ck⟩:=ck vs s' ok;refine aGb (aK9 ?_ (by lia));have ob:(s'.heap.push (seqObj "list" vs.toArray 0)).get? s'.heap.objs.size=some (seqObj "list" vs.toArray 0):=aGj _ rfl;refine aGb (aH7 (aGw slot_list_sort ⟨_,ob,rfl⟩ entry_list_sort (D4 (κ:=κ) (s:={s' with heap:=s'.heap.push (seqObj "list" vs.toArray 0)}) O ob (by lia) (λh2 h' k=>?_) λout p1 p2=>⟨_,rfl,aGd ⟨_,rfl,?_⟩⟩) (args_list_sort _)))
 ·obtain⟨c1,c2⟩:=ck h2 h' λb o e=>k b o (aGu (aGl e)) (aGe _ e);exact⟨c1,λQ' q=>c2 Q' _ q⟩
 ·obtain⟨ep,he⟩:=sortedHeap_at (out:=out.toArray) ob;refine h vs s' ok out p1 p2 _ ep (λb o e=>?_) he;have lb:=aGl e;have hb:b<(s'.heap.push (seqObj "list" vs.toArray 0)).objs.size:=by rw[size_push'];exact aHi lb
  rw[sortedHeap_old (Nat.ne_of_lt lb) hb];exact aGe _ e
end
end TS
namespace D3
open PySem PySem.Spec PyProof.Rows L2
def KD(P:Program)(w:World)(p:Addr)(ks:List Key):HO:= .ext λh=>ST.hJ (aV P w) (ST.iG w) h p ks
theorem QG{P:Program}{w:World}{H:Hp}{h:Heap}{p:Addr}{ks:List Key}(x:ST.hJ (aV P w) (ST.iG w) h p ks):dA P w H h p (KD P w p ks):=
 ⟨x,by obtain⟨o,_,_,_,ho,_⟩:=x;exact⟨o,ho⟩,λh1 h2 q k=>q.keep λo e=>k o e⟩
section
variable {X:Cx}
theorem Inv.drawn{pins:List (Addr×Obj)}{σ:L2.St}{H:Hp}{s s' :Shared}(I:Inv X pins σ H s)(hg:s'.gens=s.gens)(ho:s'.os=s.os)(hk:∀b o,s.heap.get? b=some o->s'.heap.get? b=some o):Inv X pins σ H s' :=by
 have J:Inv X pins σ H {s with heap:=s'.heap,toks:=s'.toks}:=I.kept (t' :=s'.toks) hk;obtain⟨a1,a2,a3,a4,a5,a6,a7,a8,a9,a10,a11⟩:=J;exact⟨a1,by rw[ho];exact a2,by rw[hg];exact a3,a4,a5,a6,a7,a8,a9,a10,a11⟩
theorem wN{P:Program}{w:World}:∀{ks:List Key} {us:List Value},Vals (ks.map kV) us->ks.length=us.length/\∀(i:Nat) (v:Value),us[i]? =some v->∃k,ks[i]? =some k/\(aV P w).is k v=true/\v.scannable=true
 | [],us,r=>by cases r;exact⟨rfl,λi v h=>by simp at h⟩
 | k::ks,us,r=>by
  cases r with
  | cons a b=>
   obtain⟨e,f⟩:=wN (P:=P) (w:=w) b;refine⟨by simp[e],λi v h=>?_⟩
   cases i with
   | zero=>
    simp at h;subst h;refine⟨k,rfl,uS a,?_⟩
    cases k with
    | inl i=>obtain⟨t,rfl⟩:=a;rfl
    | inr x=>obtain⟨t,rfl⟩:=a;rfl
   | succ i=>exact f i v (by simpa using h)
theorem VQ{pins:List (Addr×Obj)}{σ:L2.St}{H:Hp}{s:Shared}{p:Addr}{ks:List Key}(I:Inv X pins σ H s)(e:H p=some (KD X.prog X.w p ks)):ST.hJ (aV X.prog X.w) (ST.iG X.w) s.heap p ks:=(I.bZ p _ e).1
theorem oS{P:Program}{w:World}{h:Heap}:∀{ps:List (Key×Value)},(∀p∈ps,(aV P w).is p.1 p.2=true)->eN h (ps.map λp=>bC p.1) (ps.map (·.2))
 | [],_=>by simp[eN]
 | p::ps,hp=>by
  simp only[List.map_cons];unfold eN;refine⟨_,_,rfl,?_,oS λq hq=>hp q (aGg _ hq)⟩;have:=hp p aGf
  rcases bQ (k:=p.1) (v:=p.2) this with ⟨i,t,e1,e2⟩ | ⟨x,t,e1,e2⟩
  ·rw[e1,e2];simp only[bC];unfold Vl;exact⟨t,rfl⟩
  ·rw[e1,e2];simp only[bC];unfold Vl;exact⟨t,rfl⟩
theorem K9{ds es:List D}(U:KN ds)(p:es.Perm ds):KN es:=by
 rcases U with ⟨c,h⟩ | ⟨c,cs,h⟩
 ·exact .inl ⟨c,λd hd=>h d (p.mem_iff.mp hd)⟩
 ·exact .inr ⟨c,cs,λd hd=>h d (p.mem_iff.mp hd)⟩
theorem vE(hu:X.A.units+64<cLine)(hc:X.calm=true):cS X (.builtin "sorted") (λxs H Q=>∃(p:Addr) (ks:List Key),xs=[.ref p]/\H p=some (KD X.prog X.w p ks)/\ks.length<4000/\KN (ks.map bC)/\
  ∀ks' :List Key,ks'.Perm ks->(ks'.map bC).Pairwise (λd e=>lx (enc e) (enc d)=false)->∀q,H q=none->Q (.ref q) (upd H q (.lst (ks'.map kV)))):=by
 intro pins s σ H xs us Q I r q;obtain⟨p,ks,rfl,e,h64,U,q⟩:=q;obtain⟨u,rfl,ru⟩:=vals1 r;cases ru;have hS:=VQ I e;have sz:=aH1;have u2:X.A.in1.in1.units+40<cLine:=by show X.A.units+1+1+40<_;lia
 refine TS.LF (A:=X.A) (EW s.heap) (Ok:=λvs s' =>ST.Z9 (aV X.prog X.w) ks vs/\s'.gens=s.gens/\s'.os=s.os/\∀b o,s.heap.get? b=some o->s'.heap.get? b=some o)
  (λE R hR=>ST.BH (A:=X.A.in1) hS (I.ok.hd hc) (by lia) λs' vs hv hg ho hk=>hR vs s' ⟨hv,hg,ho,hk⟩) ?_ ?_ ?_
 ·rintro vs s' ⟨⟨ps,e1,e2,e3⟩,_⟩;have a1:=aHk List.length e1;have a2:=e2.length_eq;simp at a1 a2
  lia
 ·rintro vs s' ⟨⟨ps,rfl,e2,e3⟩,hg,ho,hk⟩;have vl:eN s.heap (ps.map λp=>bC p.1) (ps.map (·.2)):=oS e3;have U2:KN (ps.map λp=>bC p.1):=K9 U (by have:=e2.map bC;simpa[Function.comp_def] using this);by_cases h2:2<=(ps.map (·.2)).length
  ·obtain⟨κ,hk2⟩:=tS (prog:=X.prog) (w:=X.w) (A:=X.A.in1.in1) (s:={s' with heap:=s.heap}) u2 U2 vl h2;exact⟨κ,λ_ h' k=>hk2 h' λb o e=>k b o (hk b o e)⟩
  ·exact⟨general',λz=>absurd z h2⟩
 ·rintro vs s' ⟨⟨ps,rfl,e2,e3⟩,hg,ho,hk⟩ out p1 p2 h2 ep kept he;obtain⟨ps',p3,p4⟩:=lN (·.2) p1 ps rfl;have h4:∀p∈ps',(aV X.prog X.w).is p.1 p.2=true:=λp hp=>e3 p (p3.mem_iff.mp hp);have I0:Inv X pins σ H s' :=Inv.drawn I hg ho hk;have pk:(ps'.map (·.1)).Perm ks:=(p3.map _).trans e2
  have pw:((ps'.map (·.1)).map bC).Pairwise (λd e=>lx (enc e) (enc d)=false):=by
   rw[<-p4]at p2;rw[List.pairwise_map]at p2;rw[List.pairwise_map,List.pairwise_map];refine p2.imp_of_mem λ{t t'} m m' hh=>?_
   have v1:Vl s.heap (bC t.1) t.2:=by
    have:=oS (h:=s.heap) (ps:=[t]) (P:=X.prog) (w:=X.w) λq hq=>by simp at hq;subst hq;exact h4 _ m
    simp only[List.map_cons,List.map_nil]at this;unfold eN at this;obtain⟨u,r,e,v,_⟩:=this;cases e;exact v
   have v2:Vl s.heap (bC t'.1) t'.2:=by
    have:=oS (h:=s.heap) (ps:=[t']) (P:=X.prog) (w:=X.w) λq hq=>by simp at hq;subst hq;exact h4 _ m'
    simp only[List.map_cons,List.map_nil]at this;unfold eN at this;obtain⟨u,r,e,v,_⟩:=this;cases e;exact v
   unfold ltV at hh;rw[nQ v1,nQ v2]at hh;exact hh
  have ln:((ps'.map (·.1)).map kV).length<=sizeLine:=by have:=pk.length_eq;simp at*;lia
  have vv:Vals ((ps'.map (·.1)).map kV) out:=by
   rw[<-p4];clear p3 p4 pk pw ln
   induction ps' with
   | nil=>exact .nil
   | cons p ps' ih=>exact .cons (BK (h4 p aGf)) (ih λq hq=>h4 q (aGg _ hq))
  have I1:Inv X pins σ (upd H s'.heap.objs.size (.lst ((ps'.map (·.1)).map kV))) {s' with heap:=h2}:=
   I0.laid (h' :=h2) (t' :=s'.toks) kept (aGi _) ⟨ln,out,ep,vv,he⟩
  exact⟨.ref s'.heap.objs.size,_,I1,rfl,q _ pk pw _ (I0.bZ.fresh (aGi _))⟩
end
theorem EN{ks:List Key}(h:ks.Nodup)(k:Key):(ST.mY ks k).Nodup:=by
 unfold ST.mY;split
 ·exact h
 ·rename_i hk;rw[List.nodup_append];exact⟨h,by simp,λa ha b hb=>by simp at hb;subst hb;exact λz=>hk (z▸ha)⟩
theorem jK:∀{xs ks:List Key},ks.Nodup->(ST.bR ks xs).Nodup
 | [],ks,h=>h
 | x::xs,ks,h=>jK (xs:=xs) (EN h x)
def W7:Expr->Bool
 | .Starred .. =>false
 | _=>true
def IT:List Expr->Bool
 | []=>true
 | e::es=>W7 e && IT es
theorem tP{e:Expr}{es:List Expr}{env:Env}(h:W7 e=true):starEach (e::es) env=(false,eval e env)::starEach es env:=by
 cases e <;> first | rfl | (simp[W7]at h)
theorem oW{pos:Pos}{env:Env}:∀{es:List Expr},IT es=true->(backTo pos (starEach es env)).any (·.1)=false
 | [],_=>rfl
 | e::es,h=>by
  unfold IT at h;rw[Bool.and_eq_true]at h;rw[tP h.1];show (false || (backTo pos (starEach es env)).any (·.1))=false;rw[oW h.2];rfl
section
variable {X:Cx}{e:Expr}{es:List Expr}{w:WE}{wr wa:WA}{pos p:Pos}{x:Str}
theorem aFm(ha:LE X e w)(hr:LA X es wr)(h:W7 e=true:=by rfl):LA X (e::es) (aA w wr):=SN ha hr (tP h)
theorem aCa{k:Nat}{ps:List Str}{s:OA}(F:Fn X.prog X.w X.K X.mg X.base k x ps s)(hr:fR k X.A)(ha:LA X (e::es) wr)(hg:Gl X x:=by rfl)(hdb:(x==("__debug__":Str))=false:=by decide)
  (h:W7 e=true:=by rfl) (h2:IT es=true:=by rfl):LE X (.Call (.Name x p) (e::es) [] pos) (aG s wr):=NG F hr ha hg hdb (tP h) (oW h2)
theorem E2{id:String}{f:OA}(hc:cS X (.builtin id) (fN X.K f))(hm:X.mg x=none)(hv:bootBuiltins x=some (.builtin id))(ha:LA X (e::es) wr)(hg:Gl X x:=by rfl)(hn:x≠ "__name__":=by decide)(hdb:(x==("__debug__":Str))=false:=by decide)
  (h:W7 e=true:=by rfl) (h2:IT es=true:=by rfl):LE X (.Call (.Name x p) (e::es) [] pos) (aG f wr):=aCb hc hm hv ha hg hn hdb (tP h) (oW h2)
theorem aFl{T:String}{f:OA}(hc:cS X (.type T) (fN X.K f))(hm:X.mg x=none)(hv:bootBuiltins x=some (.type T))(ha:LA X (e::es) wr)(hg:Gl X x:=by rfl)(hn:x≠ "__name__":=by decide)(hdb:(x==("__debug__":Str))=false:=by decide)
  (h:W7 e=true:=by rfl) (h2:IT es=true:=by rfl):LE X (.Call (.Name x p) (e::es) [] pos) (aG f wr):=aC9 hc hm hv ha hg hn hdb (tP h) (oW h2)
end
def GW:Expr->Bool
 | .ListComp .. =>false
 | .SetComp .. =>false
 | .DictComp .. =>false
 | _=>true
theorem BE{e:Expr}{t:Option Expr}{l:Nat}{env:Env}(h:GW e=true):swapsWith e t l env=pure false:=by
 cases e <;> first | rfl | (simp[GW]at h)
section
variable {X:Cx}{e:Expr}{w:WE}{pos:Pos}
theorem aFf(i:Nat){x:Str}{pos' :Pos}(hN:X.N.Nodup)(he:LE X e w)(hi:X.N[i]? =some x:=by rfl)(hx:Loc X.env.scope x:=by first | exact Or.inl rfl | exact Or.inr rfl)(hs:GW e=true:=by rfl)(hf:X.fn x=true\/X.env.scope.names.lookup x=some .local:=by first | exact .inl rfl | exact .inr rfl | assumption):
  LS X (.Assign [.Name x pos'] e pos) (bS w (gN i)):=XM i hN he hi hx (BE hs) hf
theorem aFg(he:LE X e w)(hs:GW e=true:=by rfl):LS X (.Expr e pos) (iE w):=RW he (BE hs)
end
section
variable {prog:Program}{w:World}{A:Around}{E:aKe}{s:Shared}
theorem u4{S it:Addr}{aI:Array Value}{c:Nat}{items:Array Value}{Q:aKe}(hS:s.heap.get? S=some {cls:= .type "list",data:= .seq aI c})(ht:s.heap.IsTuple it items)
  (hlong:¬(!aI.isEmpty && Builtin.List.listTooLong (aI.size+items.size))=true) (hz:aI.size+items.size<=sizeLine)
  (h:Q .none {s with heap:=s.heap.update S (Obj.mapSeq (· ++items))}):wpAny (model prog w) A (call (.builtin "list.extend") [.ref S,.ref it]) Q E s:=by
 obtain⟨o,ho,hc,n,hd⟩:=id ht;refine aGw aJ5 ⟨_,hS,rfl⟩ PySem.F.entry_list_extend ?_ (PySem.F.args_list_extend_2 _ _);unfold Builtin.«list.extend»;refine aGb (m:=selfAndOne "list.extend" _) (aGd ?_);dsimp only;unfold Builtin.List.listExtendWith;refine aGb (aI7 ht.typeIs ?_);have h1:(Builtin.List.listSameRef (.ref S) (.ref it) || Value.type "tuple"==Value.type "list" || Value.type "tuple"==Value.type "tuple")=true:=by simp
 simp only[h1,if_true];refine aGb ?_;unfold Builtin.List.listItems;refine aGb (aHc ho hd (aGd ?_));refine aGb ?_;refine aGb (aHc hS rfl (aGd ?_));rw[if_neg hlong];refine aGb ?_;show wpAny _ _ (updateSeq S (· ++items)) _ _ _;refine aHq (hz:=by lia) (_hz' :=by simp only[Array.size_append];lia) hS rfl ?_;exact aGd ⟨_,rfl,h⟩
theorem FH{S it:Addr}{aI:Array Value}{c n:Nat}{items:Array Value}{o:Obj}{Q:aKe}(hS:s.heap.get? S=some {cls:= .type "list",data:= .seq aI c})(ho:s.heap.get? it=some o)(hc:o.cls= .type "list")(hd:o.data= .seq items n)
  (hlong:¬(!aI.isEmpty && Builtin.List.listTooLong (aI.size+items.size))=true) (hz:aI.size+items.size<=sizeLine)
  (h:Q .none {s with heap:=s.heap.update S (Obj.mapSeq (· ++items))}):wpAny (model prog w) A (call (.builtin "list.extend") [.ref S,.ref it]) Q E s:=by
 refine aGw aJ5 ⟨_,hS,rfl⟩ PySem.F.entry_list_extend ?_ (PySem.F.args_list_extend_2 _ _);unfold Builtin.«list.extend»;refine aGb (m:=selfAndOne "list.extend" _) (aGd ?_);dsimp only;unfold Builtin.List.listExtendWith;refine aGb (aI7 (T:= "list") ⟨_,ho,hc⟩ ?_);have h1:(Builtin.List.listSameRef (.ref S) (.ref it) || Value.type "list"==Value.type "list" || Value.type "list"==Value.type "tuple")=true:=by simp
 simp only[h1,if_true];refine aGb ?_;unfold Builtin.List.listItems;refine aGb (aHc ho hd (aGd ?_));refine aGb ?_;refine aGb (aHc hS rfl (aGd ?_));rw[if_neg hlong];refine aGb ?_;show wpAny _ _ (updateSeq S (· ++items)) _ _ _;refine aHq (hz:=by lia) (_hz' :=by simp only[Array.size_append];lia) hS rfl ?_;exact aGd ⟨_,rfl,h⟩
end
section
variable {X:Cx}
def MZ:OM:=λx ds mh Q=>∃n es fs,x= .ref n/\ds=[.tup fs]/\mh[n]? =some (.lst es)/\es.length+fs.length<=sizeLine/\Q .b6 (mh.set n (.lst (es++fs)))
theorem XA:MtR X "list.extend" (liftM X.K MZ):=by
 intro pins s σ H x xs v us Q I rx rs q;obtain⟨μ,mh,dx,ds,R,RR,ix,il,⟨n,es,fs,rfl,rfl,e,hz,q⟩,F⟩:=q;obtain⟨a,vs,rfl,hn,hv,l⟩:=fT RR ix e;obtain⟨z,rfl,iz⟩:=nK il;obtain⟨b,ws,rfl,sq,l2⟩:=eG iz;cases rx;obtain⟨u,rfl,ru⟩:=rs.one;cases ru;obtain⟨z1,aI,c,r,hl,ho⟩:=I.zL hv;obtain⟨its2,r2,pl,hz2⟩:=I.tuple sq;have k1:=aK l;have k2:=aK l2;have k3:=r2.length;have hsz:aI.toArray.size+its2.toArray.size<=sizeLine:=by rw[List.size_toArray,List.size_toArray];lia
 have hlong:¬(!aI.toArray.isEmpty && Builtin.List.listTooLong (aI.toArray.size+its2.toArray.size))=true:=by
  rw[pI hsz,Bool.and_false];exact aJ7
 refine u4 ho (show s.heap.IsTuple b its2.toArray from pl) hlong hsz ?_;refine⟨.b6,_,I.M8 (its' :=aI++its2) hv ho (by simp) (r.append r2) ?_,rfl,F.put RR hn (eJ l l2) q .b6⟩;rw[List.length_append]
 lia
def uO:OM:=λx ds mh Q=>∃n y es fs,x= .ref n/\ds=[y]/\mh[n]? =some (.lst es)/\bG mh y=some fs/\es.length+fs.length<=sizeLine/\Q .b6 (mh.set n (.lst (es++fs)))
theorem ES:MtR X "list.extend" (liftM X.K uO):=by
 intro pins s σ H x xs v us Q I rx rs q;obtain⟨μ,mh,dx,ds,R,RR,ix,il,⟨n,y,es,fs,rfl,rfl,e,e2,hz,q⟩,F⟩:=q;obtain⟨a,vs,rfl,hn,hv,l⟩:=fT RR ix e;obtain⟨z,rfl,iz⟩:=nK il;obtain⟨b,ws,rfl,sq,l2⟩:=yV RR iz e2;cases rx;obtain⟨u,rfl,ru⟩:=rs.one;cases ru;obtain⟨z1,aI,c,r,hl,ho⟩:=I.zL hv;have k1:=aK l;have k2:=aK l2
 have fin:∀its2:List Value,Vals ws its2->(∀{Q:aKe},aI.toArray.size+its2.toArray.size<=sizeLine->¬(!aI.toArray.isEmpty && Builtin.List.listTooLong (aI.toArray.size+its2.toArray.size))=true->Q .none {s with heap:=s.heap.update a (Obj.mapSeq (· ++its2.toArray))}->
   wpAny (model X.prog X.w) X.A (call (.builtin "list.extend") [.ref a,.ref b]) Q X.xe s)->wpAny (model X.prog X.w) X.A (call (.builtin "list.extend") [.ref a,.ref b]) (EP X pins σ Q) X.xe s:=λits2 r2 go=>by
  have k3:=r2.length;have hsz:aI.toArray.size+its2.toArray.size<=sizeLine:=by rw[List.size_toArray,List.size_toArray];lia
  refine go hsz (by rw[pI hsz,Bool.and_false];exact aJ7) ?_;refine⟨.b6,_,I.M8 (its' :=aI++its2) hv ho (by simp) (r.append r2) ?_,rfl,F.put RR hn (eJ l l2) q .b6⟩;rw[List.length_append]
  lia
 rcases sq with sq | sq
 ·obtain⟨its2,r2,⟨o,n2,e3,c3,_,d3⟩,_⟩:=I.list sq;exact fin its2 r2 λa1 a2 a3=>FH ho e3 c3 d3 a2 a1 a3
 ·obtain⟨its2,r2,pl,hz2⟩:=I.tuple sq;exact fin its2 r2 λa1 a2 a3=>u4 ho (show s.heap.IsTuple b its2.toArray from pl) a2 a1 a3
end
section
variable {ρ:d7}{mh:MH}{Q:DK}{E:eO}
@[simp] theorem aEi (w wo wi:WE):K4 w wo wi E ρ mh=(w ρ mh λd mh1=>wo ρ mh1 λo mh2=>wi ρ mh2 λi mh3=>UE o i d mh3 λmh4=>E.nx ρ mh4):=rfl
@[simp] theorem s_dic (t:Bool):K6 t ρ mh Q=(Q (.ref mh.length) (mh++[.dic t []])):=rfl
end
theorem Z6{K:aKd}{h:Heap}{mg:aKg}{x:Str}{i:Int}{t:Tok}(KX:K.In h)(G:h.Ns mainGlobals mg)(e:PySem.W.nsIn K mainGlobals x=some (some (.int i t))):yL K mg x (.int i):=
 ⟨.int i,_,aJp KX G e,⟨t,rfl⟩,λ_ _=>.int⟩
theorem mX(d e:D)(ds:List D):nR (d::e::ds) 1=some e:=by
 have:=iK (xs:=d::e::ds) (j:=1) (v:=e) rfl;simpa using this
theorem DN(d e f:D)(ds:List D):nR (d::e::f::ds) 2=some f:=by
 have:=iK (xs:=d::e::f::ds) (j:=2) (v:=f) rfl;simpa using this
theorem TK{α:Type}{f:α->D}{ss:List α}{i:Int}(h0:0<=i)(h1:i<ss.length):∃v,v∈ss/\ss[i.toNat]? =some v/\nR (ss.map f) i=some (f v):=by
 have hi:i.toNat<ss.length:=by lia
 refine⟨ss[i.toNat],aJo _,by simp[hi],?_⟩;have e:i=((i.toNat:Nat):Int):=by lia
 have:=iK (xs:=ss.map f) (j:=i.toNat) (v:=f (ss[i.toNat])) (by rw[List.getElem?_map,List.getElem?_eq_getElem hi];rfl);rw[<-e]at this;exact this
open Classical in
theorem GF(k v:D):∀kvs:List (D×D),(∃p∈kvs,p.1=k)->bI (kvs.map λp=>if p.1=k then (p.1,v) else p) k=some v
 | [],h=>by obtain⟨p,hp,_⟩:=h;cases hp
 | p::kvs,h=>by
  rw[List.map_cons];by_cases e:p.1=k
  ·simp[bI,e]
  ·simp only[bI,if_neg e];refine GF k v kvs ?_;obtain⟨r,hr,er⟩:=h;rcases aGk.mp hr with z | z
   ·subst z;exact absurd er e
   ·exact⟨r,z,er⟩
theorem GG(k v:D):∀kvs:List (D×D),(¬∃p∈kvs,p.1=k)->bI (kvs++[(k,v)]) k=some v
 | [],h=>by simp[bI]
 | p::kvs,h=>by
  have e:¬p.1=k:=λz=>h ⟨p,aGf,z⟩;rw[List.cons_append];simp only[bI,if_neg e];exact GG k v kvs λzz17=>by obtain⟨r,hr,er⟩:=zz17;exact h ⟨r,aGg _ hr,er⟩
theorem jG(kvs:List (D×D))(k v:D):bI (putD kvs k v) k=some v:=by
 classical
 unfold putD;by_cases h:∃p∈kvs,p.1=k
 ·rw[if_pos h];exact GF k v kvs h
 ·rw[if_neg h];exact GG k v kvs h
open Classical in
theorem nX(k v:D){k' :D}(hk:k' ≠k):∀kvs:List (D×D),bI (kvs.map λp=>if p.1=k then (p.1,v) else p) k' =bI kvs k'
 | []=>rfl
 | p::kvs=>by
  rw[List.map_cons];by_cases e:p.1=k
  ·have e2:¬p.1=k' :=λz=>hk (z.symm.trans e);simp only[if_pos e,bI,if_neg e2,nX k v hk kvs]
  ·simp only[if_neg e,bI,nX k v hk kvs]
theorem tK(k v:D){k' :D}(hk:k' ≠k):∀kvs:List (D×D),bI (kvs++[(k,v)]) k' =bI kvs k'
 | []=>by simp[bI,Ne.symm hk]
 | p::kvs=>by
  rw[List.cons_append];simp only[bI,tK k v hk kvs]
theorem tJ(kvs:List (D×D)){k k' :D}(v:D)(hk:k' ≠k):bI (putD kvs k v) k' =bI kvs k' :=by
 classical
 unfold putD;split
 ·exact nX k v hk kvs
 ·exact tK k v hk kvs
theorem sI{mh:MH}{b:Nat}{many:Int}{Q:DK}(h1:1<=many)(h2:many<=1073741789)(hb:yM mh b)(q:∀r mh',0<=r->r<many->cO mh b mh' ->Q (.int r) mh'):lL [.ref b,.int many] mh Q:=⟨b,many,rfl,h1,h2,hb,q⟩
theorem TJ{mh:MH}{ns:List Int}{a:Int}{Q:DK}(hl:ns.length<=63)(h1:0<=a)(h2:a<=100)(q:∀mh',(∃o,mh' =mh++[o])->yM mh' mh.length->Q (.ref mh.length) mh'):IC [.fl (ns.map .int),.int a] mh Q:=⟨ns,a,rfl,hl,h1,h2,q⟩
def cH(mh mh' :MH):Prop:=∃T,mh' =mh++T
theorem cH.refl{mh:MH}:cH mh mh:=⟨[],by simp⟩
theorem cH.app{mh mh' :MH}(h:cH mh mh')(T:MH):cH mh (mh' ++T):=by
 obtain⟨U,rfl⟩:=h;exact⟨U++T,by simp⟩
theorem cH.le{mh mh' :MH}(h:cH mh mh'):mh.length<=mh'.length:=by obtain⟨U,rfl⟩:=h;simp
theorem cH.old{mh mh' :MH}{n:Nat}{o:MO}(h:cH mh mh')(e:mh[n]? =some o):mh'[n]? =some o:=by
 obtain⟨T,rfl⟩:=h;rw[List.getElem?_append_left (List.getElem?_eq_some_iff.mp e).1];exact e
theorem cH.push{mh mh' :MH}(h:cH mh mh')(o:MO):cH mh (mh' ++[o]):=by
 obtain⟨T,rfl⟩:=h;exact⟨T++[o],by simp⟩
theorem cH.set{mh mh' :MH}{n:Nat}(h:cH mh mh')(hn:mh.length<=n)(o:MO):cH mh (mh'.set n o):=by
 obtain⟨T,rfl⟩:=h;exact⟨T.set (n-mh.length) o,by rw[List.set_append_right _ _ hn]⟩
theorem cH.out{mh mh' :MH}{d:D}{R:DK}(h:cH mh mh')(ok:kM mh)(hd:dN mh.length d=true)(q:R d mh):Out mh.length d mh' R:=by
 obtain⟨T,rfl⟩:=h;exact uJ ok hd q
theorem cH.WL{mh mh' :MH}{j:Nat}{o:MO}{R:DK}(h:cH mh mh')(ok:kM mh)(hj:mh.length<=j)(e:mh'[j]? =some o)(hd:zC mh.length o=true)(q:R (.ref mh.length) (mh++[o])):Out mh.length (.ref j) mh' R:=by
 obtain⟨T,rfl⟩:=h;exact .inr (.inr ⟨mh,T,j,o,rfl,aGi _,ok,rfl,hj,e,hd,q⟩)
theorem eW.WL{mh mh' :MH}{b j:Nat}{o:MO}{R:DK}(h:eW mh b mh')(ok:kM mh)(hj:mh.length<=j)(e:mh'[j]? =some o)(hd:zC mh.length o=true)(q:∀mh1,cO mh b mh1->R (.ref mh1.length) (mh1++[o])):Out mh.length (.ref j) mh' R:=by
 obtain⟨mh1,T,rfl,t⟩:=h;exact .inr (.inr ⟨mh1,T,j,o,rfl,by rw[t.len];exact aGi _,t.mok ok,rfl,by rw[t.len];exact hj,e,by rw[t.len];exact hd,q mh1 t⟩)
theorem eW.app{mh mh' :MH}{b:Nat}(h:eW mh b mh')(T:MH):eW mh b (mh' ++T):=by
 obtain⟨mh1,U,rfl,t1⟩:=h;exact⟨mh1,U++T,by simp,t1⟩
theorem bE{mh:MH}{n:Nat}{o x:MO}(e:mh[n]? =some o):(mh++[x])[n]? =some o:=by
 rw[List.getElem?_append_left (List.getElem?_eq_some_iff.mp e).1];exact e
theorem pP{mh T:MH}{n:Nat}{o:MO}(e:mh[n]? =some o):(mh++T)[n]? =some o:=by
 rw[List.getElem?_append_left (List.getElem?_eq_some_iff.mp e).1];exact e
theorem get_set{mh:MH}{n m:Nat}{o x:MO}(e:mh[n]? =some o)(h:m≠n):(mh.set m x)[n]? =some o:=by
 rw[List.getElem?_set_ne h];exact e
theorem b9{mh:MH}{n:Nat}{o:MO}(x:MO)(e:mh[n]? =some o):(mh.set n x)[n]? =some x:=by
 rw[List.getElem?_set_self (List.getElem?_eq_some_iff.mp e).1]
theorem iQ{mh:MH}{n:Nat}{o:MO}(e:mh[n]? =some o):n<mh.length:=(aGc.mp e).1
theorem bB{mh:MH}{n:Nat}{ds:List D}(e:mh[n]? =some (.lst ds)):bG mh (.ref n)=some ds:=by simp[bG,e]
theorem EX{mh:MH}{n:Nat}{ds:List D}(e:mh[n]? =some (.lst ds)):mU mh (.ref n)=some ds:=by simp[mU,e]
theorem ZN(d e f g:D)(ds:List D):nR (d::e::f::g::ds) 3=some g:=by
 have:=iK (xs:=d::e::f::g::ds) (j:=3) (v:=g) rfl;simpa using this
theorem sO{α:Type}(l:List α)(x:α):nR (l++[x]) (-1)=some x:=by
 unfold nR E5;rw[if_neg (by lia),if_pos (by simp;lia)];simp only[Option.bind_some];have:((-1:Int)+((l++[x]).length:Int)).toNat=l.length:=by simp;lia
 rw[this];simp
theorem uT(n:Nat):E5 (n+1) (-1)=some n:=by
 unfold E5;rw[if_neg (by lia),if_pos (by lia)];congr 1;lia
theorem gE{α:Type}{f:α->D}{l:List α}{i:Nat}{d:D}(h:(l.map f)[i]? =some d):∃x,l[i]? =some x/\d=f x:=by
 rw[List.getElem?_map]at h;obtain⟨x,h1,h2⟩:=aHb.mp h;exact⟨x,h1,h2.symm⟩
theorem take_snoc{α:Type}{l:List α}{i:Nat}{x:α}(h:l[i]? =some x):l.take (i+1)=l.take i++[x]:=by
 rw[List.take_add_one,h];rfl
theorem xY(ds:List D):cutD ds (some 1) none=ds.tail:=by
 cases ds with
 | nil=>rfl
 | cons a ds=>
  unfold cutD;have e1:HT.cU (a::ds).length 0 (some 1)=1:=by simp[HT.cU]
  have e2:HT.cU (a::ds).length (a::ds).length none=(a::ds).length:=by simp[HT.cU]
  rw[e1,e2];simp
theorem oF{α β:Type}{g:WG}{t:WT}{w:WE}{ρe:d7}{St:MH->Prop}{Q:DK}(em:α->D)(p:α->Bool)(f:α->β)(fm:β->D):∀(ds:List α) (ys:List β) {mh:MH},St mh->
  (∀d∈ds,∀(N:DK) (M:MH->Prop),(p d=true->N (fm (f d)) mh)->(p d=false->M mh)->g (em d) ρe λρ2=>t ρ2 mh λb mh3=>if b=true then w ρ2 mh3 N else M mh3)->
  Q (.ref mh.length) (mh++[.lst ((ys++(ds.filter p).map f).map fm)])->i7 g t w ρe St Q (ds.map em) (ys.map fm) mh
 | [],ys,mh,hst,_,q=>⟨hst,by simpa using q⟩
 | d::ds,ys,mh,hst,h,q=>by
  refine⟨hst,?_⟩;refine h d aGf _ _ (λhp=>?_) λhp=>?_
  ·have:=oF (Q:=Q) (St:=St) (g:=g) (t:=t) (w:=w) (ρe:=ρe) em p f fm ds (ys++[f d]) hst (λe he=>h e (aGg _ he)) (by rw[List.filter_cons_of_pos hp]at q;simpa using q);simpa using this
  ·exact oF em p f fm ds ys hst (λe he=>h e (aGg _ he)) (by rw[List.filter_cons_of_neg (by simp[hp])]at q;exact q)
theorem xZ{α β:Type}{g:WG}{w:WE}{ρe:d7}{St:MH->Prop}{Q:DK}(em:α->D)(f:α->β)(fm:β->D):∀(ds:List α) (ys:List β) {mh:MH},St mh->
  (∀d∈ds,∀(N:DK),N (fm (f d)) mh->g (em d) ρe λρ2=>w ρ2 mh N)->
  Q (.ref mh.length) (mh++[.lst ((ys++ds.map f).map fm)])->i7 g kJ w ρe St Q (ds.map em) (ys.map fm) mh
 | [],ys,mh,hst,_,q=>⟨hst,by simpa using q⟩
 | d::ds,ys,mh,hst,h,q=>by
  refine⟨hst,?_⟩;simp only[LL,if_true];refine h d aGf _ ?_;have:=xZ (Q:=Q) (St:=St) (g:=g) (w:=w) (ρe:=ρe) em f fm ds (ys++[f d]) hst (λe he=>h e (aGg _ he)) (by simpa using q);simpa using this
theorem u9{α β:Type}{g:WG}{t:WT}{w:WE}{ρe:d7}{St:MH->Prop}{Q:DK}(em:α->D)(p:α->Bool)(f:α->β)(fm:β->D)(ds:List α){mh:MH}(hst:St mh)
  (h:∀d∈ds,∀(N:DK) (M:MH->Prop),(p d=true->N (fm (f d)) mh)->(p d=false->M mh)->g (em d) ρe λρ2=>t ρ2 mh λb mh3=>if b=true then w ρ2 mh3 N else M mh3)
  (q:Q (.ref mh.length) (mh++[.lst (((ds.filter p).map f).map fm)])):i7 g t w ρe St Q (ds.map em) [] mh:=oF em p f fm ds [] hst h q
theorem gJ{α β:Type}{g:WG}{w:WE}{ρe:d7}{St:MH->Prop}{Q:DK}(em:α->D)(f:α->β)(fm:β->D)(ds:List α){mh:MH}(hst:St mh)
  (h:∀d∈ds,∀(N:DK),N (fm (f d)) mh->g (em d) ρe λρ2=>w ρ2 mh N)
  (q:Q (.ref mh.length) (mh++[.lst ((ds.map f).map fm)])):i7 g kJ w ρe St Q (ds.map em) [] mh:=xZ em f fm ds [] hst h q
theorem oX{M:MH}{n:Nat}{o:MO}(h:M[n]? =some o):M.set n o=M:=by
 apply aJg;intro i;by_cases hi:i=n
 ·subst hi;rw[List.getElem?_set_self (iQ h),h]
 ·rw[List.getElem?_set_ne (Ne.symm hi)]
theorem zip_map{α:Type}(f:α->D):∀(l m:List α),kI (l.map f) (m.map f)=(l.zip m).map λp=>.tup [f p.1,f p.2]
 | [],_=>by simp[kI]
 | a::l,[]=>by simp[kI]
 | a::l,b::m=>by simp[kI,zip_map f l m]
def vN(P:Program)(w:World)(K:aKd)(mg:aKg)(base:Heap)(k:Nat)(x:Str)(N:List Str)(st:Stmt)(wB:WS):Prop:=
 ∀(f:Addr) (cdv:Value) (A:Around) (outer:List Env) (s:Shared) (H:Hp) (E:XK),fR k (A.deeper (envOfC x (aC st) s.heap.objs.size f cdv))->
  mC (u7 AY P w K mg base N x (aC st) f cdv A outer s H E).PB (bU st) wB
section
variable {P:Program}{w:World}{K:aKd}{mg:aKg}{base:Heap}{h:Heap}
theorem fP{x:Str}{st:Stmt}{N ps:List Str}{k:Nat}{s:OA}{wB:WS}(Dx:fX K x st)(KX:K.In h)(G:h.Ns mainGlobals mg)(bd:cI x st ps)(S:aU N ps (aC st))(hb:vN P w K mg base k x N st wB)(len:∀ds mh R,s ds mh R->ds.length=ps.length)
  (hw:∀ds mh R,kM mh->s ds mh R->wB {nx:=λ_ mh1=>Out mh.length .b6 mh1 R,rt:=λd mh1=>Out mh.length d mh1 R} (aJ N ds) mh):Fn P w K mg base (k+1) x ps s:=
 Y2 Dx KX G bd S len hb λds mh R ok _ hs=>hw ds mh R ok hs
theorem Y1{x:Str}{st:Stmt}{N ps:List Str}{j k:Nat}{s:OA}{wB:WS}(e:k+1=j)(Dx:fX K x st)(KX:K.In h)(G:h.Ns mainGlobals mg)(bd:cI x st ps)(S:aU N ps (aC st))(hb:vN P w K mg base k x N st wB)(len:∀ds mh R,s ds mh R->ds.length=ps.length)
  (hw:∀ds mh R,kM mh->s ds mh R->wB {nx:=λ_ mh1=>Out mh.length .b6 mh1 R,rt:=λd mh1=>Out mh.length d mh1 R} (aJ N ds) mh):Fn P w K mg base j x ps s:=
 e▸fP Dx KX G bd S hb len hw
theorem X8{x:Str}{st:Stmt}{N:List Str}{k:Nat}{fa:Addr}{wB:WS}(KX:K.In h)(G:h.Ns mainGlobals mg)(hfa:mg "law"=some (.ref fa))(Dx:fX K "law" st)(S:aU N [x] (aC st))(bd:cI "law" st [x])
  (hb:∀base:Heap,vN P w K mg base k "law" N st wB)
  (hw:∀ds mh R,kM mh->vS ds mh R->wB {nx:=λ_ mh1=>Out mh.length .b6 mh1 R,rt:=λd mh1=>Out mh.length d mh1 R} (aJ N ds) mh):
  ∃fd:FuncData,(∀(s:Shared) (u:Value),BindsTo s fd ⟨[u],[]⟩ [(x,u)])/\∀base:Heap,iU P w K mg base AY (k+1) fa fd [x] (LD K vS):=
 X9 KX G hfa Dx S bd λbase=>⟨wB,hb base,λds mh R ok _ hs=>hw ds mh R ok hs⟩
end
def qM(g:WG)(t:WT)(w:WE)(ρe:d7)(St:MH->Prop)(K:List D->MH->Prop):List D->List D->MH->Prop
 | [],ys,mh=>St mh/\K ys mh
 | d::ds,ys,mh=>St mh/\ys.length<sizeLine/\g d ρe λρ2=>t ρ2 mh λb mh3=>if b=true then w ρ2 mh3 λy mh4=>qM g t w ρe St K ds (ys++[y]) mh4 else qM g t w ρe St K ds ys mh3
def iS(g:WG)(t:WT)(wi2:WI)(g2:WG)(t2:WT)(w:WE)(ρe:d7)(St:MH->Prop)(Q:DK):List D->List D->MH->Prop
 | [],ys,mh=>St mh/\Q (.ref mh.length) (mh++[.lst ys])
 | d::ds,ys,mh=>St mh/\g d ρe λρ2=>t ρ2 mh λb mh3=>if b=true then wi2 ρ2 mh3 λes St2 mh4=>qM g2 t2 w ρ2 St2 (iS g t wi2 g2 t2 w ρe St Q ds) es ys mh4 else iS g t wi2 g2 t2 w ρe St Q ds ys mh3
def HU(own:List Str)(aD:List Nat)(wi:WI)(g:WG)(t:WT)(wi2:WI)(g2:WG)(t2:WT)(w:WE):WE:=λρ mh Q=>wi ρ mh λds St mh1=>iS g t wi2 g2 t2 w (fW own aD ρ) St Q ds [] mh1
@[simp] theorem s_lc2 {ρ:d7}{mh:MH}{Q:DK}(own:List Str)(aD:List Nat)(i:WI)(g:WG)(t:WT)(i2:WI)(g2:WG)(t2:WT)(a:WE):HU own aD i g t i2 g2 t2 a ρ mh Q=(i ρ mh λds St mh1=>iS g t i2 g2 t2 a (fW own aD ρ) St Q ds [] mh1):=rfl
theorem cA.kG{K:aKd}{μ μ' :List Addr}{H H' :Hp}{ρ:d7}{σ:L2.St}(p:eL μ H μ' H')(E:cA K μ H ρ σ):cA K μ' H' ρ σ:=⟨E.1,λi d e=>by
 obtain⟨v,h1,h2⟩:=E.2 i d e
 exact⟨v,h1,Is.kG p d v h2⟩⟩
section
variable {X:Cx}
theorem NJ{wi wi2:WI}{g g2:TG}{gd gd2:WG}{t t2:WT}{w:WE}{own:List Str}{aD:List Nat}(hr:jV X.K g gd)(hr2:jV X.K g2 gd2){σ:L2.St}{H:Hp}{Q:VK}(h:tL X.K (HU own aD wi gd t wi2 gd2 t2 w) σ H Q):
  QA own aD (T8 X.K wi) g (LC X.K t) (DZ (T8 X.K wi2) g2 (LC X.K t2) (tL X.K w)) σ H Q:=by
 obtain⟨μ,ρ,mh,R,RR,En,h,F⟩:=h;refine⟨μ,ρ,mh,_,RR,En,h,λds St mh1 q μ1 J H1 P1 R1 It acc hacc=>?_⟩;have hacc1:acc∉μ1:=λz=>R1.ne hacc z rfl
 refine⟨λi m ys H' =>∃μ' mh' dys,aN μ1 H1 μ' H' /\Rep X.K μ' mh' H' /\acc∉μ' /\H' acc=some (.lst ys)/\IsL X.K μ' H' dys ys/\i<=ds.length/\m=ds.length-i/\iS gd t wi2 gd2 t2 w (fW own aD ρ) St R (ds.drop i) dys mh',
  ⟨ds.length,μ1,mh1,[],aN.out aN.refl hacc,R1.new hacc,hacc1,bK,by unfold IsL;rfl,aHp _,by simp,by simpa using q⟩,?_⟩
 rintro i m ys H' ⟨μ',mh',dys,P',R',ha',e',l',hi',rfl,c⟩;refine⟨e',?_⟩;by_cases hlt:i<ds.length
 ·rw[List.drop_eq_getElem_cons hlt]at c;obtain⟨hst,c⟩:=c;obtain⟨hgo,hy⟩:=It.go μ' mh' H' (P'.weak R1) R' hst i ds[i] (by simp[hlt]);refine .inr ⟨hgo,λys2 H2=>∃μ2 mh2 dys2,aN μ1 H1 μ2 H2/\Rep X.K μ2 mh2 H2/\acc∉μ2/\H2 acc=some (.lst ys2)/\IsL X.K μ2 H2 dys2 ys2/\iS gd t wi2 gd2 t2 w (fW own aD ρ) St R (ds.drop (i+1)) dys2 mh2,?_,λx H'' y=>?_⟩
  ·rintro ys2 H2 ⟨μ2,mh2,dys2,P2,R2,ha2,e2,l2,c2⟩;exact⟨ds.length-(i+1),by lia,μ2,mh2,dys2,P2,R2,ha2,e2,l2,hlt,rfl,c2⟩
  ·obtain⟨Py,Ry,Iy⟩:=hy x H'' y;obtain⟨hay,ey⟩:=Py.away ha' e';have ly:=IsL.mono R' Py dys ys l';have P0y:=P1.trans (P'.trans Py);refine hr x _ H'' _ μ' (fW own aD ρ) mh' _ _ Ry (En.mono RR P0y).emb Iy c λρ2 q2 σ2 En2=>?_;refine⟨μ',ρ2,mh',_,Ry,En2,q2,λb mh3 q3 μ3 H3 P3 R3=>?_⟩;obtain⟨ha3,e3⟩:=P3.away hay ey;have l3:=IsL.mono Ry P3 dys ys ly;have P13:=(P'.trans Py).trans P3
   cases b with
   | false=>rw[if_neg Bool.false_ne_true]at q3⊢;exact⟨μ3,mh3,dys,P13,R3,ha3,e3,l3,q3⟩
   | true=>
    rw[if_pos rfl]at q3⊢;refine⟨μ3,ρ2,mh3,_,R3,En2.mono Ry P3,q3,λes St2 mh4 q4 μ4 J2 H4 P4 R4 It2=>?_⟩;obtain⟨ha4,e4⟩:=P4.away ha3 e3;have l4:=IsL.mono R3 P4 dys ys l3
    refine⟨λk m ys H' =>∃μ' mh' dys,aN μ1 H1 μ' H' /\eL μ4 H4 μ' H' /\Rep X.K μ' mh' H' /\acc∉μ' /\H' acc=some (.lst ys)/\IsL X.K μ' H' dys ys/\k<=es.length/\m=es.length-k/\qM gd2 t2 w ρ2 St2 (iS gd t wi2 gd2 t2 w (fW own aD ρ) St R (ds.drop (i+1))) (es.drop k) dys mh',
     ⟨es.length,μ4,mh4,dys,P13.trans P4,aN.refl.weak R4,R4,ha4,e4,l4,aHp _,by simp,by simpa using q4⟩,?_⟩
    rintro k m ys5 H5 ⟨μ5,mh5,dys5,P15,P5,R5,ha5,e5,l5,hk5,rfl,c5⟩;by_cases hlt2:k<es.length
    ·rw[List.drop_eq_getElem_cons hlt2]at c5;obtain⟨hst5,hsz5,c5⟩:=c5;obtain⟨hgo5,hy5⟩:=It2.go μ5 mh5 H5 P5 R5 hst5 k es[k] (by simp[hlt2]);refine .inr ⟨hgo5,λys2 H2=>∃μ2 mh2 dys2,aN μ1 H1 μ2 H2/\eL μ4 H4 μ2 H2/\Rep X.K μ2 mh2 H2/\acc∉μ2/\H2 acc=some (.lst ys2)/\IsL X.K μ2 H2 dys2 ys2/\qM gd2 t2 w ρ2 St2 (iS gd t wi2 gd2 t2 w (fW own aD ρ) St R (ds.drop (i+1))) (es.drop (k+1)) dys2 mh2,?_,λx6 H6 y6=>?_⟩
     ·rintro ys2 H2 ⟨μ2,mh2,dys2,P2,W2,R2,ha2,e2,l2,c2⟩;exact⟨es.length-(k+1),by lia,μ2,mh2,dys2,P2,W2,R2,ha2,e2,l2,hlt2,rfl,c2⟩
     ·obtain⟨P6,R6,I6⟩:=hy5 x6 H6 y6;obtain⟨ha6,e6⟩:=P6.away ha5 e5;have l6:=IsL.mono R5 P6 dys5 ys5 l5;have En6:=cA.mono R5 P6 (cA.kG P5 ((En2.mono Ry P3).mono R3 P4));refine hr2 x6 _ H6 _ μ5 ρ2 mh5 _ _ R6 En6 I6 c5 λρ7 q7 σ7 En7=>?_;refine⟨μ5,ρ7,mh5,_,R6,En7,q7,λb mh8 q8 μ8 H8 P8 R8=>?_⟩;obtain⟨ha8,e8⟩:=P8.away ha6 e6;have l8:=IsL.mono R6 P8 dys5 ys5 l6;have P18:=(P15.trans P6).trans P8;have W48:=(P5.trans (P6.weak R5)).trans (P8.weak R6)
      cases b with
      | false=>rw[if_neg Bool.false_ne_true]at q8⊢;exact⟨μ8,mh8,dys5,P18,W48,R8,ha8,e8,l8,q8⟩
      | true=>
       rw[if_pos rfl]at q8⊢;refine⟨by rw[aK l8];exact hsz5,μ8,ρ7,mh8,_,R8,En7.mono R6 P8,q8,λy mh9 q9 μ9 vy H9 P9 R9 I9=>?_⟩;obtain⟨ha9,e9⟩:=P9.away ha8 e8;have hm:KO (H9 acc):=by rw[e9];trivial
       have l9:=IsL.mono R8 P9 dys5 ys5 l8;refine⟨e9,μ9,mh9,dys5++[y],aN.out (P18.trans P9) hacc,?_,R9.out hm ha9,ha9,bK,IsL.out hm _ _ (eJ l9 (jN I9)),q9⟩;have W49:=W48.trans (P9.weak R8);refine⟨W49.pre,λb o e n=>?_⟩;have:=W49.fr b o e n;by_cases hb:b=acc
       ·subst hb;rw[e9]at this;cases this;exact absurd trivial n
       ·rw[aP hb];exact this
    ·have e:k=es.length:=by lia
     subst e;rw[List.drop_of_length_le (Nat.le_refl _)]at c5;exact .inl ⟨It2.stop μ5 mh5 H5 P5 R5 c5.1,μ5,mh5,dys5,P15,R5,ha5,e5,l5,c5.2⟩
 ·have e:i=ds.length:=by lia
  subst e;rw[List.drop_of_length_le (Nat.le_refl _)]at c;refine .inl ⟨It.stop μ' mh' H' (P'.weak R1) R' c.1,?_⟩
  have Pa:aN μ1 H1 (μ' ++[acc]) H' :=⟨by obtain⟨t,rfl⟩:=P'.pre;exact⟨t++[acc],by simp⟩,P'.fr,λa ha=>by
   rcases aGh.mp ha with ha | ha
   ·exact P'.nw a ha
   ·simp at ha;subst ha;exact .inr hacc⟩
  exact F _ _ c.2 (μ' ++[acc]) _ H' (P1.trans Pa) (R'.ZP ha' e' l') (by unfold Is;exact⟨acc,by rw[<-R'.len];simp,rfl⟩)
theorem X4{tg iter tg2 aT elt:Expr}{ifs cT:List Expr}{scope sc:Scope}{N:List Str}{pos:Pos}{wi wi2:WI}{g g2:TG}{gd gd2:WG}{t t2:WT}{w:WE}(own:List Str)(o1:Nat)(aD:List Nat)
  (hN:X.N=N) (hsc:X.env.scope=sc) (chk:dR N sc scope aD=true) (fO:X.calm=true) (hi:LI X tg iter wi) (ho1:o1<=own.length) (ho:qT o1 g)
  (hr:jV X.K g gd) (ho2:GIn o1 own.length g2) (hr2:jV X.K g2 gd2)
  (hg:∀cl C fp s₀ H₀,PG (aL X own aD scope cl C fp s₀ H₀) tg g) (ht:∀cl C fp s₀ H₀,KG (aL X own aD scope cl C fp s₀ H₀) ifs t)
  (NY:∀cl C fp s₀ H₀,LI (aL X own aD scope cl C fp s₀ H₀) tg2 aT wi2)
  (hg2:∀cl C fp s₀ H₀,PG (aL X own aD scope cl C fp s₀ H₀) tg2 g2) (ht2:∀cl C fp s₀ H₀,KG (aL X own aD scope cl C fp s₀ H₀) cT t2)
  (he:∀cl C fp s₀ H₀,LE (aL X own aD scope cl C fp s₀ H₀) elt w)
  (hs:∀x,foldedSetIterable iter X.env x=pure x:=by intro _;rfl) (hs2:∀env x,foldedSetIterable aT env x=pure x:=by intro _ _;rfl):
  LE X (.ListComp elt [⟨tg,iter,ifs,0⟩,⟨tg2,aT,cT,0⟩] scope pos) (HU own aD wi gd t wi2 gd2 t2 w):=
 PE.imp (WD (wi:=T8 X.K wi) (tt:=LC X.K t) (tb:=DZ (T8 X.K wi2) g2 (LC X.K t2) (tL X.K w)) own o1 aD hN hsc chk fO hi ho1 ho hg (λcl C fp s₀ H₀=>ht cl C fp s₀ H₀)
  (λacc cl C fp s₀ H₀=>J4 fO rfl (NY cl C fp s₀ H₀) (hg2 cl C fp s₀ H₀) ho2 (ht2 cl C fp s₀ H₀) (he cl C fp s₀ H₀)) hs2 hs) λσ H Q h=>NJ hr hr2 h
end
theorem uW{β γ:Type}{g:WG}{w:WE}{ρe:d7}{St:MH->Prop}{K:List D->MH->Prop}(em:β->D)(f:β->γ)(fm:γ->D):∀(es:List β) (ys:List D) {mh:MH},St mh->ys.length+es.length<=16777216->
  (∀e∈es,∀N:DK,N (fm (f e)) mh->g (em e) ρe λρ2=>w ρ2 mh N)->K (ys++(es.map f).map fm) mh->qM g kJ w ρe St K (es.map em) ys mh
 | [],ys,mh,hst,_,_,q=>⟨hst,by simpa using q⟩
 | e::es,ys,mh,hst,hl,h,q=>by
  simp only[List.length_cons]at hl;refine⟨hst,by rw[sizeLine_eq];lia,?_⟩;simp only[LL,if_true];refine h e aGf _ ?_;exact uW em f fm es (ys++[fm (f e)]) hst (by simp;lia) (λe he=>h e (aGg _ he)) (by simpa using q)
theorem vA{α β γ:Type}{g g2:WG}{wi2:WI}{w:WE}{ρe:d7}{St:MH->Prop}{Q:DK}(em:α->D)(inn:α->List β)(em2:β->D)(f:α->β->γ)(fm:γ->D)(ρ2:α->d7):∀(ds:List α) (ys:List D) {mh:MH},St mh->ys.length+(ds.flatMap inn).length<=16777216->
  (∀d∈ds,∀N:d7->Prop,N (ρ2 d)->g (em d) ρe N)->(∀d∈ds,∀N:List D->(MH->Prop)->MH->Prop,(∀St2:MH->Prop,St2 mh->N ((inn d).map em2) St2 mh)->wi2 (ρ2 d) mh N)->
  (∀d∈ds,∀e∈inn d,∀N:DK,N (fm (f d e)) mh->g2 (em2 e) (ρ2 d) λρ3=>w ρ3 mh N)->
  Q (.ref mh.length) (mh++[.lst (ys++(ds.flatMap λd=>(inn d).map (f d)).map fm)])->iS g kJ wi2 g2 kJ w ρe St Q (ds.map em) ys mh
 | [],ys,mh,hst,_,_,_,_,q=>⟨hst,by simpa using q⟩
 | d::ds,ys,mh,hst,hl,h1,h2,h3,q=>by
  simp only[List.flatMap_cons,List.length_append]at hl;refine⟨hst,?_⟩;simp only[LL,if_true];refine h1 d aGf _ ?_;refine h2 d aGf _ λSt2 hs2=>?_;refine uW em2 (f d) fm (inn d) ys hs2 (by lia) (λe he=>h3 d aGf e he) ?_;exact vA em inn em2 f fm ρ2 ds _ hst (by rw[List.length_append,List.length_map,List.length_map];lia) (λe he=>h1 e (aGg _ he)) (λe he=>h2 e (aGg _ he)) (λe he=>h3 e (aGg _ he)) (by simpa using q)
theorem S6{α β γ:Type}{g g2:WG}{wi2:WI}{w:WE}{ρe:d7}{St:MH->Prop}{Q:DK}(em:α->D)(inn:α->List β)(em2:β->D)(f:α->β->γ)(fm:γ->D)(ρ2:α->d7)(ds:List α){mh:MH}(hst:St mh)(hl:(ds.flatMap inn).length<=16777216)
  (h1:∀d∈ds,∀N:d7->Prop,N (ρ2 d)->g (em d) ρe N) (h2:∀d∈ds,∀N:List D->(MH->Prop)->MH->Prop,(∀St2:MH->Prop,St2 mh->N ((inn d).map em2) St2 mh)->wi2 (ρ2 d) mh N)
  (h3:∀d∈ds,∀e∈inn d,∀N:DK,N (fm (f d e)) mh->g2 (em2 e) (ρ2 d) λρ3=>w ρ3 mh N)
  (q:Q (.ref mh.length) (mh++[.lst ((ds.flatMap λd=>(inn d).map (f d)).map fm)])):iS g kJ wi2 g2 kJ w ρe St Q (ds.map em) [] mh:=
 vA em inn em2 f fm ρ2 ds [] hst (by simpa using hl) h1 h2 h3 (by simpa using q)
end D3
namespace L2
open PySem PySem.Spec PyProof.Rows
open Builtin Builtin.Str
open AutoSeq1 (wpAny_loadPart')
end L2
namespace D3
open PySem PySem.Spec PyProof.Rows L2
end D3
namespace L2
open PySem PySem.Spec PyProof.Rows
end L2
namespace D3
open PySem PySem.Spec PyProof.Rows L2
end D3
namespace L2
open PySem PySem.Spec PyProof.Rows
section
variable {prog:Program}{w:World}{A:Around}{E:aKe}{s:Shared}
theorem A3{M:Model}{a:Addr}{Q:Option Obj->Shared->Prop}(h:Q (s.heap.get? a) s):wpAny M A (loadIfAlive a) Q E s:=λΓ p _=>by
 unfold loadIfAlive;rw[Sem.wp_loadIfAlive];exact(aGd (M:=M) (A:=A) (E:=E) h) Γ p ‹_›
def vO(T:Addr)(fl:Bool)(TI TO:Addr):Obj:={cls:= .type "zip",dict:=none,data:= .fields #[rawInt T,.bool fl,.bool false,.ref TI,.ref TO],slots:= #[]}
theorem wK{z TI TO T:Addr}{fl:Bool}{qs:List Src}{i k:Nat}{vals:List Value}{Q:aKe}(hh:A.handled=none)(D:dG z TI TO qs)(hobj:s.heap.get? z=some (vO T fl TI TO))(hT:∃o,s.heap.get? T=some o)
  (hTI:∃n,s.heap.get? TI=some {cls:= .type "tuple",data:= .seq (qs.map λq=>Value.ref q.it).toArray n}) (hat:∀q∈qs,q.At s.heap i) (hne:qs≠[]) (hv:vals.length=k) (hkl:k<=qs.length)
  (hq:∀(j:Nat) q x,qs[j]? =some q->vals[j]? =some x->∃items,q.Sq s.heap items/\items[i]? =some x) (hsz:qs.length<=sizeLine)
  (hk:k<qs.length->∃q items,qs[k]? =some q/\q.Sq s.heap items/\items[i]? =none)
  (hQ:k=qs.length->∀h',h'.get? z=some (vO T true TI TO)->(∀q∈qs,q.At h' (i+1))->h'.get? s.heap.objs.size=some {cls:= .type "tuple",data:= .seq vals.toArray}->h'.objs.size=s.heap.objs.size+1->
   (∀c o,c≠z->(∀q∈qs,c≠q.it)->s.heap.get? c=some o->h'.get? c=some o)->Q (.ref s.heap.objs.size) {s with heap:=h'})
  (hE:k<qs.length->∀h' e,(∀c o,c≠z->(∀q∈qs,c≠q.it)->s.heap.get? c=some o->h'.get? c=some o)->(∃o,h'.get? e=some o/\o.cls= .type "StopIteration")->E (.ref e) {s with heap:=h'}):
  wpAny (model prog w) A (Builtin.«zip.__next__» ⟨[.ref z],[]⟩) (λfin s' =>∃v,fin= .done (.ret v)/\Q v s') E s:=by
 obtain⟨nI,hTI⟩:=hTI;obtain⟨oT,hT⟩:=hT;refine aGb (m:=field (.ref z) 2) (aHe hobj rfl (x:= .bool false) rfl ?_);refine aGb (m:=field (.ref z) 3) (aHe hobj rfl (x:= .ref TI) rfl ?_);refine aGb (m:=seqItems? (.ref TI)) (aHc hTI rfl ?_)
 have hemp:(qs.map λq=>Value.ref q.it).toArray.isEmpty=false:=by cases qs with | nil=>exact absurd rfl hne | cons a r=>rfl
 simp only[hemp];refine aGb (m:=Builtin.SmallTypes.ownedTupleIsFree (.ref z)) ?_;refine aH6 (Q:=λb s' =>b=false/\∃h1,s' ={s with heap:=h1}/\h1.get? z=some (vO T true TI TO)/\Heap.SameBut z s.heap h1) (E:=E) ?own (λb s1 hb=>?_) (λe s' x=>x)
 case own=>
  unfold Builtin.SmallTypes.ownedTupleIsFree;refine aGb (m:=field (.ref z) 0) (aHe hobj rfl (x:=rawInt T) rfl ?_);show wpAny _ _ (loadIfAlive (Int.toNat (T:Int)) >>=_) _ _ _;refine aGb (A3 ?_);rw[Int.toNat_natCast,hT];simp only[Option.isNone_some,Bool.false_eq_true,if_false];refine aGb (m:=field (.ref z) 1) (aHe hobj rfl (x:= .bool fl) rfl ?_)
  cases fl with
  | true=>exact aGd ⟨rfl,s.heap,rfl,hobj,Heap.SameBut.refl _ _⟩
  | false=>
   refine aGb (aH8 (cls:= .type "zip") (vs:= #[rawInt T,.bool false,.bool false,.ref TI,.ref TO]) hobj (by simp) λh1 z1 sb1=>aGd ⟨rfl,h1,rfl,z1,sb1⟩)
 obtain⟨rfl,h1,rfl,z1,sb1⟩:=hb;simp only[Bool.false_eq_true,if_false];refine aGb ?_;refine wpAny_forIn_array' _ (λrest b s' =>b.1=none/\∃j h',s' ={s with heap:=h'}/\rest=(qs.map λq=>Value.ref q.it).drop j/\j<=k/\b.2.toList=vals.take j/\h'.get? z=some (vO T true TI TO)/\h'.objs.size=s.heap.objs.size/\(∀q∈qs.take j,q.At h' (i+1))/\(∀q∈qs.drop j,q.At h' i)/\(∀c o,c≠z->(∀q∈qs,c≠q.it)->s.heap.get? c=some o->h'.get? c=some o)) _ ?turn ?fin _ _ ?start
 case start=>
  refine⟨rfl,0,h1,rfl,by simp,aHp _,by simp,z1,sb1.1,by simp,λq hq=>?_,λc o c1 _ e=>sb1.extBut _ _ c1 e⟩;have hq' :q∈qs:=by simpa using hq
  exact(hat q hq').to λo e=>sb1.extBut _ _ (D.E6 q hq').1 e
 case turn=>
  rintro x rest ⟨b1,b2⟩ s5 ⟨hb,j,h',rfl,hd,hj,hb2,hz,hs,hdn,htd,hkp⟩
  have hjl:j<qs.length:=by
   refine aKa λhle=>?_;rw[List.drop_eq_nil_of_le (by simpa using hle)]at hd;cases hd
  have hd' :=hd;rw[List.drop_eq_getElem_cons (by simpa using hjl)]at hd';injection hd' with ex er;have exx:x=Value.ref qs[j].it:=by rw[ex];simp
  have hqj:qs[j]? =some qs[j]:=aGp hjl;generalize hqq:qs[j]=q at hqj exx;subst exx;have hqm:q∈qs:=aGo hqj;have hqz:=D.E6 q hqm;obtain⟨l1,l2,l3⟩:=D.src q hqm;have hAt:q.At h' i:=htd q (by rw[List.drop_eq_getElem_cons hjl,hqq];exact aGf);refine aGb (aH7 ?_);show wpAny _ _ (Builtin.SmallTypes.nextOf (.ref q.it) >>=_) _ _ _;by_cases hjk:j=k
  ·subst hjk;obtain⟨qk,itemsk,hqk,hSk,hik⟩:=hk hjl;obtain rfl:qk=q:=(aGv (hqj.symm.trans hqk)).symm;have hSq' :=hSk.to (h' :=h') λo e=>hkp _ o l1 l3 e;refine aGb (Src.done (s:={s with heap:=h'}) hh hAt hSq' hik λh2 e sb2 he=>?_);exact hE hjl h2 e (λc o c1 c3 q' =>sb2 _ _ (c3 _ hqm) (hkp c o c1 c3 q')) he
  ·have hvj:vals[j]? =some vals[j]:=aGp (by lia);generalize hvv:vals[j]'(by lia)=v at hvj;obtain⟨items,hSq,hit⟩:=hq j q v hqj hvj;have hSq' :q.Sq h' items:=hSq.to λo e=>hkp _ o l1 l3 e;refine aGb (Src.item (s:={s with heap:=h'}) hAt hSq' hit λh2 at2 sb2=>aGd ?_);refine aGd ?_
   have apart:∀(k:Nat) p,qs[k]? =some p->k≠j->p.it≠q.it:=λk p hk hne e=>by
    have h1:(qs.map (·.it))[k]? =some q.it:=by rw[List.getElem?_map,hk];simp[e]
    have h2:(qs.map (·.it))[j]? =some q.it:=by rw[List.getElem?_map,hqj];rfl
    obtain⟨a1,b1⟩:=aGc.mp h1;obtain⟨a2,b2⟩:=aGc.mp h2;refine hne ?_;have pw:=aHa.mp D.nd;rcases aK7 k j with hlt | heq | hlt
    ·exact absurd (b1.trans b2.symm) (pw k j a1 a2 hlt)
    ·exact heq
    ·exact absurd (b2.trans b1.symm) (pw j k a2 a1 hlt)
   refine⟨rfl,j+1,h2,rfl,er,by lia,?_,sb2.extBut _ _ (aHh hqz.1) hz,by rw[sb2.1];exact hs,λp hp=>?_,λp hp=>?_,λc o c1 c3 e=>sb2.extBut _ _ (c3 q hqm) (hkp c o c1 c3 e)⟩
   ·have hb2:b2.toList=vals.take j:=hb2;show (b2.push v).toList=_;rw[Array.toList_push,hb2,List.take_add_one,hvj];rfl
   ·rw[List.take_add_one,hqj]at hp;rcases aGh.mp hp with z | z
    ·obtain⟨k,hk⟩:=aI3 z
     have hkj:k<j:=by
      have:=(aGc.mp hk).1;rw[List.length_take]at this;lia
     rw[List.getElem?_take_of_lt hkj]at hk;exact(hdn p z).to λo e=>sb2.extBut _ _ (apart k p hk (by lia)) e
    ·have:p=q:=by simpa using z
     subst this;exact at2
   ·obtain⟨k,hk⟩:=aI3 hp;rw[List.getElem?_drop]at hk;have hp' :p∈qs.drop j:=by rw[List.drop_eq_getElem_cons hjl];exact aGg _ hp
    exact(htd p hp').to λo e=>sb2.extBut _ _ (apart _ p hk (by lia)) e
 case fin=>
  rintro⟨b1,b2⟩ s5 ⟨hb,j,h',rfl,hd,hj,hb2,hz,hs,hdn,htd,hkp⟩
  have hje:j=qs.length:=by
   have:=aHk List.length hd;simp at this
   lia
  subst hje;have hkk:k=qs.length:=by lia
  have hb' :b1=none:=hb;subst hb';have hb2:b2.toList=vals.take qs.length:=hb2;rw[List.take_of_length_le (by lia)]at hb2;have z5:(h'.push {cls:= .type "tuple",data:= .seq vals.toArray}).get? z=some (vO T true TI TO):=aGe _ hz;show wpAny _ _ (newTuple b2.toList >>=_) _ _ _;rw[hb2];refine aGb (aIw ?_ (by simpa using (show vals.length<=sizeLine by lia)));refine aGd ⟨_,rfl,?_⟩;show Q (.ref h'.objs.size) _;rw[hs];refine hQ hkk _ z5 (λq hq=>(hdn q (by rw[List.take_of_length_le (Nat.le_refl _)];exact hq)).to λo e=>aGe _ e) ?_ ?_ λc o c1 c3 e=>aGe _ (hkp c o c1 c3 e)
  ·rw[<-hs];exact aGj _ rfl
  ·rw[size_push',hs]
end
section
variable {prog:Program}{w:World}{A:Around}{E:aKe}{s:Shared}
theorem DS:typeLookup (.type "zip") "__len__"=pure none:=by rw[typeLookup_type,builtinLookup_eq_fast];kernel_rfl
theorem A0:typeLookup (.type "zip") "__length_hint__"=pure none:=by rw[typeLookup_type,builtinLookup_eq_fast];kernel_rfl
structure ZC(h0 h:Heap)(z TI TO:Addr)(qs:List Src)(rows:List (List Value))(i:Nat)(vs:List Value):Prop where
 obj:h.get? z=some {cls:= .type "zip",dict:=none,data:= .fields #[.none,.bool false,.bool false,.ref TI,.ref TO],slots:= #[]}\/∃T fl o,h.get? z=some (vO T fl TI TO)/\h.get? T=some o/\o.cls= .type "tuple"
 aI:∃n,h.get? TI=some {cls:= .type "tuple",data:= .seq (qs.map λq=>Value.ref q.it).toArray n}
 own:∃(xs:List Value) (n:Nat),xs.length=qs.length/\h.get? TO=some {cls:= .type "tuple",data:= .seq xs.toArray n}
 at_:∀q∈qs,q.At h i
 len:vs.length=i
 tup:∀(j:Nat) v r,vs[j]? =some v->rows[j]? =some r->∃a,v= .ref a/\h.get? a=some {cls:= .type "tuple",data:= .seq r.toArray}/\h0.objs.size<=a/\a≠z/\a≠TO/\∀q∈qs,a≠q.it
 nd:vs.Nodup
 keep:∀c o,c≠z->c≠TO->(∀q∈qs,c≠q.it)->h0.get? c=some o->h.get? c=some o
theorem ZC.type{h0:Heap}{z TI TO:Addr}{qs:List Src}{rows:List (List Value)}{i:Nat}{vs:List Value}(Z:ZC h0 s.heap z TI TO qs rows i vs):s.TypeIs (.ref z) "zip":=by
 rcases Z.obj with e | ⟨T,fl,o,e,_⟩ <;> exact⟨_,e,rfl⟩
theorem ZC.other{h0 h h' :Heap}{z TI TO S:Addr}{qs:List Src}{rows:List (List Value)}{i:Nat}{vs:List Value}(Z:ZC h0 h z TI TO qs rows i vs)(hS:S≠z/\S≠TI/\S≠TO/\(∀q∈qs,S≠q.it))(hT:∀o,h.get? S=some o->o.cls= .type "list")(hn:h0.get? S=none)
  (k:∀c o,c≠S->h.get? c=some o->h'.get? c=some o):ZC h0 h' z TI TO qs rows i vs where
 obj:=by
  rcases Z.obj with e | ⟨T,fl,o,e1,e2,e3⟩
  ·exact .inl (k _ _ (aHh hS.1) e)
  ·refine .inr ⟨T,fl,o,k _ _ (aHh hS.1) e1,k _ _ (λx=>?_) e2,e3⟩;subst x;have:=hT _ e2;rw[e3]at this;simp at this
 aI:=let ⟨n,e⟩:=Z.aI;⟨n,k _ _ (aHh hS.2.1) e⟩
 own:=let ⟨xs,n,l,e⟩:=Z.own;⟨xs,n,l,k _ _ (aHh hS.2.2.1) e⟩
 at_:=λq hq=>(Z.at_ q hq).to λo e=>k _ _ (aHh (hS.2.2.2 q hq)) e
 len:=Z.len
 tup:=λj v r h1 h2=>by
  obtain⟨a,e1,e2,e3⟩:=Z.tup j v r h1 h2;refine⟨a,e1,k _ _ (λe=>?_) e2,e3⟩;subst e;have:=hT _ e2;simp at this
 nd:=Z.nd
 keep:=λc o c1 c2 c3 e=>k _ _ (λx=>by subst x;rw[hn]at e;cases e) (Z.keep c o c1 c2 c3 e)
structure ZR(h0:Heap)(qs:List Src)(rows:List (List Value)):Prop where
 row:∀(i:Nat) r,rows[i]? =some r->r.length=qs.length/\∀(j:Nat) q x,qs[j]? =some q->r[j]? =some x->∃items,q.Sq h0 items/\items[i]? =some x
 fin:∃(k:Nat) (vals:List Value),vals.length=k/\k<qs.length/\(∀(j:Nat) q x,qs[j]? =some q->vals[j]? =some x->∃items,q.Sq h0 items/\items[rows.length]? =some x)/\∃q items,qs[k]? =some q/\q.Sq h0 items/\items[rows.length]? =none
theorem PM{h0:Heap}{z TI TO:Addr}{qs:List Src}{rows:List (List Value)}{i:Nat}{vs:List Value}{Q:Option Value->Shared->Prop}(hh:A.handled=none)(D:dG z TI TO qs)(hsz:qs.length<=sizeLine)(hne:qs≠[])(RR:ZR h0 qs rows)(Z:ZC h0 s.heap z TI TO qs rows i vs)(hi:i<rows.length)
  (hlt:h0.objs.size<=s.heap.objs.size)
  (hQ:∀h' v,ZC h0 h' z TI TO qs rows (i+1) (vs++[v])->s.heap.objs.size<=h'.objs.size->(∀c o,c≠z->c≠TO->(∀q∈qs,c≠q.it)->s.heap.get? c=some o->h'.get? c=some o)->Q (some v) {s with heap:=h'}):
  wpAny (model prog w) A (pyNext (.ref z)) Q E s:=by
 have hri:rows[i]? =some rows[i]:=aGp hi;generalize rows[i]=r at hri;obtain⟨hl,hr⟩:=RR.row i r hri
 have hq:∀(j:Nat) q x,qs[j]? =some q->r[j]? =some x->∃items,q.Sq s.heap items/\items[i]? =some x:=λj q x h1 h2=>by
  obtain⟨items,e1,e2⟩:=hr j q x h1 h2;obtain⟨l1,l2,l3⟩:=D.src q (aGo h1);exact⟨items,e1.to λo e=>Z.keep _ o l1 l2 l3 e,e2⟩
 have lt:∀a o,s.heap.get? a=some o->a≠s.heap.objs.size:=λa o e=>aGu (aGl e)
 have zne:s.heap.objs.size≠z:=by
  rcases Z.obj with e | ⟨_,_,_,e,_⟩ <;> exact aHh (lt _ _ e)
 have one:s.heap.objs.size≠TO:=by obtain⟨_,_,_,e⟩:=Z.own;exact aHh (lt _ _ e)
 have ine:∀q∈qs,s.heap.objs.size≠q.it:=λq hq=>by obtain⟨o,e,_⟩:=(Z.at_ q hq).obj;exact aHh (lt _ _ e)
 have fin:∀h',(h'.get? z=some (vO s.heap.objs.size false TI TO)\/∃T fl o,h'.get? z=some (vO T fl TI TO)/\h'.get? T=some o/\o.cls= .type "tuple")->(∃(xs:List Value) (n:Nat),xs.length=qs.length/\h'.get? TO=some {cls:= .type "tuple",data:= .seq xs.toArray n})->(∀q∈qs,q.At h' (i+1))->
   h'.get? s.heap.objs.size=some {cls:= .type "tuple",data:= .seq r.toArray}->h'.objs.size=s.heap.objs.size+1->(∀c o,c≠z->c≠TO->(∀q∈qs,c≠q.it)->s.heap.get? c=some o->h'.get? c=some o)->Q (some (.ref s.heap.objs.size)) {s with heap:=h'}:=λh' o1 o2 o3 o4 o5 o6=>by
  refine hQ h' _ ⟨?_,?_,o2,o3,by simp[Z.len],λj v r' h1 h2=>?_,?_,λc o c1 c2 c3 e=>o6 c o c1 c2 c3 (Z.keep c o c1 c2 c3 e)⟩ (by lia) o6
  ·exact o1.elim (λe=>.inr ⟨_,_,_,e,o4,rfl⟩) .inr
  ·obtain⟨n,e⟩:=Z.aI;exact⟨n,o6 _ _ D.ne1 D.ne3 (λq hq=>aHh (D.E6 q hq).2.1) e⟩
  ·by_cases hj:j<vs.length
   ·rw[List.getElem?_append_left hj]at h1;obtain⟨a,e1,e2,e3,e4,e5,e6⟩:=Z.tup j v r' h1 h2;exact⟨a,e1,o6 _ _ e4 e5 e6 e2,e3,e4,e5,e6⟩
   ·have hjl:=(aGc.mp h1).1;simp at hjl;have ej:j=vs.length:=by lia
    subst ej;simp at h1;rw[Z.len,hri]at h2;cases h2;exact⟨_,h1.symm,o4,hlt,zne,one,ine⟩
  ·rw[List.nodup_append];refine⟨Z.nd,by simp,λv hv w hw=>?_⟩;obtain⟨j,hj⟩:=aGt.mp hv;have hjl:j<rows.length:=by have:=(aGc.mp hj).1;rw[Z.len]at this;lia
   obtain⟨a,e1,e2,_⟩:=Z.tup j v _ hj (aGp hjl);rw[List.mem_singleton.mp hw,e1];intro x;injection x with x;exact lt _ _ e2 x
 rcases Z.obj with e | ⟨T,fl,o,e1,e2,e3⟩
 ·refine nH D ⟨e,Z.aI,Z.own,Z.at_⟩ hne hl hq hsz λh' Z' t1 z1 k1=>fin h' (.inl Z'.obj) Z'.own Z'.at_ t1 z1 k1
 ·have hT:s.TypeIs (.ref z) "zip":=Z.type;unfold pyNext
  refine aGb (aHy (aH2 (name:=Str.ofString "__next__") hT aHr (aGw aHr hT aJl
   (wK (k:=qs.length) hh D e1 ⟨_,e2⟩ Z.aI Z.at_ hne hl (aGi _) hq hsz (λh=>absurd h (aHx _)) (λ_ h' a1 a2 a3 a4 a5=>?_) λh=>absurd h (aHx _)) (aJe _))))
  have T1:T≠z:=λx=>by subst x;rw[e1]at e2;cases e2;simp[vO]at e3
  have T2:∀q∈qs,T≠q.it:=λq hq x=>by
   subst x;have:=Z.at_ q hq;obtain⟨it,l,t⟩:=q;cases t <;> (obtain⟨o',h1,h2,_⟩:=this;rw[e2]at h1;cases h1;rw[e3]at h2;simp at h2)
  refine aGd (fin h' (.inr ⟨T,true,o,a1,a5 _ _ T1 T2 e2,e3⟩) ?_ a2 a3 a4 λc o c1 c2 c3 e=>a5 c o c1 c3 e);obtain⟨xs,n,l,e⟩:=Z.own;exact⟨xs,n,l,a5 _ _ D.ne2 (λq hq=>aHh (D.E6 q hq).2.2) e⟩
theorem PN{h0:Heap}{z TI TO:Addr}{qs:List Src}{rows:List (List Value)}{vs:List Value}{Q:Option Value->Shared->Prop}(hh:A.handled=none)(D:dG z TI TO qs)(hsz:qs.length<=sizeLine)(hne:qs≠[])(RR:ZR h0 qs rows)(Z:ZC h0 s.heap z TI TO qs rows rows.length vs)
  (hQ:∀h',(∀c o,c≠z->c≠TO->(∀q∈qs,c≠q.it)->s.heap.get? c=some o->h'.get? c=some o)->Q none {s with heap:=h'}):
  wpAny (model prog w) A (pyNext (.ref z)) Q E s:=by
 obtain⟨k,vals,hv,hk,hq,q',items',hq',hs',hi'⟩:=RR.fin
 have to:∀q items,q∈qs->q.Sq h0 items->q.Sq s.heap items:=λq items hm e1=>by
  obtain⟨l1,l2,l3⟩:=D.src q hm;exact e1.to λo e=>Z.keep _ o l1 l2 l3 e
 have hq2:∀(j:Nat) q x,qs[j]? =some q->vals[j]? =some x->∃items,q.Sq s.heap items/\items[rows.length]? =some x:=λj q x h1 h2=>by
  obtain⟨items,e1,e2⟩:=hq j q x h1 h2;exact⟨items,to q items (aGo h1) e1,e2⟩
 rcases Z.obj with e | ⟨T,fl,o,e1,e2,e3⟩
 ·refine pJ (k:=k) hh D ⟨e,Z.aI,Z.own,Z.at_⟩ (λj q h1 h2=>?_) ⟨q',items',hq',to _ _ (aGo hq') hs',hi'⟩ hsz hQ
  obtain⟨x,hx⟩:∃x,vals[j]? =some x:=⟨_,aGp (by lia)⟩
  obtain⟨items,e1,e2⟩:=hq2 j q x h1 hx;exact⟨items,x,e1,e2⟩
 ·have hT:s.TypeIs (.ref z) "zip":=Z.type;unfold pyNext
  refine aGb (aHy (aH2 (name:=Str.ofString "__next__") hT aHr (aGw aHr hT aJl
   (wK (k:=k) hh D e1 ⟨_,e2⟩ Z.aI Z.at_ hne hv (aIh hk) hq2 hsz (λ_=>⟨q',items',hq',to _ _ (aGo hq') hs',hi'⟩) (λh=>absurd hk (by lia)) λ_ h' e kp he=>?_) (aJe _))))
  obtain⟨o,ho,hc⟩:=he;refine aGb (aJ0 (T:= "StopIteration") (b:=true) ⟨o,ho,hc⟩ isSubtype_stop ?_);exact aGd (hQ _ λc o c1 _ c3 e=>kp c o c1 c3 e)
end
structure ZF(h0 h:Heap)(z TO:Addr)(qs:List Src)(rows:List (List Value))(vs:List Value):Prop where
 len:vs.length=rows.length
 nd:vs.Nodup
 tup:∀(j:Nat) v r,vs[j]? =some v->rows[j]? =some r->∃a,v= .ref a/\h.get? a=some {cls:= .type "tuple",data:= .seq r.toArray}/\h0.objs.size<=a
 keep:∀c o,c≠z->c≠TO->(∀q∈qs,c≠q.it)->h0.get? c=some o->h.get? c=some o
section
variable {prog:Program}{w:World}{A:Around}{R:Result->Shared->Prop}{h0:Heap}{z TI TO S:Addr}{qs:List Src}{rows:List (List Value)}
theorem DT(hh:A.handled=none)(D:dG z TI TO qs)(hsz:qs.length<=sizeLine)(hne:qs≠[])(RR:ZR h0 qs rows)(hn:rows.length<=sizeLine)(hS:S≠z/\S≠TI/\S≠TO/\(∀q∈qs,S≠q.it))(hS0:h0.get? S=none)(res:Value):
  ∀(k i:Nat) (s:Shared) (acc:Array Value) (c:Nat),rows.length-i=k->i<=rows.length->ZC h0 s.heap z TI TO qs rows i acc.toList->h0.objs.size<=s.heap.objs.size->s.heap.get? S=some {cls:= .type "list",dict:=none,data:= .seq acc c,slots:= #[]}->
  (∀h' acc' c',ZF h0 h' z TO qs rows acc'.toList->h'.get? S=some {cls:= .type "list",dict:=none,data:= .seq acc' c',slots:= #[]}->R (.ok (.ret res)) {s with heap:=h'})->
  codeAny (model prog w) A (.builtin "list.extend.loop" ⟨[.ref S,.ref z,res],[]⟩) R s:=by
 intro k
 induction k with
 | zero=>
  intro i s acc c hk hi Z hlt hS1 hR;have hin:i=rows.length:=by lia
  subst hin;refine aHn F.entry_extend_loop ?_;rw[Around.under_plainId F.plain_extend_loop _];show wpAny _ A.in1 (pyNext (.ref z) >>=_) _ _ s;refine aGb (PN hh D hsz hne RR Z λh' kp=>?_);refine aGd (hR h' acc c ⟨Z.len,Z.nd,λj v r h1 h2=>?_,λc o c1 c2 c3 e=>kp c o c1 c2 c3 (Z.keep c o c1 c2 c3 e)⟩ (kp _ _ hS.1 hS.2.2.1 hS.2.2.2 hS1));obtain⟨a,e1,e2,e3,e4,e5,e6⟩:=Z.tup j v r h1 h2;exact⟨a,e1,kp _ _ e4 e5 e6 e2,e3⟩
 | succ k ih=>
  intro i s acc c hk hi Z hlt hS1 hR;have hlt2:i<rows.length:=by lia
  refine aHn F.entry_extend_loop ?_;rw[Around.under_plainId F.plain_extend_loop _];show wpAny _ A.in1 (pyNext (.ref z) >>=_) _ _ s;refine aGb (PM hh D hsz hne RR Z hlt2 hlt λh' v Z' hl' kp=>?_);have hS' :=kp _ _ hS.1 hS.2.2.1 hS.2.2.2 hS1;show wpAny _ A.in1 (updateSeq S (·.push v) >>=_) _ _ _;refine aGb ?_;have hz:acc.size=i:=by rw[<-Z.len];simp
  refine aHq hS' rfl (aGd ⟨aI2 aJz _,ih (i+1) _ (acc.push v) _ (by lia) hlt2 ?_ ?_ (aHf _ hS' rfl) λh'' acc' c' Z'' hS'' =>hR h'' acc' c' Z'' hS''⟩)
   (by rw[hz];lia) (by show (acc.push v).size<=sizeLine+1;rw[Array.size_push,hz];lia)
  ·rw[Array.toList_push];exact Z'.other hS (λo e=>by rw[hS']at e;cases e;rfl) hS0 λc o c1 e=>(aH9 _ _ (aHh c1)).trans e
  ·show _<=(Heap.update _ _ _).objs.size;rw[Heap.size_update];exact aH5 hlt hl'
end
section
variable {prog:Program}{w:World}{A:Around}{E:aKe}{s:Shared}{z TI TO:Addr}{qs:List Src}{rows:List (List Value)}
theorem KW{h0 h:Heap}{z TI TO:Addr}{qs:List Src}{rows:List (List Value)}{i:Nat}{vs:List Value}(Z:ZC h0 h z TI TO qs rows i vs):h.objs.size≠z/\h.objs.size≠TI/\h.objs.size≠TO/\(∀q∈qs,h.objs.size≠q.it):=by
 have lt:∀a o,h.get? a=some o->h.objs.size≠a:=λa o e=>aIz (aGl e);refine⟨?_,?_,?_,λq hq=>?_⟩
 ·rcases Z.obj with e | ⟨_,_,_,e,_⟩ <;> exact lt _ _ e
 ·obtain⟨_,e⟩:=Z.aI;exact lt _ _ e
 ·obtain⟨_,_,_,e⟩:=Z.own;exact lt _ _ e
 ·obtain⟨o,e,_⟩:=(Z.at_ q hq).obj;exact lt _ _ e
theorem ZC.start{h:Heap}(Z:fQ h z TI TO qs .none 0):ZC h h z TI TO qs rows 0 []:=⟨.inl Z.obj,Z.aI,Z.own,Z.at_,rfl,λj v r h1=>by simp at h1,List.nodup_nil,λc o _ _ _ e=>e⟩
theorem AZ{R:Result->Shared->Prop}(hh:A.handled=none)(D:dG z TI TO qs)(hsz:qs.length<=sizeLine)(hne:qs≠[]){h0:Heap}(RR:ZR h0 qs rows)(hn:rows.length<=sizeLine)(Z:ZC h0 s.heap z TI TO qs rows 0 [])(hlt:h0.objs.size<=s.heap.objs.size){S:Addr}(hS:S≠z/\S≠TI/\S≠TO/\(∀q∈qs,S≠q.it))(hS0:h0.get? S=none)(res:Value){c₀:Nat}
  (hS1:s.heap.get? S=some {cls:= .type "list",data:= .seq #[] c₀})
  (hR:∀h' acc' c',ZF h0 h' z TO qs rows acc'.toList->h'.get? S=some {cls:= .type "list",dict:=none,data:= .seq acc' c',slots:= #[]}->R (.ok (.ret res)) {s with heap:=h'}):
  wpAny (model prog w) A.in1 (Builtin.List.listExtendWith (.ref S) (.ref z) res)
   (λfin s' =>match fin with | .done f=>R (.ok f) s' | .again c' =>c'.quiet=true/\codeAny (model prog w) A c' R s') (λe s' =>R (.error e) s') s:=by
 unfold Builtin.List.listExtendWith;refine aGb (aI7 Z.type ?_);have h1:Builtin.List.listSameRef (.ref S) (.ref z)=false:=by simp[Builtin.List.listSameRef,hS.1]
 have h2:(Value.type "zip"==Value.type "list")=false:=by decide
 have h3:(Value.type "zip"==Value.type "tuple")=false:=by decide
 simp only[h1,h2,h3,Bool.or_false,Bool.false_eq_true,if_false]
 have hob:s.heap.get? z=some {cls:= .type "zip",dict:=none,data:= .fields #[.none,.bool false,.bool false,.ref TI,.ref TO],slots:= #[]}\/∃T fl,s.heap.get? z=some (vO T fl TI TO):=by
  rcases Z.obj with e | ⟨T,fl,_,e,_⟩
  ·exact .inl e
  ·exact .inr ⟨T,fl,e⟩
 have hit:∀(Q:aKe) (E:aKe),Q (.ref z) s->wpAny (model prog w) A.in1 (pyIter (.ref z)) Q E s:=λQ E q=>by
  refine aIu Z.type aJs (aGw aJs Z.type F.entry_zip_iter ?_ (F.args_zip_iter_1 _));exact aGd ⟨_,rfl,"zip",_,Z.type,aHr.lookup,q⟩
 refine aGb (hit _ _ ?_);refine aGb (aH7 ?_);unfold Builtin.List.listLengthHint;refine aGb (aJu Z.type DS ?_);show wpAny _ A.in1 (specialOf (Value.ref z) (Str.ofString "__length_hint__") >>=_) _ _ _;refine aGb (aJu Z.type A0 ?_);refine aGd ?_
 have key:∀(h:Heap) (c₁:Nat),ZC h0 h z TI TO qs rows 0 []->h0.objs.size<=h.objs.size->h.get? S=some {cls:= .type "list",data:= .seq #[] c₁}->codeAny (model prog w) A (.builtin "list.extend.loop" ⟨[.ref S,.ref z,res],[]⟩) R {s with heap:=h}:=λh c₁ Z1 hl hS2=>
  DT hh D hsz hne RR hn hS hS0 res rows.length 0 {s with heap:=h} #[] c₁ rfl (aHp _) Z1 hl hS2 λh' acc' c' z1 z2=>hR h' acc' c' z1 z2
 refine aJv (λ_=>?_) (λ_=>aGd ⟨aI2 aJz _,key _ c₀ Z hlt hS1⟩);refine aGb (aHg ?_);refine aGb ?_;show wpAny _ A.in1 (updateSeq S (·.push .none) >>=λ_=>updateSeq S (·.pop)) _ _ _;refine aGb (aHq hS1 rfl ?_);have hS₂:=aHf (Obj.mapSeq (·.push Value.none)) hS1 rfl;refine aHq (hz:=by seq_fits) hS₂ rfl ?_;have hS₃:=aHf (Obj.mapSeq (·.pop)) hS₂ rfl;refine aGd ⟨aI2 aJz _,key _ _ ?_ ?_ hS₃⟩
 ·refine Z.other hS (λo e=>by rw[hS1]at e;cases e;rfl) hS0 λc o c1 e=>?_;exact(aH9 _ _ (aHh c1)).trans ((aH9 _ _ (aHh c1)).trans e)
 ·rw[Heap.size_update,Heap.size_update];exact hlt
theorem ZC.push{h0 h:Heap}{i:Nat}{vs:List Value}(Z:ZC h0 h z TI TO qs rows i vs)(o:Obj):ZC h0 (h.push o) z TI TO qs rows i vs:=by
 have up:∀c o',h.get? c=some o' ->(h.push o).get? c=some o' :=λc o' e=>aGe _ e;refine⟨?_,?_,?_,λq hq=>(Z.at_ q hq).to λo' e=>up _ _ e,Z.len,λj v r h1 h2=>?_,Z.nd,λc o' c1 c2 c3 e=>up _ _ (Z.keep c o' c1 c2 c3 e)⟩
 ·rcases Z.obj with e | ⟨T,fl,o',e1,e2,e3⟩
  ·exact .inl (up _ _ e)
  ·exact .inr ⟨T,fl,o',up _ _ e1,up _ _ e2,e3⟩
 ·obtain⟨n,e⟩:=Z.aI;exact⟨n,up _ _ e⟩
 ·obtain⟨xs,n,l,e⟩:=Z.own;exact⟨xs,n,l,up _ _ e⟩
 ·obtain⟨a,e1,e2,e3⟩:=Z.tup j v r h1 h2;exact⟨a,e1,up _ _ e2,e3⟩
theorem A1{Q:List Value->Shared->Prop}(hh:A.handled=none)(D:dG z TI TO qs)(hsz:qs.length<=sizeLine)(hne:qs≠[])(Z0:fQ s.heap z TI TO qs .none 0)(RR:ZR s.heap qs rows)(hn:rows.length<=sizeLine)
  (hQ:∀h' vs,ZF s.heap h' z TO qs rows vs->s.heap.objs.size<h'.objs.size->Q vs {s with heap:=h'}):wpAny (model prog w) A (collect (.ref z)) Q E s:=by
 have Z:ZC s.heap s.heap z TI TO qs rows 0 []:=ZC.start Z0;unfold collect;refine aGb (wpAny_runValue (aHn F.entry_proto_collect ?_));rw[Around.under_plainId F.plain_proto_collect _];show wpAny _ A.in1 (newList [] >>=λl=>again (.builtin "list.__iadd__" ⟨[l,.ref z],[]⟩)) _ _ s;refine aGb (aH3 ?_);refine aGd ⟨aI2 F.plain_list_iadd _,aHn F.entry_list_iadd ?_⟩;rw[Around.under_plainId F.plain_list_iadd _];have hS₁:(s.heap.push {cls:= .type "list",data:= .seq ([]:List Value).toArray}).get? s.heap.objs.size=some {cls:= .type "list",data:= .seq #[]}:=aGj _ rfl
 have hS0:s.heap.get? s.heap.objs.size=none:=by
  cases e:s.heap.get? s.heap.objs.size with
  | none=>rfl
  | some o=>exact absurd (aGl e) (aHx _)
 show wpAny _ A.in1 (Builtin.List.listExtendWith (.ref s.heap.objs.size) (.ref z) (.ref s.heap.objs.size)) _ _ _
 have key:=AZ (prog:=prog) (w:=w) (A:=A) (s:={s with heap:=s.heap.push {cls:= .type "list",data:= .seq ([]:List Value).toArray}})
  (R:=λ(q:Result) (s' :Shared)=>∃(h' :Heap) (acc' :Array Value) (c' :Nat),q= .ok (.ret (.ref s.heap.objs.size))/\s' ={s with heap:=h'}/\ZF s.heap h' z TO qs rows acc'.toList/\h'.get? s.heap.objs.size=some {cls:= .type "list",dict:=none,data:= .seq acc' c',slots:= #[]})
  hh D hsz hne RR hn (Z.push _) (by rw[size_push'];lia) (KW Z) hS0 (.ref s.heap.objs.size) hS₁ (λh' acc' c' z1 z2=>⟨h',acc',c',rfl,rfl,z1,z2⟩)
 refine aH6 key (λfin s' x=>?_) λe s' x=>?_
 ·cases fin with
  | done f=>
   obtain⟨h',acc',c',e,rfl,z1,hS'⟩:=x;cases e;show wpAny _ A (load s.heap.objs.size >>=_) _ _ _;refine aGb (aK0 hS' ?_);exact aGd (hQ h' _ z1 (aGl hS'))
  | again c₁=>
   refine⟨x.1,aIi x.2 λq s₂ y=>?_⟩;obtain⟨h',acc',c',rfl,rfl,z1,hS'⟩:=y;show wpAny _ A (load s.heap.objs.size >>=_) _ _ _;refine aGb (aK0 hS' ?_);exact aGd (hQ h' _ z1 (aGl hS'))
 ·obtain⟨_,_,_,e',_⟩:=x;cases e'
theorem vB{Q₁:aKe}(hh:A.handled=none)(D:dG z TI TO qs)(hsz:qs.length<=sizeLine)(hne:qs≠[])(Z0:fQ s.heap z TI TO qs .none 0)(RR:ZR s.heap qs rows)(hn:rows.length<=sizeLine)
  (h:∀h' vs,ZF s.heap h' z TO qs rows vs->s.heap.objs.size<h'.objs.size->Q₁ (.ref h'.objs.size) {s with heap:=h'.push {cls:= .type "tuple",data:= .seq vs.toArray}}):
  codeAny (model prog w) A (.call (.builtin "tuple.__new__") ⟨[.type "tuple",.ref z],[]⟩) (wants Q₁ E) s:=by
 refine aJt ?_;show wpAny _ A.in1 (do checkBuiltinCall "tuple.__new__" ⟨[.type "tuple",.ref z],[]⟩;again (.builtin "tuple.__new__" ⟨[.type "tuple",.ref z],[]⟩)) _ _ s;refine aGb (aIv (F.newCall_tuple_1 _) (aGd ⟨aI2 F.plain_tuple_new _,aHn F.entry_tuple_new ?_⟩));rw[Around.under_plainId F.plain_tuple_new _];have hsub:=sub_tuple_self;have hinit:=init_tuple_lookup;have hmh:=madeHere_tuple
 have hTI:s.TypeIs (.ref z) "zip":=⟨_,Z0.obj,rfl⟩
 wp_walk using aI7 hTI,A1 (A:=A.in1) hh D hsz hne Z0 RR hn
 intro h' vs zf hsl;show wpAny _ _ (Builtin.Tuple.tupleExact vs.toArray >>=λv=>ret v) _ _ _;unfold Builtin.Tuple.tupleExact;refine aGb (aH3 ?_ (by show vs.toArray.size<=sizeLine;simp only[List.size_toArray];rw[zf.len];exact hn));refine aGd ?_;exact h h' vs zf hsl
theorem vD{Q:aKe}(hh:A.handled=none)(D:dG z TI TO qs)(hsz:qs.length<=sizeLine)(hne:qs≠[])(Z0:fQ s.heap z TI TO qs .none 0)(RR:ZR s.heap qs rows)(hn:rows.length<=sizeLine)
  (hQ:∀h' vs,ZF s.heap h' z TO qs rows vs->s.heap.objs.size<h'.objs.size->Q (.ref h'.objs.size) {s with heap:=h'.push {cls:= .type "tuple",data:= .seq vs.toArray}}):
  wpAny (model prog w) A (call (.type "tuple") [.ref z]) Q E s:=by
 refine callType_codes (Q₁:=λobj s₁=>s₁.TypeIs obj "tuple"/\Q obj s₁) F.called_tuple (F.typeCall_tuple_1 _) F.entry_object_init
  (vB hh D hsz hne Z0 RR hn λh' vs zf hsl=>⟨⟨_,aGj _ rfl,rfl⟩,hQ h' vs zf hsl⟩) λobj s₁ h₁=>?_
 exact⟨h₁.1,F.args_object_init_2 obj _,object_init_meets F.called_tuple.init.lookup F.called_tuple.made (by decide) prog w A.in1 _ s₁ ⟨h₁.1,rfl,h₁.2⟩⟩
theorem wF{Q:aKe}(hh:A.handled=none)(D:dG z TI TO qs)(hsz:qs.length<=sizeLine)(hne:qs≠[])(Z0:fQ s.heap z TI TO qs .none 0)(RR:ZR s.heap qs rows)(hn:rows.length<=sizeLine)
  (hQ:∀h' vs c,ZF s.heap h' z TO qs rows vs->h'.get? s.heap.objs.size=some {cls:= .type "list",dict:=none,data:= .seq vs.toArray c,slots:= #[]}->Q (.ref s.heap.objs.size) {s with heap:=h'}):
  wpAny (model prog w) A (call (.type "list") [.ref z]) Q E s:=by
 have Z:ZC s.heap s.heap z TI TO qs rows 0 []:=ZC.start Z0
 refine callType_codes (Q₁:=λobj s₁=>obj= .ref s.heap.objs.size/\s₁={s with heap:=s.heap.push {cls:= .type "list",data:= .seq #[]}}) PySem.F.called_list (PySem.F.typeCall_list_1 _) PySem.F.entry_list_init
  (code_list_new _ ⟨rfl,rfl⟩) λobj s₁ h₁=>?_
 obtain⟨rfl,rfl⟩:=h₁;have hS:(s.heap.push {cls:= .type "list",data:= .seq #[]}).get? s.heap.objs.size=some {cls:= .type "list",data:= .seq #[]}:=aGj _ rfl
 have hS0:s.heap.get? s.heap.objs.size=none:=by
  cases e:s.heap.get? s.heap.objs.size with
  | none=>rfl
  | some o=>exact absurd (aGl e) (aHx _)
 refine⟨⟨_,hS,rfl⟩,PySem.F.args_list_init_2 _ _,?_⟩;show wpAny _ _ (do let old<-Builtin.List.listItems (.ref s.heap.objs.size);Builtin.List.listUpdate (.ref s.heap.objs.size) (λ_=>#[]);letGo old.toList.reverse;Builtin.List.listExtendWith (.ref s.heap.objs.size) (.ref z) .none) _ _ _;refine aGb ?_;unfold Builtin.List.listItems;refine aGb (aHc hS rfl (aGd ?_));show wpAny _ _ (updateSeq s.heap.objs.size (λ_=>#[]) >>=λ_=>letGo (#[]:Array Value).toList.reverse >>=λ_=>Builtin.List.listExtendWith (.ref s.heap.objs.size) (.ref z) .none) _ _ _;refine aGb (aHq hS rfl ?_);have hS₂:=aHf (Obj.mapSeq (λ_=>(#[]:Array Value))) hS rfl;refine aGb (wpAny_letGo ?_);refine AZ (A:=A.in1) hh D hsz hne RR hn ((Z.push _).other (KW Z) (λo e=>by rw[hS]at e;cases e;rfl) hS0 λc o c1 e=>(aH9 _ _ (aHh c1)).trans e) ?_ (KW Z) hS0 .none hS₂ λh' acc' c' z1 z2=>?_
 ·rw[Heap.size_update,size_push'];lia
 ·exact⟨rfl,hQ h' acc'.toList c' z1 (by simpa using z2)⟩
end
section
variable {X:Cx}{pins:List (Addr×Obj)}{σ:St}{H H' :Hp}{s:Shared}
theorem Inv.YZ{fp:List Addr}{h' :Heap}{t' :Nat}(I:Inv X pins σ H s)(hf:∀b∈fp,mZ X pins H b)(k:∀b o,b∉fp->s.heap.get? b=some o->h'.get? b=some o)
  (hold:∀b,b<s.heap.objs.size->H' b=H b) (new:∀b o,s.heap.objs.size<=b->H' b=some o->dA X.prog X.w H' h' b o):Inv X pins σ H' {s with heap:=h',toks:=t'}:=by
 have ntr:∀b u,H b=some u->b∉fp:=λb u e z=>by rw[(hf b z).1]at e;cases e
 have up:∀b u,H b=some u->H' b=some u:=λb u e=>by rw[hold b (I.bZ b u e).lt];exact e
 refine I.step (g' :=s.gens) (d' :=s.drawn) (ch:=fp) (λb hb=>⟨(hf b hb).2.2.2.1,(hf b hb).2.1,(hf b hb).2.2.2.2.1,(hf b hb).2.2.2.2.2⟩) (λb o _ _ hc e _=>k b o hc e) (λb o _ _ hc e _=>⟨o.slots,k b o hc e⟩)
  (λb o _ e n=>by rw[hold b (Heap.lt_size e)];exact n) (λb o hc e=>⟨o,k b o hc e⟩) (λb xs e=>up _ _ e) (λb o u e=>up _ _ e)
  (λb ps e=>⟨#[],by rw[up _ _ e];simp⟩) (λm hm=>?_) (λb u e=>?_) I.bare
 ·obtain⟨o,es,ep,ho,r⟩:=hm;exact⟨o,es,ep,k _ o (λz=>(hf _ z).2.1 rfl) ho,r⟩
 ·by_cases hb:b<s.heap.objs.size
  ·rw[hold b hb]at e;refine(I.bZ b u e).sA (λc v hc q=>k c v ?_ q) (λc q=>up _ _ q) λc xs q=>up _ _ q;rcases hc with rfl | hc
   ·exact ntr _ u e
   ·exact ntr _ _ hc
  ·exact new b u (aIl hb) e
end
structure O6{α:Type}(cols rows:List (List α)):Prop where
 row:∀(i:Nat) r,rows[i]? =some r->r.length=cols.length/\∀(j:Nat) xs x,cols[j]? =some xs->r[j]? =some x->xs[i]? =some x
 fin:∃(k:Nat) (vals:List α) (xs:List α),vals.length=k/\cols[k]? =some xs/\xs[rows.length]? =none/\∀(j:Nat) ys x,cols[j]? =some ys->vals[j]? =some x->ys[rows.length]? =some x
open Classical in
noncomputable def qB(H:Hp):List Addr->List (List V)->Hp
 | a::as,r::rs=>upd (qB H as rs) a (.tup r)
 | _,_=>H
theorem iV{H:Hp}:∀{as:List Addr} {rs:List (List V)} {b:Addr},b∉as->qB H as rs b=H b
 | [],rs,b,_=>by cases rs <;> rfl
 | a::as,[],b,_=>rfl
 | a::as,r::rs,b,h=>by
  simp only[List.mem_cons,not_or]at h;show upd (qB H as rs) a (.tup r) b=H b;rw[aP h.1];exact iV h.2
theorem yN{H:Hp}:∀{as:List Addr} {rs:List (List V)} {j:Nat} {a:Addr} {r:List V},as.Nodup->as[j]? =some a->rs[j]? =some r->qB H as rs a=some (.tup r)
 | [],rs,j,a,r,_,h,_=>by simp at h
 | a' ::as,[],j,a,r,_,_,h=>by simp at h
 | a' ::as,r' ::rs,0,a,r,_,h1,h2=>by
  simp at h1 h2;subst h1 h2;show upd _ _ _ _=_;rw[bK]
 | a' ::as,r' ::rs,j+1,a,r,nd,h1,h2=>by
  simp at h1 h2;have hne:a≠a' :=λz=>(aI6.mp nd).1 (z▸aGo h1);show upd _ _ _ _=_;rw[aP hne];exact yN (aI6.mp nd).2 h1 h2
theorem KU{H:Hp}:∀{as:List Addr} {rs:List (List V)} {b:Addr} {o:HO},as.Nodup->b∈as->(∀a∈as,H a=none)->qB H as rs b=some o->∃(j:Nat) (r:List V),as[j]? =some b/\rs[j]? =some r/\o= .tup r
 | as,rs,b,o,nd,hb,hn,e=>by
  obtain⟨j,hj⟩:=aGt.mp hb
  cases hr:rs[j]? with
  | some r=>rw[yN nd hj hr]at e;cases e;exact⟨j,r,hj,hr,rfl⟩
  | none=>
   exfalso
   have go:∀{as:List Addr} {rs:List (List V)} {j:Nat},as.Nodup->as[j]? =some b->rs[j]? =none->qB H as rs b=H b:=by
    intro as
    induction as with
    | nil=>intro rs j _ h _;simp at h
    | cons a as ih=>
     intro rs j nd h1 h2
     cases rs with
     | nil=>rfl
     | cons r rs=>
      cases j with
      | zero=>simp at h2
      | succ j=>
       simp at h1 h2;have hne:b≠a:=λz=>(aI6.mp nd).1 (z▸aGo h1);show upd _ _ _ _=_;rw[aP hne];exact ih (aI6.mp nd).2 h1 (by simpa using h2)
   rw[go nd hj hr,hn b hb]at e;cases e
def VG(K:aKd)(T:String)(n:Nat)(ta:TA):TE:=λσ H Q=>ta σ H λvs H1=>∃(src:List (Addr×Bool)) (cols rows:List (List V)),vs=src.map (λp=>V.ref p.1)/\src.length=n/\cols.length=n/\(∀(j:Nat) p xs,src[j]? =some p->cols[j]? =some xs->HN K H1 p.2 p.1 xs)/\
 O6 cols rows/\rows.length<=sizeLine/\∀(as:List Addr) (p:Addr),as.length=rows.length->as.Nodup->(∀a∈as,H1 a=none)->H1 p=none->p∉as->Q (.ref p) (upd (qB H1 as rows) p (if T= "tuple" then .tup (as.map .ref) else .lst (as.map .ref)))
theorem lA:∀(as:List Addr),Vals (as.map V.ref) (as.map Value.ref)
 | []=>.nil
 | a::as=>.cons rfl (lA as)
theorem aBe{P:Nat->List Value->List V->Prop}:∀{rs:List (List V)},(∀(i:Nat) r,rs[i]? =some r->∃us,P i us r)->∃uss:List (List Value),uss.length=rs.length/\∀(i:Nat) us r,uss[i]? =some us->rs[i]? =some r->P i us r:=by
 intro rs
 induction rs generalizing P with
 | nil=>intro _;exact⟨[],rfl,λi us r h=>by simp at h⟩
 | cons r rs ih=>
  intro h;obtain⟨us,hu⟩:=h 0 r rfl;obtain⟨uss,hl,hp⟩:=ih (P:=λi=>P (i+1)) λi r hr=>h (i+1) r (by simpa using hr);refine⟨us::uss,by simp[hl],λi us' r' h1 h2=>?_⟩
  cases i with
  | zero=>simp at h1 h2;subst h1 h2;exact hu
  | succ i=>exact hp i us' r' (by simpa using h1) (by simpa using h2)
theorem F7{X:Cx}{pins:List (Addr×Obj)}{σ:St}{H1:Hp}{s1:Shared}{h' :Heap}{T:String}{rows:List (List V)}{uss:List (List Value)}{vs:List Value}{zz TO:Addr}{qs:List Src}{p:Addr}{c:Nat}(I1:Inv X pins σ H1 s1)(fpo:∀b,b=zz\/b=TO\/(∃q∈qs,b=q.it)->mZ X pins H1 b)
  (hT:T= "tuple"\/T= "list") (hl:uss.length=rows.length) (hv:∀(i:Nat) us r,uss[i]? =some us->rows[i]? =some r->Vals r us) (hn:rows.length<=sizeLine) (hn2:∀r∈rows,r.length<=sizeLine)
  (zf:ZF s1.heap h' zz TO qs uss vs) (hp:s1.heap.objs.size<=p) (ho:h'.get? p=some {cls:= .type T,dict:=none,data:= .seq vs.toArray c,slots:= #[]}) (hpt:∀(j:Nat) a,vs[j]? =some (.ref a)->a≠p):
  ∃as:List Addr,as.length=rows.length/\as.Nodup/\(∀a∈as,H1 a=none)/\H1 p=none/\p∉as/\Inv X pins σ (upd (qB H1 as rows) p (if T= "tuple" then .tup (as.map .ref) else .lst (as.map .ref))) {s1 with heap:=h'}:=by
 have hx:∀v∈vs,∃a,v= .ref a:=λv hv=>by
  obtain⟨j,hj⟩:=aGt.mp hv;have hjl:j<uss.length:=by have:=(aGc.mp hj).1;rw[zf.len]at this;exact this
  obtain⟨a,e,_⟩:=zf.tup j v _ hj (aGp hjl);exact⟨a,e⟩
 obtain⟨as,rfl⟩:∃as:List Addr,vs=as.map Value.ref:=by
  clear zf ho hpt
  induction vs with
  | nil=>exact⟨[],rfl⟩
  | cons v vs ih=>
   obtain⟨a,rfl⟩:=hx v (by simp);obtain⟨as,rfl⟩:=ih λv hv=>hx v (by simp[hv]);exact⟨a::as,rfl⟩
 have hal:as.length=rows.length:=by have:=zf.len;simp at this;lia
 have nd:as.Nodup:=by
  have:=zf.nd;rw[List.nodup_iff_pairwise_ne]at this⊢;rw[List.pairwise_map]at this;exact this.imp λh z=>h (by rw[z])
 have at_:∀(j:Nat) a r,as[j]? =some a->rows[j]? =some r->∃us,Vals r us/\h'.get? a=some {cls:= .type "tuple",data:= .seq us.toArray}/\s1.heap.objs.size<=a:=λj a r h1 h2=>by
  have hjl:j<uss.length:=by have:=(aGc.mp h2).1;lia
  have hu:=aGp hjl;obtain⟨a',e1,e2,e3⟩:=zf.tup j (.ref a) _ (by rw[List.getElem?_map,h1];rfl) hu;cases e1;exact⟨_,hv j _ r hu h2,e2,e3⟩
 have new:∀a∈as,s1.heap.objs.size<=a:=λa ha=>by
  obtain⟨j,hj⟩:=aGt.mp ha;have hjl:j<rows.length:=by have:=(aGc.mp hj).1;lia
  obtain⟨_,_,_,h⟩:=at_ j a _ hj (aGp hjl);exact h
 have hfr:∀a∈as,H1 a=none:=λa ha=>I1.bZ.fresh (new a ha)
 have hpn:p∉as:=λha=>by
  obtain⟨j,hj⟩:=aGt.mp ha;exact hpt j p (by rw[List.getElem?_map,hj];rfl) rfl
 refine⟨as,hal,nd,hfr,I1.bZ.fresh hp,hpn,?_⟩;refine I1.YZ (fp:=zz::TO::qs.map (·.it)) (t' :=s1.toks) (λb hb=>fpo b ?_) (λb o hb e=>zf.keep b o (λz=>hb (by simp[z])) (λz=>hb (by simp[z])) (λq hq z=>hb (by simp;exact .inr (.inr ⟨q,hq,z.symm⟩))) e) (λb hb=>?_) (λb o hb e=>?_)
 ·simp at hb;rcases hb with rfl | rfl | ⟨q,hq,rfl⟩
  ·exact .inl rfl
  ·exact .inr (.inl rfl)
  ·exact .inr (.inr ⟨q,hq,rfl⟩)
 ·rw[aP (Nat.ne_of_lt (Nat.lt_of_lt_of_le hb hp)),iV λha=>Nat.lt_irrefl _ (Nat.lt_of_lt_of_le hb (new b ha))]
 ·by_cases hbp:b=p
  ·subst hbp;rw[bK]at e;cases e;rcases hT with rfl | rfl
   ·simp only[if_true];exact⟨by simp;lia,_,lA as,⟨_,ho,rfl,c,rfl⟩,λo' e' =>by rw[ho]at e';cases e';rfl⟩
   ·rw[if_neg (by decide)];exact⟨by simp;lia,_,c,lA as,ho⟩
  ·rw[aP hbp]at e;by_cases hba:b∈as
   ·obtain⟨j,r,h1,h2,rfl⟩:=KU nd hba hfr e;obtain⟨us,v,g,_⟩:=at_ j b r h1 h2;exact⟨hn2 r (aGo h2),us,v,⟨_,g,rfl,0,rfl⟩,λo' e' =>by rw[g]at e';cases e';rfl⟩
   ·rw[iV hba,I1.bZ.fresh hb]at e;cases e
theorem ME{X:Cx}{n:Nat}{T:String}{t:Str}{e:Expr}{es:List Expr}{ta:TA}{p0 p1 pos pos1:Pos}(z:KA n)(hn:0<n/\n<=1000)(hc:X.calm=true)(hT:(t= "tuple"/\T= "tuple")\/(t= "list"/\T= "list"))(hgT:Gl X t)(hmT:X.mg t=none)(hvT:bootBuiltins t=some (.type T))(hg:Gl X "zip")(hm:X.mg "zip"=none)(ha:PA X (e::es) ta)
  (hv:bootBuiltins "zip"=some (.type "zip"):=by decide+kernel)
  (he:starEach (e::es) X.env=(false,eval e X.env)::starEach es X.env:=by rfl) (hpl:(backTo pos (starEach es X.env)).any (·.1)=false:=by rfl)
  (he1:starEach [.Call (.Name "zip" p0) (e::es) [] pos] X.env=(false,eval (.Call (.Name "zip" p0) (e::es) [] pos) X.env)::starEach [] X.env:=by rfl) (hpl1:(backTo pos1 (starEach [] X.env)).any (·.1)=false:=by rfl):
  PE X (.Call (.Name t p1) [.Call (.Name "zip" p0) (e::es) [] pos] [] pos1) (VG X.K T n ta):=by
 intro pins s σ H Q I h;have hTT:T= "tuple"\/T= "list":=hT.elim (λh=>.inl h.2) λh=>.inr h.2;refine aIa (nZ I hgT hmT hvT ?_ (by rcases hT with ⟨rfl,_⟩ | ⟨rfl,_⟩ <;> decide) (by rcases hT with ⟨rfl,_⟩ | ⟨rfl,_⟩ <;> decide));refine aHw ?_ he1 hpl1;rw[he1];show wpAny _ _ (spliced ((false,eval (.Call (.Name "zip" p0) (e::es) [] pos) X.env)::backTo pos1 (starEach [] X.env))) _ _ s;refine aI9 ?_;refine aIa (nZ I hg hm hv ?_);refine aHw (cD (ha pos pins s σ H _ I h) λus s1 ⟨vs,H1,I1,r1,q1⟩=>?_) he hpl;obtain⟨src,cols,rows,rfl,hl,hcl,hs,RO,hrl,hR⟩:=q1;have hu:=gI r1;subst hu;have em:(src.map λp=>Value.ref p.1)=(src.map λp=>(⟨0,p.1,p.2⟩:Src)).map λq=>Value.ref q.l:=by rw[List.map_map];rfl
 have hz:src.length<=sizeLine:=aIh (wW (by lia))
 have col:∀(j:Nat) p,src[j]? =some p->∃xs,cols[j]? =some xs/\HN X.K H1 p.2 p.1 xs:=λj p hj=>by
  have hjl:j<cols.length:=by have:=(aGc.mp hj).1;lia
  exact⟨_,aGp hjl,hs j p _ hj (aGp hjl)⟩
 rw[em];refine yD (by simpa using hz) (z.t _ (by simpa using hl)) (z.n _ (by simpa using hl)) (λobj=>z.i _ obj (by simpa using hl)) (λq hq=>?_) λh' zz TI TO t1 t2 t3 D Z kp=>?_
 ·obtain⟨p,hp,rfl⟩:=aGm.mp hq;obtain⟨j,hj⟩:=aGt.mp hp;obtain⟨xs,_,hx⟩:=col j p hj;obtain⟨aI,_,hsq⟩:=I1.ZZ hx;exact⟨aI.toArray,hsq 0⟩
 ·generalize hqs:bN s1.heap.objs.size (src.map λp=>(⟨0,p.1,p.2⟩:Src))=qs at D Z;have hql:qs.length=src.length:=by rw[<-hqs,fB];simp
  have hqsrc:(qs.map λq=>(q.l,q.tup))=src:=by rw[<-hqs];exact n4 _ _
  have I2:Inv X pins σ H1 {s1 with heap:=h'}:=I1.kept (t' :=s1.toks) kp
  have fpo:∀b,b=zz\/b=TO\/(∃q∈qs,b=q.it)->mZ X pins H1 b:=λb hb=>by
   have hb0:s1.heap.objs.size<=b:=by
    rcases hb with rfl | rfl | ⟨q,hq,rfl⟩
    ·exact t3
    ·exact t2
    ·rw[<-hqs]at hq;exact(dY hq).1
   exact(I1.OG hb0 (I1.bZ.fresh hb0):mZ X pins H1 b)
  have hqj:∀(j:Nat) q,qs[j]? =some q->∃xs aI,cols[j]? =some xs/\Vals xs aI/\q.Sq h' aI.toArray:=λj q hj=>by
   have h1:src[j]? =some (q.l,q.tup):=by rw[<-hqsrc,List.getElem?_map,hj];rfl
   obtain⟨xs,e1,hx⟩:=col j _ h1;obtain⟨aI,r,hsq⟩:=I2.ZZ hx;exact⟨xs,aI,e1,r,hsq q.it⟩
  have hne:qs≠[]:=by intro e0;rw[e0]at hql;simp at hql;lia
  have colq:∀(j:Nat) xs,cols[j]? =some xs->∃q,qs[j]? =some q:=λj xs hj=>by
   have:j<qs.length:=by have:=(aGc.mp hj).1;lia
   exact⟨_,aGp this⟩
  have pickRow:∀(i:Nat) (vals:List V),(∀(j:Nat) xs x,cols[j]? =some xs->vals[j]? =some x->xs[i]? =some x)->vals.length<=cols.length->∃us:List Value,Vals vals us/\∀(j:Nat) q u,qs[j]? =some q->us[j]? =some u->∃items,q.Sq h' items/\items[i]? =some u:=λi vals hh hvl=>by
   obtain⟨us,ru,pu⟩:=MC (P:=λj u=>∀q,qs[j]? =some q->∃items,q.Sq h' items/\items[i]? =some u) (vs:=vals) λj v ev=>by
    have hjl:j<qs.length:=by have:=(aGc.mp ev).1;lia
    obtain⟨xs,aI,e1,r,hsq⟩:=hqj j _ (aGp hjl);obtain⟨u,hu,ru⟩:=r.get (hh j xs v e1 ev);refine⟨u,ru,λq hq=>?_⟩;rw[List.getElem?_eq_getElem hjl]at hq;cases hq;exact⟨aI.toArray,hsq,by simpa using hu⟩
   exact⟨us,ru,λj q u hq hu=>pu j u hu q hq⟩
  obtain⟨uss,hul,hup⟩:=aBe (P:=λi us r=>Vals r us/\∀(j:Nat) q u,qs[j]? =some q->us[j]? =some u->∃items,q.Sq h' items/\items[i]? =some u) (rs:=rows) λi r hr=>by
   obtain⟨e1,e2⟩:=RO.row i r hr;exact pickRow i r e2 (by lia)
  have RR:ZR h' qs uss:=by
   refine⟨λi us hus=>?_,?_⟩
   ·have hil:i<rows.length:=by have:=(aGc.mp hus).1;lia
    obtain⟨v,w⟩:=hup i us _ hus (aGp hil);refine⟨?_,w⟩;have:=(RO.row i _ (aGp hil)).1;rw[<-v.length,this];lia
   ·obtain⟨k,vals,xs,e1,e2,e3,e4⟩:=RO.fin;have hkl:k<cols.length:=(aGc.mp e2).1;obtain⟨us,ru,pu⟩:=pickRow rows.length vals e4 (by lia);obtain⟨q,hq⟩:=colq k xs e2;obtain⟨xs',aI,g1,g2,g3⟩:=hqj k q hq;rw[e2]at g1;cases g1;refine⟨k,us,by rw[<-ru.length];exact e1,by lia,λj q u a b=>by rw[hul];exact pu j q u a b,q,aI.toArray,hq,g3,?_⟩;rw[hul,List.getElem?_toArray];exact g2.none_of e3
  have hh:X.A.handled=none:=I.ok.hd hc
  have hrr:∀r∈rows,r.length<=sizeLine:=λr hr=>by
   obtain⟨i,hi⟩:=aGt.mp hr;have:=(RO.row i r hi).1;lia
  refine aJb ?_;have fpo2:∀b,b=zz\/b=TO\/(∃q∈qs,b=q.it)->mZ X pins H1 b:=fpo;rcases hTT with rfl | rfl
  ·refine vD hh D (by lia) hne Z RR (by lia) λh2 vs zf hsl=>?_
   have zf2:ZF h' (h2.push {cls:= .type "tuple",data:= .seq vs.toArray}) zz TO qs uss vs:=⟨zf.len,zf.nd,λj v r a b=>by obtain⟨x,y1,y2,y3⟩:=zf.tup j v r a b;exact⟨x,y1,aGe _ y2,y3⟩,λc o c1 c2 c3 e=>aGe _ (zf.keep c o c1 c2 c3 e)⟩
   obtain⟨as,a1,a2,a3,a4,a5,a6⟩:=F7 (s1:={s1 with heap:=h'}) (T:= "tuple") (p:=h2.objs.size) (c:=0) I2 fpo (.inl rfl) hul (λi us r h1 h2=>(hup i us r h1 h2).1) hrl hrr zf2 (aIh hsl) (aGj _ rfl) (λj a ha=>by
    have hjl:j<uss.length:=by have:=(aGc.mp ha).1;rw[zf.len]at this;exact this
    obtain⟨x,y1,y2,_⟩:=zf.tup j _ _ ha (aGp hjl);cases y1
    exact aGu (aGl y2))
   exact⟨.ref h2.objs.size,_,a6,rfl,hR as _ a1 a2 a3 a4 a5⟩
  ·refine wF hh D (by lia) hne Z RR (by lia) λh2 vs c zf hob=>?_
   obtain⟨as,a1,a2,a3,a4,a5,a6⟩:=F7 (s1:={s1 with heap:=h'}) (T:= "list") (p:=h'.objs.size) (c:=c) I2 fpo (.inr rfl) hul (λi us r h1 h2=>(hup i us r h1 h2).1) hrl hrr zf (aGi _) hob (λj a ha z=>by
    have hjl:j<uss.length:=by have:=(aGc.mp ha).1;rw[zf.len]at this;exact this
    obtain⟨x,y1,y2,_⟩:=zf.tup j _ _ ha (aGp hjl);cases y1;rw[z,hob]at y2;injection y2 with y2;injection y2 with y2
    simp at y2)
   exact⟨.ref h'.objs.size,_,a6,rfl,hR as _ a1 a2 a3 a4 a5⟩
end L2
namespace D3
open PySem PySem.Spec PyProof.Rows L2
def aM{α:Type}:List (List α)->List (List α)
 | []=>[]
 | [c]=>c.map λx=>[x]
 | c::d::cs=>List.zipWith List.cons c (aM (d::cs))
theorem rowsOf{α:Type}:∀(cols:List (List α)),cols≠[]->O6 cols (aM cols)
 | [],h=>absurd rfl h
 | [c],_=>by
  refine⟨λi r h=>?_,0,[],c,rfl,rfl,by simp[aM],λj ys x _ h=>by simp at h⟩;simp only[aM,List.getElem?_map]at h;obtain⟨x,hx,rfl⟩:=aHb.mp h;refine⟨rfl,λj xs y h1 h2=>?_⟩
  cases j with
  | zero=>simp at h1 h2;subst h1 h2;exact hx
  | succ j=>simp at h2
 | c::d::cs,_=>by
  have ih:=rowsOf (d::cs) (by simp);simp only[aM];generalize aM (d::cs)=rs at ih;refine⟨λi r h=>?_,?_⟩
  ·rw[List.getElem?_zipWith]at h
   cases h1:c[i]? with
   | none=>simp[h1]at h
   | some x=>
    cases h2:rs[i]? with
    | none=>simp[h1,h2]at h
    | some r' =>
     simp[h1,h2]at h;subst h;obtain⟨e1,e2⟩:=ih.row i r' h2;refine⟨by simp[e1],λj xs y g1 g2=>?_⟩
     cases j with
     | zero=>simp at g1 g2;subst g1 g2;exact h1
     | succ j=>exact e2 j xs y (by simpa using g1) (by simpa using g2)
  ·by_cases hl:c.length<=rs.length
   ·refine⟨0,[],c,rfl,rfl,?_,λj ys x _ h=>by simp at h⟩;rw[List.length_zipWith,Nat.min_eq_left hl];simp
   ·obtain⟨k,vals,xs,g1,g2,g3,g4⟩:=ih.fin;have e:(List.zipWith List.cons c rs).length=rs.length:=by rw[List.length_zipWith];lia
    refine⟨k+1,c[rs.length]'(by lia)::vals,xs,by simp[g1],by simpa using g2,by rw[e];exact g3,λj ys x h1 h2=>?_⟩;rw[e]
    cases j with
    | zero=>simp at h1 h2;subst h1 h2;exact aGp _
    | succ j=>exact g4 j ys x (by simpa using h1) (by simpa using h2)
def kB(mh:MH):List D->Option (List (List D))
 | []=>some []
 | x::xs=>match bG mh x,kB mh xs with | some c,some cs=>some (c::cs) | _,_=>none
def wTZ(n:Nat)(w:WA):WE:=λρ mh Q=>w ρ mh λxs mh1=>∃cols,kB mh1 xs=some cols/\xs.length=n/\(aM cols).length<=sizeLine/\Q (.tup ((aM cols).map .tup)) mh1
def wLZ(n:Nat)(w:WA):WE:=λρ mh Q=>w ρ mh λxs mh1=>∃cols,kB mh1 xs=some cols/\xs.length=n/\(aM cols).length<=sizeLine/\Q (.ref mh1.length) (mh1++[.lst ((aM cols).map .tup)])
section
variable {K:aKd}{μ:List Addr}{mh:MH}{H:Hp}
theorem GL(R:Rep K μ mh H):∀{xs:List D} {vs:List V} {cols:List (List D)},IsL K μ H xs vs->kB mh xs=some cols->∃(src:List (Addr×Bool)) (cv:List (List V)),vs=src.map (λp=>V.ref p.1)/\src.length=xs.length/\cv.length=xs.length/\cols.length=xs.length/\(∀(j:Nat) p c,src[j]? =some p->cv[j]? =some c->HN K H p.2 p.1 c)/\∀(j:Nat) c d,cv[j]? =some c->cols[j]? =some d->IsL K μ H d c
 | [],vs,cols,l,h=>by
  unfold IsL at l;subst l;simp[kB]at h;subst h;exact⟨[],[],rfl,rfl,rfl,rfl,λj p c h=>by simp at h,λj c d h=>by simp at h⟩
 | x::xs,vs,cols,l,h=>by
  unfold IsL at l;obtain⟨v,r,rfl,i,l⟩:=l;simp only[kB]at h
  cases h1:bG mh x with
  | none=>simp[h1]at h
  | some c=>
   cases h2:kB mh xs with
   | none=>simp[h1,h2]at h
   | some cs=>
    simp[h1,h2]at h;subst h;obtain⟨a,ys,rfl,sa,la⟩:=tR R i h1;obtain⟨src,cv,rfl,e1,e2,e3,e4,e5⟩:=GL R l h2;refine⟨(a,PD x)::src,ys::cv,rfl,by simp[e1],by simp[e2],by simp[e3],λj p c g1 g2=>?_,λj c d g1 g2=>?_⟩
    ·cases j with
     | zero=>simp at g1 g2;subst g1 g2;exact sa
     | succ j=>exact e4 j p c (by simpa using g1) (by simpa using g2)
    ·cases j with
     | zero=>simp at g1 g2;subst g1 g2;exact la
     | succ j=>exact e5 j c d (by simpa using g1) (by simpa using g2)
theorem F6:∀{cv:List (List V)} {cd:List (List D)},cv.length=cd.length->(∀(j:Nat) c d,cv[j]? =some c->cd[j]? =some d->IsL K μ H d c)->(aM cd).length=(aM cv).length/\∀(i:Nat) r d,(aM cv)[i]? =some r->(aM cd)[i]? =some d->IsL K μ H d r
 | [],cd,hl,h=>by
  have:cd=[]:=aHu.mp hl.symm;subst this;exact⟨rfl,λi r d g=>by simp[aM]at g⟩
 | [c],cd,hl,h=>by
  match cd,hl with
  | [d],_=>
   have l:=h 0 c d rfl rfl;refine⟨by simp[aM,aK l],λi r e g1 g2=>?_⟩;simp only[aM,List.getElem?_map]at g1 g2;obtain⟨x,hx,rfl⟩:=aHb.mp g1;obtain⟨y,hy,rfl⟩:=aHb.mp g2;obtain⟨v,k1,k2⟩:=eI l hy;rw[hx]at k1;cases k1;unfold IsL;exact⟨_,_,rfl,k2,by unfold IsL;rfl⟩
 | c::c2::cv,cd,hl,h=>by
  match cd,hl with
  | d::d2::cd,hl=>
   have l:=h 0 c d rfl rfl;obtain⟨e1,e2⟩:=F6 (cv:=c2::cv) (cd:=d2::cd) (by simpa using hl) λj c d g1 g2=>h (j+1) c d (by simpa using g1) (by simpa using g2);simp only[aM];generalize aM (c2::cv)=rv at e1 e2;generalize aM (d2::cd)=rd at e1 e2;refine⟨by rw[List.length_zipWith,List.length_zipWith,e1,aK l],λi r e g1 g2=>?_⟩;rw[List.getElem?_zipWith]at g1 g2
   cases h1:c[i]? with
   | none=>simp[h1]at g1
   | some x=>
    cases h2:rv[i]? with
    | none=>simp[h1,h2]at g1
    | some r' =>
     cases h3:d[i]? with
     | none=>simp[h3]at g2
     | some y=>
      cases h4:rd[i]? with
      | none=>simp[h3,h4]at g2
      | some r2=>
       simp[h1,h2]at g1;simp[h3,h4]at g2;subst g1 g2;obtain⟨v,k1,k2⟩:=eI l h3;rw[h1]at k1;cases k1;unfold IsL;exact⟨_,_,rfl,k2,e2 i r' r2 h2 h4⟩
theorem BC{H2:Hp}:∀{as:List Addr} {rv:List (List V)} {rd:List (List D)},as.length=rv.length->rd.length=rv.length->(∀(j:Nat) a r,as[j]? =some a->rv[j]? =some r->H2 a=some (.tup r))->(∀(i:Nat) r d,rv[i]? =some r->rd[i]? =some d->IsL K μ H2 d r)->IsL K μ H2 (rd.map .tup) (as.map V.ref)
 | [],rv,rd,h1,h2,_,_=>by
  have e1:rv=[]:=aHu.mp h1.symm;subst e1;have e2:rd=[]:=aHu.mp h2;subst e2;simp[IsL]
 | a::as,rv,rd,h1,h2,h3,h4=>by
  match rv,rd,h1,h2 with
  | r::rv,d::rd,h1,h2=>
   rw[List.map_cons,List.map_cons];unfold IsL;refine⟨_,_,rfl,?_,BC (by simpa using h1) (by simpa using h2) (λj a r g1 g2=>h3 (j+1) a r (by simpa using g1) (by simpa using g2)) λi r d g1 g2=>h4 (i+1) r d (by simpa using g1) (by simpa using g2)⟩;unfold Is;exact⟨a,r,rfl,.of (h3 0 a r rfl rfl),h4 0 r d rfl rfl⟩
end
section
variable {X:Cx}{n:Nat}{e:Expr}{es:List Expr}{wa:WA}{p0 p1 pos pos1:Pos}
theorem KS{σ:L2.St}{H:Hp}{Q:VK}{T:String}(hn:0<n)(w:WE)(hw:(T= "tuple"/\w=wTZ n wa)\/(T= "list"/\w=wLZ n wa))(h:tL X.K w σ H Q):VG X.K T n (tLA X.K wa) σ H Q:=by
 obtain⟨μ,ρ,mh,R,RR,En,h,F⟩:=h
 have main:∀(post:List D->MH->Prop),(∀xs mh1,post xs mh1->∃cols,kB mh1 xs=some cols/\xs.length=n/\(aM cols).length<=sizeLine/\(if T= "tuple" then R (.tup ((aM cols).map .tup)) mh1 else R (.ref mh1.length) (mh1++[.lst ((aM cols).map .tup)])))->wa ρ mh post->VG X.K T n (tLA X.K wa) σ H Q:=λpost hp h=>by
  refine⟨μ,ρ,mh,_,RR,En,h,λxs mh1 q μ1 vs H1 P1 R1 I1=>?_⟩;obtain⟨cols,hs,hl,hz,q⟩:=hp xs mh1 q;obtain⟨src,cv,rfl,e1,e2,e3,e4,e5⟩:=GL R1 I1 hs;obtain⟨z1,z2⟩:=F6 (by lia) e5;have S7:cv≠[]:=λz=>by subst z;simp at e2;lia
  refine⟨src,cv,aM cv,rfl,by lia,by lia,e4,rowsOf cv S7,by lia,λas p a1 a2 a3 a4 a5=>?_⟩
  have old:∀b o,H1 b=some o->qB H1 as (aM cv) b=some o:=λb o e=>by
   rw[iV λha=>by rw[a3 b ha]at e;cases e];exact e
  have P2:aN μ1 H1 μ1 (qB H1 as (aM cv)):=⟨⟨[],by simp⟩,λb o e _=>old b o e,λ_ h=>.inl h⟩
  have R2:Rep X.K μ1 mh1 (qB H1 as (aM cv)):=⟨R1.len,R1.nd,λn a ob h1 h2=>(R1.obj n a ob h1 h2).mono R1 P2 (iV λha=>R1.ne (a3 a ha) (aGo h1) rfl)⟩
  have hpf:qB H1 as (aM cv) p=none:=by rw[iV a5];exact a4
  have L:IsL X.K μ1 (qB H1 as (aM cv)) ((aM cols).map .tup) (as.map V.ref):=BC a1 z1 (λj a r g1 g2=>yN a2 g1 g2) λi r d g1 g2=>IsL.mono R1 P2 d r (z2 i r d g1 g2);by_cases hT:T= "tuple"
  ·simp only[if_pos hT]at q⊢;exact mN R2 (F.at (P1.trans P2)) L q p hpf
  ·simp only[if_neg hT]at q⊢;exact iH R2 (F.at (P1.trans P2)) L q p hpf
 rcases hw with ⟨rfl,rfl⟩ | ⟨rfl,rfl⟩
 ·exact main _ (λxs mh1 q=>by obtain⟨c,h1,h2,h3,h4⟩:=q;exact⟨c,h1,h2,h3,by simp only[if_true];exact h4⟩) h
 ·exact main _ (λxs mh1 q=>by obtain⟨c,h1,h2,h3,h4⟩:=q;exact⟨c,h1,h2,h3,by rw[if_neg (by decide)];exact h4⟩) h
theorem aC4(z:KA n)(hn:0<n/\n<=1000)(hc:X.calm=true)(hmT:X.mg "tuple"=none)(hm:X.mg "zip"=none)(ha:LA X (e::es) wa)(hgT:Gl X "tuple":=by rfl)(hg:Gl X "zip":=by rfl)
  (he:starEach (e::es) X.env=(false,eval e X.env)::starEach es X.env:=by rfl) (hpl:(backTo pos (starEach es X.env)).any (·.1)=false:=by rfl)
  (he1:starEach [.Call (.Name "zip" p0) (e::es) [] pos] X.env=(false,eval (.Call (.Name "zip" p0) (e::es) [] pos) X.env)::starEach [] X.env:=by rfl) (hpl1:(backTo pos1 (starEach [] X.env)).any (·.1)=false:=by rfl):
  LE X (.Call (.Name "tuple" p1) [.Call (.Name "zip" p0) (e::es) [] pos] [] pos1) (wTZ n wa):=
 PE.imp (ME z hn hc (.inl ⟨rfl,rfl⟩) hgT hmT vG hg hm ha (by decide+kernel) he hpl he1 hpl1) λσ H Q h=>KS hn.1 _ (.inl ⟨rfl,rfl⟩) h
theorem aC6(z:KA n)(hn:0<n/\n<=1000)(hc:X.calm=true)(hmT:X.mg "list"=none)(hm:X.mg "zip"=none)(ha:LA X (e::es) wa)(hgT:Gl X "list":=by rfl)(hg:Gl X "zip":=by rfl)
  (he:starEach (e::es) X.env=(false,eval e X.env)::starEach es X.env:=by rfl) (hpl:(backTo pos (starEach es X.env)).any (·.1)=false:=by rfl)
  (he1:starEach [.Call (.Name "zip" p0) (e::es) [] pos] X.env=(false,eval (.Call (.Name "zip" p0) (e::es) [] pos) X.env)::starEach [] X.env:=by rfl) (hpl1:(backTo pos1 (starEach [] X.env)).any (·.1)=false:=by rfl):
  LE X (.Call (.Name "list" p1) [.Call (.Name "zip" p0) (e::es) [] pos] [] pos1) (wLZ n wa):=
 PE.imp (ME z hn hc (.inr ⟨rfl,rfl⟩) hgT hmT HK hg hm ha (by decide+kernel) he hpl he1 hpl1) λσ H Q h=>KS hn.1 _ (.inr ⟨rfl,rfl⟩) h
@[simp] theorem s_tz {ρ:d7}{mh:MH}{Q:DK}{n:Nat}{w:WA}:wTZ n w ρ mh Q=(w ρ mh λxs mh1=>∃cols,kB mh1 xs=some cols/\xs.length=n/\(aM cols).length<=sizeLine/\Q (.tup ((aM cols).map .tup)) mh1):=rfl
@[simp] theorem s_lz {ρ:d7}{mh:MH}{Q:DK}{n:Nat}{w:WA}:wLZ n w ρ mh Q=(w ρ mh λxs mh1=>∃cols,kB mh1 xs=some cols/\xs.length=n/\(aM cols).length<=sizeLine/\Q (.ref mh1.length) (mh1++[.lst ((aM cols).map .tup)])):=rfl
end
def gS{α:Type}(xs:List α)(lo hi st:Option Int):List α:=(sliceRange (sliceBounds lo hi st xs.length).1 (sliceBounds lo hi st xs.length).2.1 (sliceBounds lo hi st xs.length).2.2).filterMap (xs[·]?)
theorem qD{xs:List V}{us:List Value}(r:Vals xs us):∀(is:List Nat),Vals (is.filterMap (xs[·]?)) (is.filterMap (us[·]?))
 | []=>.nil
 | i::is=>by
  cases h:xs[i]? with
  | none=>rw[List.filterMap_cons_none h,List.filterMap_cons_none (r.none_of h)];exact qD r is
  | some x=>
   obtain⟨u,hu,ru⟩:=r.get h;rw[List.filterMap_cons_some h,List.filterMap_cons_some hu];exact .cons ru (qD r is)
theorem uU{K:aKd}{μ:List Addr}{H:Hp}{ds:List D}{vs:List V}(l:IsL K μ H ds vs):∀(is:List Nat),IsL K μ H (is.filterMap (ds[·]?)) (is.filterMap (vs[·]?))
 | []=>by simp[IsL]
 | i::is=>by
  cases h:ds[i]? with
  | none=>
   have hv:vs[i]? =none:=by
    have:=aI0.mp h;exact aI0.mpr (by rw[aK l];exact this)
   rw[List.filterMap_cons_none h,List.filterMap_cons_none hv];exact uU l is
  | some x=>
   obtain⟨u,hu,ru⟩:=eI l h;rw[List.filterMap_cons_some h,List.filterMap_cons_some hu];unfold IsL;exact⟨_,_,rfl,ru,uU l is⟩
def aF7(K:aKd):V->Option Int->Option Int->Option Int->Hp->VK->Prop:=λx lo hi st H Q=>∃a xs,x= .ref a/\oH K H a xs/\st≠some 0/\∀p,H p=none->Q (.ref p) (upd H p (.lst (gS xs lo hi st)))
def aE3(r:V->Option Int->Option Int->Option Int->Hp->VK->Prop)(te:TE)(tl th ts:TO):TE:=λσ H Q=>te σ H λx H1=>tl σ H1 λl H2=>th σ H2 λu H3=>ts σ H3 λst H4=>r x l u st H4 Q
section
variable {X:Cx}{e est:Expr}{te:TE}{lo hi:Option Expr}{tl th ts:TO}{pos p2:Pos}
theorem IL(he:PE X e te)(hl:PO X lo tl)(hu:PO X hi th)(hst:PO X (some est) ts):PE X (.Subscript e (.Slice lo hi (some est) p2) pos) (aE3 (aF7 X.K) te tl th ts):=by
 intro pins s σ H Q I h;refine Subscript_ (cD (he pins s σ H _ I h) λv s1 zz0=>?_);obtain⟨x,H1,I1,r1,q1⟩:=zz0;refine wpAny_Slice (cD (hl pins s1 σ H1 _ I1 q1) λvl s2 ⟨l,H2,I2,pl,q2⟩=>cD (hu pins s2 σ H2 _ I2 q2) λvu s3 ⟨u,H3,I3,pu,q3⟩=>cD (hst pins s3 σ H3 _ I3 q3) λvs s4 zz1=>?_);obtain⟨st,H4,I4,ps,q4⟩:=zz1;have I5:Inv X pins σ H4 {s4 with heap:=s4.heap.push {cls:= .type "slice",data:= .fields #[vl,vu,vs]}}:=I4.kept (t' :=s4.toks) λb ob q=>aGe _ q;obtain⟨a,xs,rfl,hx,h0,q⟩:=q4;cases r1;obtain⟨aI,r,ht,hz⟩:=I5.list hx;have hlen:=r.length;show wpAny (model X.prog X.w) X.A (subscriptTail e (.Slice lo hi (some est) p2) (.ref a) (.ref s4.heap.objs.size)) (EP X pins σ Q) X.xe {s4 with heap:=s4.heap.push {cls:= .type "slice",data:= .fields #[vl,vu,vs]}};refine tail_any (ops:=[.ref a,.ref s4.heap.objs.size]) ht.isList.typeIs slot_list_getitem.lookup ?_ (by with_unfolding_all rfl);refine wpAny_getItem_list_slice ht.isList (Heap.IsSliceOf.new ..) pl pu ps h0 ?_ (by rw[List.size_toArray] <;> lia)
 have hp:Vals (gS xs l u st) (slicePick aI.toArray l u st).toList:=by
  unfold slicePick gS;rw[List.size_toArray,hlen,List.toList_toArray];have e:(λi:Nat=>aI.toArray[i]?)=λi=>aI[i]? :=by funext i;simp
  rw[e];exact qD r _
 have hsz:=slicePick_size_le aI.toArray l u st;refine⟨.ref _,_,I5.laid (t' :=s4.toks) (o:= .lst (gS xs l u st)) (λb ob q=>aGe _ q) (aGi _) ?_,rfl,q _ (I5.bZ.fresh (aGi _))⟩;refine⟨?_,_,0,hp,?_⟩
 ·rw[hp.length,Array.length_toList];simp at hsz;lia
 ·rw[Array.toArray_toList];exact aGj _ rfl
end
section
variable {X:Cx}{e est:Expr}{w:WE}{lo hi:Option Expr}{wl wh ws:WO}{pos p2:Pos}
def K3(w:WE)(wl wh ws:WO):WE:=λρ mh Q=>w ρ mh λx mh1=>wl ρ mh1 λl mh2=>wh ρ mh2 λu mh3=>ws ρ mh3 λst mh4=>∃ds,mU mh4 x=some ds/\st≠some 0/\Q (.ref mh4.length) (mh4++[.lst (gS ds l u st)])
theorem XZ(he:LE X e w)(hl:LO X lo wl)(hh:LO X hi wh)(hs:LO X (some est) ws):LE X (.Subscript e (.Slice lo hi (some est) p2) pos) (K3 w wl wh ws):=PE.imp (IL he hl hh hs) λσ H Q q=>by
 obtain⟨μ,ρ,mh,R,RR,E,h,F⟩:=q;refine⟨μ,ρ,mh,_,RR,E,h,λdx mh1 h1 μ1 vx H1 P1 R1 I1=>⟨μ1,ρ,mh1,_,R1,E.mono RR P1,h1,λl mh2 h2 μ2 H2 P2 R2=>⟨μ2,ρ,mh2,_,R2,E.mono RR (P1.trans P2),h2,λu mh3 h3 μ3 H3 P3 R3=>⟨μ3,ρ,mh3,_,R3,E.mono RR ((P1.trans P2).trans P3),h3,λst mh4 h4 μ4 H4 P4 R4=>?_⟩⟩⟩⟩;obtain⟨ds,hl,h0,q⟩:=h4;obtain⟨a,vs,rfl,sq,il⟩:=uP R4 (Is.mono R1 ((P2.trans P3).trans P4) dx vx I1) hl;refine⟨a,vs,rfl,sq,h0,iH R4 (F.at (((P1.trans P2).trans P3).trans P4)) (ds:=gS ds l u st) ?_ q⟩;unfold gS;rw[aK il];exact uU il _
@[simp] theorem s_sl3 {ρ:d7}{mh:MH}{Q:DK}:K3 w wl wh ws ρ mh Q=(w ρ mh λx mh1=>wl ρ mh1 λl mh2=>wh ρ mh2 λu mh3=>ws ρ mh3 λst mh4=>∃ds,mU mh4 x=some ds/\st≠some 0/\Q (.ref mh4.length) (mh4++[.lst (gS ds l u st)])):=rfl
end
def lY{α:Type}:List α->List α
 | []=>[]
 | [a]=>[a]
 | a::_::r=>a::lY r
def uK{α:Type}:List α->List α
 | []=>[]
 | [_]=>[]
 | _::b::r=>b::uK r
theorem rN{α:Type}:∀(xs:List α),(List.range ((xs.length+1) / 2)).filterMap (λk=>xs[2*k]?)=lY xs
 | []=>by simp[lY]
 | [a]=>by simp[lY]
 | a::b::r=>by
  have e:((a::b::r).length+1) / 2=(r.length+1) / 2+1:=by simp only[List.length_cons];lia
  rw[e,List.range_succ_eq_map,List.filterMap_cons_some (b:=a) (by simp),List.filterMap_map,lY,<-rN r];congr 1
theorem uE{α:Type}:∀(xs:List α),(List.range (xs.length / 2)).filterMap (λk=>xs[2*k+1]?)=uK xs
 | []=>by simp[uK]
 | [a]=>by simp[uK]
 | a::b::r=>by
  have e:(a::b::r).length / 2=r.length / 2+1:=by simp only[List.length_cons];lia
  rw[e,List.range_succ_eq_map,List.filterMap_cons_some (b:=b) (by simp),List.filterMap_map,uK,<-uE r];congr 1
theorem EI{α:Type}(xs:List α):gS xs none none (some 2)=lY xs:=by
 rw[<-rN];unfold gS sliceRange sliceBounds;simp only[Option.getD_some,show (2:Int) > 0 by lia,if_true];have e:(if (0:Int)<xs.length then ((xs.length:Int)-0+2-1) / 2 else 0).toNat=(xs.length+1) / 2:=by split <;> lia
 rw[e,List.filterMap_map];congr 1;funext k;have:((0:Int)+2*(k:Int)).toNat=2*k:=by lia
 simp only[Function.comp,this]
theorem IJ{α:Type}(xs:List α):gS xs (some 1) none (some 2)=uK xs:=by
 rw[<-uE];unfold gS sliceRange sliceBounds;simp only[Option.getD_some,show (2:Int) > 0 by lia,if_true,show ¬((1:Int)<0) by lia,if_false];by_cases h0:xs.length=0
 ·have:xs=[]:=aHu.mp h0;subst this;simp
 ·have em:max 0 (min (1:Int) (xs.length:Int))=1:=by lia
  rw[em];have e:(if (1:Int)<xs.length then ((xs.length:Int)-1+2-1) / 2 else 0).toNat=xs.length / 2:=by split <;> lia
  rw[e,List.filterMap_map];congr 1;funext k;have:((1:Int)+2*(k:Int)).toNat=2*k+1:=by lia
  simp only[Function.comp,this]
def GD(wo wi wx:WE):WE:=λρ mh Q=>wo ρ mh λo mh1=>∃n,o= .ref n/\(∃kvs,mh1[n]? =some (.dic false kvs))/\wi ρ mh1 λi mh2=>wx ρ mh2 λx mh3=>∃kvs key,mh3[n]? =some (.dic false kvs)/\i=bC key/\Q ((bI kvs i).getD x) mh3
def wL(wo wi wx:WE):WE:=λρ mh Q=>wo ρ mh λo mh1=>∃n,o= .ref n/\(∃kvs,mh1[n]? =some (.dic false kvs))/\wi ρ mh1 λi mh2=>wx ρ mh2 λx mh3=>∃kvs key,mh3[n]? =some (.dic false kvs)/\i=bC key/\kvs.length<sizeLine/\
 (∀v,bI kvs i=some v->Q v mh3)/\(bI kvs i=none->Q x (mh3.set n (.dic false (putD kvs i x))))
open Classical in
noncomputable def c8(kvs:List (D×D))(k:D):List (D×D):=kvs.filter λp=>decide (p.1≠k)
def K7(wo wi:WE):WS:=λE ρ mh=>wo ρ mh λo mh1=>wi ρ mh1 λi mh2=>∃n kvs key,o= .ref n/\mh2[n]? =some (.dic false kvs)/\i=bC key/\(bI kvs i).isSome=true/\E.nx ρ (mh2.set n (.dic false (c8 kvs i)))
theorem C5{K:aKd}{μ:List Addr}{H:Hp}(key:Key):∀{kvs:List (D×D)} {kk:List (Key×V)},kvs.map (·.1)=kk.map (λp=>bC p.1)->IsL K μ H (kvs.map (·.2)) (kk.map (·.2))->
  (c8 kvs (bC key)).map (·.1)=(f6 kk key).map (λp=>bC p.1)/\IsL K μ H ((c8 kvs (bC key)).map (·.2)) ((f6 kk key).map (·.2))
 | [],[],_,_=>⟨rfl,by simp[c8,f6,IsL]⟩
 | [],_::_,h,_=>by simp at h
 | _::_,[],h,_=>by simp at h
 | p::kvs,q::kk,h,l=>by
  simp only[List.map_cons,List.cons.injEq]at h;simp only[List.map_cons]at l;unfold IsL at l;obtain⟨w,r,e,i,l⟩:=l;simp only[List.cons.injEq]at e;obtain⟨rfl,rfl⟩:=e;obtain⟨h1,h2⟩:=C5 key h.2 l;by_cases hk:q.1=key
  ·have hp:p.1=bC key:=by rw[h.1,hk]
   have e1:c8 (p::kvs) (bC key)=c8 kvs (bC key):=by unfold c8;rw[List.filter_cons_of_neg (by simp[hp])]
   have e2:f6 (q::kk) key=f6 kk key:=by unfold f6;rw[List.filter_cons_of_neg (by simp[hk])]
   rw[e1,e2];exact⟨h1,h2⟩
  ·have hp:¬p.1=bC key:=λz=>hk (pN (h.1.symm.trans z));have e1:c8 (p::kvs) (bC key)=p::c8 kvs (bC key):=by unfold c8;rw[List.filter_cons_of_pos (by simp[hp])]
   have e2:f6 (q::kk) key=q::f6 kk key:=by unfold f6;rw[List.filter_cons_of_pos (by simp[hk])]
   rw[e1,e2];refine⟨by simp[h.1,h1],?_⟩;simp only[List.map_cons];unfold IsL;exact⟨_,_,rfl,i,h2⟩
section
variable {X:Cx}{o i x:Expr}{wo wi wx:WE}{apos dE pos tpos:Pos}
theorem NT{K:aKd}{μ:List Addr}{mh:MH}{H:Hp}{n:Nat}{v:V}{kvs:List (D×D)}(R:Rep K μ mh H)(h:Is K μ H (.ref n) v)(e:mh[n]? =some (.dic false kvs)):∃a,v= .ref a/\IsD H a:=by
 obtain⟨a,vs,rfl,hn,⟨kk,hv,_,_⟩,_⟩:=oD R h e;exact⟨a,rfl,.inl ⟨kk,.inl hv⟩⟩
theorem SI(hu:X.A.units+64<cLine)(ho:LE X o wo)(hi:LE X i wi)(hx:LE X x wx)(base:attributeBase o "get" X.env (eval o X.env)=eval o X.env:=by rfl)
  (PF:((backTo dE (starEach [i,x] X.env)).all (λx=>!x.1) && (backToKw dE (keywordEach [] X.env)).all (λx=>x.1.isSome) && decide (([i,x]:List Expr).length+([]:List Keyword).length+(if ([]:List Keyword).isEmpty then 0 else 1)<30))=true:=by rfl)
  (line:(apos.endLine==dE.line)=true:=by rfl) (trees:backTo dE (starEach [i,x] X.env)=[(false,eval i X.env),(false,eval x X.env)]:=by rfl):
  LE X (.Call (.Attribute o "get" apos) [i,x] [] dE) (GD wo wi wx):=PE.imp (MJ (by lia) ho hi hx ⟨base,PF,line,trees⟩) λσ H Q h=>by
 obtain⟨μ,ρ,mh,R,RR,En,h,F⟩:=h;refine⟨μ,ρ,mh,_,RR,En,h,λdo' mh1 q μ1 vo H1 P1 R1 I1=>?_⟩;obtain⟨n,rfl,⟨kvs0,e0⟩,q⟩:=q;obtain⟨a,rfl,hD⟩:=NT R1 I1 e0;refine⟨a,rfl,hD,μ1,ρ,mh1,_,R1,En.mono RR P1,q,λdi mh2 q2 μ2 vi H2 P2 R2 I2=>?_⟩;refine⟨μ2,ρ,mh2,_,R2,En.mono RR (P1.trans P2),q2,λdx mh3 q3 μ3 vx H3 P3 R3 I3=>?_⟩;obtain⟨kvs,key,e,rfl,q⟩:=q3;obtain⟨a',vs,ea,hn,⟨kk,hv,ek,rfl⟩,l⟩:=oD R3 (Is.mono R1 (P2.trans P3) _ _ I1) e;cases ea;cases mM I2;have F3:=F.at ((P1.trans P2).trans P3)
 rcases mH key ek l with ⟨h1,h2⟩ | ⟨d',w,h1,h2,iw⟩
 ·rw[h2]at q;exact⟨none,by rw[<-h1];exact .k hv,F3.here R3 q I3⟩
 ·rw[h2]at q;exact⟨some w,by rw[<-h1];exact .k hv,F3.here R3 q iw⟩
theorem Q7{td ty tx:TE}(ho:PE X o td)(he:PE X i ty)(hf:PE X x tx)(m:M2 X o "setdefault" apos i x dE):PE X (.Call (.Attribute o "setdefault" apos) [i,x] [] dE)
  (λσ H Q=>td σ H λx H1=>∃a,x= .ref a/\IsD H1 a/\ty σ H1 λy H2=>tx σ H2 λz H3=>∃kvs k,H3 a=some (.dK kvs)/\y=kV k/\kvs.length<sizeLine/\(∀v,jH kvs k=some v->Q v H3)/\(jH kvs k=none->Q z (upd H3 a (.dK (putK kvs k z))))):=by
 intro pins s σ H Q I h;refine wpAny_Call_method m.base m.PF m.line PySem.F.plainAttrs_dict aJw PySem.F.type_dict_setdefault (cD (ho pins s σ H _ I h) λu s1 zz0=>?_);obtain⟨x,H1,I1,rx,a,ex,d,q1⟩:=zz0;subst ex;obtain rfl:u=Value.ref a:=rx;obtain⟨t1,t2,_⟩:=NU I1 d;refine⟨t1,t2,?_⟩;rw[m.trees]
 refine aJd rfl (aJq (aI9 (cD (he pins s1 σ H1 _ I1 q1) λiv s2 ⟨y,H2,I2,ry,q2⟩=>
  aI9 (cD (hf pins s2 σ H2 _ I2 q2) λfv s3 ⟨z,H3,I3,rz,kvs,k,e,ey,hlt,qa,qb⟩=>aJb ?_))))
 subst ey;obtain⟨zz,hd,vs,rel,dd⟩:=HF I3.bZ e;have hz:vs.length<=sizeLine:=by rw[<-rel.length];exact zz
 refine call_meetsIn aJw dd.typeIs PySem.F.entry_dict_setdefault (PySem.F.args_dict_setdefault_3 _ _ _) (kt_meets_setdefault (aV X.prog X.w) a (uS ry) hd fv) ⟨vs,dd,hz,λv hv=>?_,λhn h' dd' hs=>?_⟩
 ·have rv:=rel.val k;rw[hv]at rv
  cases hvv:jH kvs k with
  | none=>rw[hvv]at rv;exact rv.elim
  | some v' =>rw[hvv]at rv;exact⟨v',H3,I3.tok _,rv,qa v' hvv⟩
 ·have rv:=rel.val k;rw[hn]at rv
  cases hvv:jH kvs k with
  | some v' =>rw[hvv]at rv;exact rv.elim
  | none=>
   have hl:(putK kvs k z).length<=sizeLine:=by have:=lR kvs k z;lia
   have he:∃q,h'.get? a=some q:=let ⟨q,_,_,hq,_⟩:=dd';⟨q,hq⟩;exact⟨z,_,sP I3 (by rw[e];exact True.intro) hs he (FL hl hd (rel.put k rz) dd'),rz,qb hvv⟩
theorem SG(ho:LE X o wo)(hi:LE X i wi)(hx:LE X x wx)(base:attributeBase o "setdefault" X.env (eval o X.env)=eval o X.env:=by rfl)
  (PF:((backTo dE (starEach [i,x] X.env)).all (λx=>!x.1) && (backToKw dE (keywordEach [] X.env)).all (λx=>x.1.isSome) && decide (([i,x]:List Expr).length+([]:List Keyword).length+(if ([]:List Keyword).isEmpty then 0 else 1)<30))=true:=by rfl)
  (line:(apos.endLine==dE.line)=true:=by rfl) (trees:backTo dE (starEach [i,x] X.env)=[(false,eval i X.env),(false,eval x X.env)]:=by rfl):
  LE X (.Call (.Attribute o "setdefault" apos) [i,x] [] dE) (wL wo wi wx):=PE.imp (Q7 ho hi hx ⟨base,PF,line,trees⟩) λσ H Q h=>by
 obtain⟨μ,ρ,mh,R,RR,En,h,F⟩:=h;refine⟨μ,ρ,mh,_,RR,En,h,λdo' mh1 q μ1 vo H1 P1 R1 I1=>?_⟩;obtain⟨n,rfl,⟨kvs0,e0⟩,q⟩:=q;obtain⟨a,rfl,hD⟩:=NT R1 I1 e0;refine⟨a,rfl,hD,μ1,ρ,mh1,_,R1,En.mono RR P1,q,λdi mh2 q2 μ2 vi H2 P2 R2 I2=>?_⟩;refine⟨μ2,ρ,mh2,_,R2,En.mono RR (P1.trans P2),q2,λdx mh3 q3 μ3 vx H3 P3 R3 I3=>?_⟩;obtain⟨kvs,key,e,rfl,hz,qa,qb⟩:=q3;obtain⟨a',vs,ea,hn,⟨kk,hv,ek,rfl⟩,l⟩:=oD R3 (Is.mono R1 (P2.trans P3) _ _ I1) e;cases ea;cases mM I2;have F3:=F.at ((P1.trans P2).trans P3);have ln:kk.length=kvs.length:=by have:=aHk List.length ek;simp at this;lia
 refine⟨kk,key,hv,rfl,by lia,λv hvv=>?_,λhvv=>?_⟩
 ·rcases mH key ek l with ⟨h1,h2⟩ | ⟨d',w,h1,h2,iw⟩
  ·rw[hvv]at h1;cases h1
  ·rw[hvv]at h1;cases h1;exact F3.here R3 (qa d' h2) iw
 ·rcases mH key ek l with ⟨h1,h2⟩ | ⟨d',w,h1,h2,iw⟩
  ·have P4:aN μ3 H3 μ3 (upd H3 a (.dK (putK kk key vx))):=aN.set R3 hn;obtain⟨p1,p2⟩:=GN (f:=bC) pN key I3 ek l;have R4:Rep X.K μ3 (mh3.set n (.dic false (putD kvs (bC key) dx))) (upd H3 a (.dK (putK kk key vx))):=AE R3 hn (by trivial) ⟨_,⟨_,bK,p1,rfl⟩,p2.mono R3 P4⟩;exact F3 _ _ (qb h2) μ3 _ _ P4 R4 (Is.mono R3 P4 _ _ I3)
  ·rw[hvv]at h1;cases h1
theorem RX(ho:LE X o wo)(hi:LE X i wi):LS X (.Delete [.Subscript o i tpos] pos) (K7 wo wi):=PS.imp (QZ ho hi) λD σ H h=>by
 obtain⟨μ,ρ,mh,E,R,En,h,F⟩:=h;refine⟨μ,ρ,mh,_,R,En,h,λdo' mh1 q μ1 vo H1 P1 R1 I1=>?_⟩;refine⟨μ1,ρ,mh1,_,R1,En.mono R P1,q,λdi mh2 q2 μ2 vi H2 P2 R2 I2=>?_⟩;obtain⟨n,kvs,key,rfl,e,rfl,hs,q⟩:=q2;obtain⟨a,vs,rfl,hn,⟨kk,hv,ek,rfl⟩,l⟩:=oD R2 (Is.mono R1 P2 _ _ I1) e;cases mM I2;have P3:aN μ2 H2 μ2 (upd H2 a (.dK (f6 kk key))):=aN.set R2 hn;obtain⟨p1,p2⟩:=C5 key ek l;have R3:Rep X.K μ2 (mh2.set n (.dic false (c8 kvs (bC key)))) (upd H2 a (.dK (f6 kk key))):=AE R2 hn (by trivial) ⟨_,⟨_,bK,p1,rfl⟩,p2.mono R2 P3⟩;have P03:=(P1.trans P2).trans P3;refine⟨a,kk,key,rfl,hv,rfl,?_,F.nx ρ _ q μ2 σ _ P03 R3 (En.mono R P03)⟩
 rcases mH key ek l with ⟨h1,h2⟩ | ⟨d',w,h1,h2,iw⟩
 ·rw[h2]at hs;cases hs
 ·rw[h1];rfl
@[simp] theorem aEy {ρ:d7}{mh:MH}{Q:DK}:GD wo wi wx ρ mh Q=(wo ρ mh λo mh1=>∃n,o= .ref n/\(∃kvs,mh1[n]? =some (.dic false kvs))/\wi ρ mh1 λi mh2=>wx ρ mh2 λx mh3=>∃kvs key,mh3[n]? =some (.dic false kvs)/\i=bC key/\Q ((bI kvs i).getD x) mh3):=rfl
@[simp] theorem aEw {ρ:d7}{mh:MH}{Q:DK}:wL wo wi wx ρ mh Q↔wo ρ mh λo mh1=>∃n,o= .ref n/\(∃kvs,mh1[n]? =some (.dic false kvs))/\wi ρ mh1 λi mh2=>wx ρ mh2 λx mh3=>∃kvs key,mh3[n]? =some (.dic false kvs)/\i=bC key/\kvs.length<sizeLine/\
 (∀v,bI kvs i=some v->Q v mh3)/\(bI kvs i=none->Q x (mh3.set n (.dic false (putD kvs i x)))):=Iff.rfl
@[simp] theorem aEz {ρ:d7}{mh:MH}{E:eO}:K7 wo wi E ρ mh=(wo ρ mh λo mh1=>wi ρ mh1 λi mh2=>∃n kvs key,o= .ref n/\mh2[n]? =some (.dic false kvs)/\i=bC key/\(bI kvs i).isSome=true/\E.nx ρ (mh2.set n (.dic false (c8 kvs i)))):=rfl
end
def ZV(K:aKd)(x:Str)(st:Stmt)(i:Int):Prop:=∃f oc od dt dc dd n t ds kV doc pm an cd ct sl,PySem.W.nsIn K mainGlobals x=some (some (.ref f))/\
 K.lookup f=some ⟨oc,od,.func (PySem.W.fnOf x x (cM st) (bU st) (aC st) (.ref dt) kV doc pm an cd ct),sl⟩/\K.lookup dt=some ⟨dc,dd,.seq #[.int i t] n,ds⟩/\PySem.W.codeIn K cd x=true/\PySem.W.keepIn K (.ref f)=true
theorem aDp{K:aKd}{x:Str}{st:Stmt}{i:Int}{f dt:Addr}{oc dc:Value}{od an dd:Option Addr}{sl ds:Array (Option Value)}{n:Nat}{t:Tok}{kV doc pm cd ct:Value}(a:PySem.W.nsIn K mainGlobals x=some (some (.ref f)))
  (l:K.lookup f=some ⟨oc,od,.func (PySem.W.fnOf x x (cM st) (bU st) (aC st) (.ref dt) kV doc pm an cd ct),sl⟩) (l2:K.lookup dt=some ⟨dc,dd,.seq #[.int i t] n,ds⟩) (c:PySem.W.codeIn K cd x=true) (k:PySem.W.keepIn K (.ref f)=true):ZV K x st i:=⟨f,oc,od,dt,dc,dd,n,t,ds,kV,doc,pm,an,cd,ct,sl,a,l,l2,c,k⟩
def UY(x:Str)(st:Stmt)(ps:List Str):Prop:=∀(kV doc pm:Value) (an:Option Addr) (cdv ct:Value) (us:List Value) (d:Value) (s:Shared) (dt:Addr) (o:Obj) (n:Nat),us.length+1=ps.length->s.heap.get? dt=some o->o.data= .seq #[d] n->
 BindsTo s (PySem.W.fnOf x x (cM st) (bU st) (aC st) (.ref dt) kV doc pm an cdv ct) ⟨us,[]⟩ (ps.zip (us++[d]))
def ZU(P:Program)(w:World)(K:aKd)(mg:aKg)(base:Heap)(k:Nat)(x:Str)(ps:List Str)(i:Int)(s:OA):Prop:=
 ∃f fd t,iU P w K mg base AY k f fd ps (LD K s)/\mg x=some (.ref f)/\PySem.W.keepIn K (.ref f)=true/\Binds K fd ps [.int i t]
theorem ZU.mono{P:Program}{w:World}{K:aKd}{mg:aKg}{base:Heap}{j k:Nat}{x:Str}{ps:List Str}{i:Int}{s:OA}(h:ZU P w K mg base j x ps i s)(hk:j<=k):ZU P w K mg base k x ps i s:=
 let ⟨f,fd,t,a,b,c,d⟩:=h;⟨f,fd,t,a.mono hk,b,c,d⟩
def dfl(i:Int)(s:OA):OA:=λds mh Q=>s (ds++[.int i]) mh Q
section
variable {X:Cx}{e:Expr}{es:List Expr}{x:Str}{p pos:Pos}{wr:WA}
theorem NH{k:Nat}{ps:List Str}{i:Int}{s:OA}(F:ZU X.prog X.w X.K X.mg X.base k x ps i s)(hr:fR k X.A)(ha:LA X (e::es) wr)(hg:Gl X x:=by rfl)(hdb:(x==("__debug__":Str))=false:=by decide)
  (he:starEach (e::es) X.env=(false,eval e X.env)::starEach es X.env:=by rfl) (hpl:(backTo pos (starEach es X.env)).any (·.1)=false:=by rfl):LE X (.Call (.Name x p) (e::es) [] pos) (aG (dfl i s) wr):=by
 obtain⟨f,fd,t,a,b,c,d⟩:=F;refine PE.imp (GQ a hr hg b c d (.cons (show RelV (.int i) (.int i t) from ⟨t,rfl⟩) .nil) UG ha hdb he hpl) λσ H Q h=>?_;obtain⟨μ,ρ,mh,R,RR,E,h,Fi⟩:=h;refine⟨μ,ρ,mh,_,RR,E,h,λds mh1 h1 μ1 vs H1 P1 R1 I1=>?_⟩;exact⟨μ1,mh1,ds++[.int i],R,R1,eJ I1 (jN (show Is X.K μ1 H1 (.int i) (.int i) from .int)),(show s (ds++[.int i]) mh1 R from h1),Fi.at P1⟩
end
section
variable {P:Program}{w:World}{K:aKd}{mg:aKg}{base:Heap}{h:Heap}
theorem Y0{x:Str}{st:Stmt}{N ps:List Str}{k:Nat}{i:Int}{s:OA}{wB:WS}(Dx:ZV K x st i)(KX:K.In h)(G:h.Ns mainGlobals mg)(bd:UY x st ps)(S:aU N ps (aC st))(hb:vN P w K mg base k x N st wB)(len:∀ds mh R,s ds mh R->ds.length=ps.length)
  (hw:∀ds mh R,kM mh->s ds mh R->wB {nx:=λ_ mh1=>Out mh.length .b6 mh1 R,rt:=λd mh1=>Out mh.length d mh1 R} (aJ N ds) mh):ZU P w K mg base (k+1) x ps i s:=by
 obtain⟨f,oc,od,dt,dc,dd,n,t,dsl,kV,doc,pm,an,cd,ct,sl,a,l,l2,c,kp⟩:=Dx;refine⟨f,_,t,UR l c S (λvs H Q E h=>?_) (λA outer sh H vs Q E hr h=>?_),aJp KX G a,kp,λs us kx hl=>bd _ _ _ _ _ _ _ _ _ _ _ _ (by simpa using hl) (kx dt _ l2) rfl⟩
 ·obtain⟨μ,mh,ds,R,RR,il,h,_⟩:=h;rw[aK il];exact len ds mh R h
 ·obtain⟨μ,mh,ds,R,RR,il,h,Fi⟩:=h;refine⟨_,(hb f cd A outer sh H E hr).PB,μ,aJ N ds,mh,_,RR,BF il,hw ds mh R RR.mok h,?_⟩;have Fo:=GR RR Fi;exact⟨λρ' mh' q μ' σ' H' P' R' En' =>Fo .b6 mh' q μ' .b6 H' P' R' .b6,Fo,λ_ _ q=>False.elim q,λ_ _ q=>False.elim q⟩
end
theorem XO{X:Cx}(i j:Nat){x y:Str}{a b:Expr}{wr:WA}{px py pt pos:Pos}{kt k2:Nat}{pt2:Pos}(hc:X.calm=true)(hN:X.N.Nodup)(ha:LA X [a,b] wr)(hi:X.N[i]? =some x:=by rfl)(hj:X.N[j]? =some y:=by rfl)(hij:i≠j:=by decide)
  (hx:X.env.scope.names.lookup x=some .local:=by rfl) (hy:X.env.scope.names.lookup y=some .local:=by rfl)
  (hw:swappedStores [.Tuple [.Name x px,.Name y py] kt pt] (.Tuple [a,b] k2 pt2) X.env=pure (some [x,y]):=by rfl)
  (hs:swapsWithSole [.Tuple [.Name x px,.Name y py] kt pt] (.Tuple [a,b] k2 pt2) pos.line X.env=pure false:=by rfl):
  LS X (.Assign [.Tuple [.Name x px,.Name y py] kt pt] (.Tuple [a,b] k2 pt2) pos) (bS (dH wr) (gT 2 (aH (gN i) (aH (gN j) cR)))):=
 PS.imp (V1 hc hN hi hj hij hx hy ha hw hs) λD σ H h=>by
  obtain⟨μ,ρ,mh,E,RR,En,h,F⟩:=h;refine⟨μ,ρ,mh,_,RR,En,h,λds mh1 h1 μ1 vs H1 P1 R1 I1=>?_⟩;obtain⟨_,ds',e,hl,d,r,rfl,d2,r2,rfl,rfl,q⟩:=h1;cases e;unfold IsL at I1;obtain⟨v,vr,rfl,I1,I2⟩:=I1;unfold IsL at I2;obtain⟨v2,vr2,rfl,I2,I3⟩:=I2;unfold IsL at I3;subst I3;exact⟨v,v2,rfl,F.nx _ mh1 q μ1 _ H1 P1 R1 (((En.mono RR P1).set i I1).set j I2)⟩
end D3
namespace ST
open PySem PySem.SetTable PySem.Spec
section
variable {prog:Program}{w:World}{K:Type}[DecidableEq K]{knd:KeyKind prog w K}{A:Around}{R:Result->Shared->Prop}{I:Addr}{fp wr:List Addr}{G:Array GenState->Array GenState->Prop}{n:Nat}{P:Nat->Value->Prop}{St:Nat->Shared->Prop}
theorem yS{l:Bool}(W:WalksS prog w A.in1 I fp wr G n P St)(S:Addr)(hSf:S∉fp)
  (xs:List K) (hx:xs.length=n) (hval:∀i v,P i v->∃k,xs[i]? =some k/\knd.is k v=true/\v.scannable=true) (hb:∀i,(bR [] (xs.take i)).length+1<scanBound):
  ∀(k i:Nat) (s:Shared),n-i=k->i<=n->St i s->hJ knd l s.heap S (bR [] (xs.take i))->
   (∀s',Moved (S::wr) G s s' ->hJ knd l s'.heap S (bR [] xs)->R (.ok (.ret .none)) s')->
   codeAny (model prog w) A (.builtin "set.update.loop" ⟨[.ref S,.ref I],[]⟩) R s:=by
 have hSw:S∉wr:=λh=>hSf (W.sub _ h);have hsub:∀b∈wr,b∈S::wr:=λb hb=>aGg _ hb;intro k
 induction k with
 | zero=>
  intro i s hk hi hst hS hR;have hin:i=n:=by lia
  subst hin;refine aHn aJ3 ?_;rw[Around.under_plainId PyProof.Rows.F.plain_set_update_loop _];show wpAny _ A.in1 (pyNext (.ref I) >>=_) _ _ s;refine aGb (W.done s _ _ hst λs' hm=>?_);show wpAny _ A.in1 (ret Value.none) _ _ s';refine aGd (hR s' (hm.mono hsub) ?_);rw[List.take_of_length_le (by lia)]at hS;exact hS.keep λo e=>hm.heap S _ hSw e
 | succ k ih=>
  intro i s hk hi hst hS hR;have hlt:i<n:=by lia
  refine aHn aJ3 ?_;rw[Around.under_plainId PyProof.Rows.F.plain_set_update_loop _];show wpAny _ A.in1 (pyNext (.ref I) >>=_) _ _ s;refine aGb (W.item i s _ _ hlt hst λv s' hP hst' hm=>?_);obtain⟨key,hkx,hkey,hsc⟩:=hval i v hP;have hS' :hJ knd l s'.heap S (bR [] (xs.take i)):=hS.keep λo e=>hm.heap S _ hSw e;show wpAny _ A.in1 (holding [v] (setAdd S v) >>=_) _ _ s';refine aGb (aH7 ?_);unfold setAdd;refine aH7 ?_;refine aGb (knd.pyHash (k:=key) hkey ?_);have hroom:(bR [] (xs.take i)).length+1<scanBound:=hb i;refine J9 (s:={s' with toks:=s'.toks+1}) hkey hsc hS' hroom λb h' hsb hS2=>?_
  have hSi:hJ knd l h' S (bR [] (xs.take (i+1))):=by
   rw[List.take_add_one,hkx];simpa[bR] using hS2
  refine aGd ⟨aI2 PyProof.Rows.F.plain_set_update_loop _,ih (i+1) _ (by lia) hlt (W.frame _ s' _ _ hst' (aK8 _) λb hb o e=>?_) hSi λs'' hm'' hS'' =>?_⟩
  ·rw[hsb.2 b (λh:b=S=>hSf (by rw[<-h];exact hb))];exact e
  ·refine hR s'' (Moved.trans W.gtrans ((hm.mono hsub).then_heap (aK8 _) λb o hb e=>?_) hm'') hS'';rw[hsb.2 b (λh:b=S=>hb (by rw[h];exact List.mem_cons_self))];exact e
end
section
variable {prog:Program}{w:World}{K:Type}[DecidableEq K]{knd:KeyKind prog w K}{A:Around}{E:aKe}{s:Shared}
theorem HY{l:Addr}{items:Array Value}{xs:List K}{Q:aKe}
  (hh:A.handled=none) (hl:s.heap.IsList l items) (hx:xs.length=items.size) (hi:∀(i:Nat) (v:Value),items[i]? =some v->∃k,xs[i]? =some k/\knd.is k v=true/\v.scannable=true) (hb:∀i,(bR [] (xs.take i)).length+1<scanBound)
  (h:∀(h' :Heap) (tk:Nat),hJ knd (iG w) h' s.heap.objs.size (bR [] xs)->
   (∀b o,b<s.heap.objs.size->s.heap.get? b=some o->h'.get? b=some o)->Q (.ref s.heap.objs.size) {s with heap:=h',toks:=tk}):
  wpAny (model prog w) A (call (.type "set") [.ref l]) Q E s:=by
 obtain⟨c,tl,hmro⟩:=aIo.mro;have hmade:=aIo.made;have hsub:=aIo.sub;refine wpAny_call (aJt ?_);show wpAny _ _ (callAny (.type "set") _) _ _ _;refine aGd ⟨Code.quiet_builtin _ (by decide+kernel),aHn F.entry_type_call ?_⟩;rw[Around.under_plain (weight_type_call_type "set" [.ref l] []) rfl];have h1:=aIo.notType;have h2:=aIo.canCreate;have hct:=F.typeCall_set_1 (.ref l)
 repeat (any_goals (first | assumption | wp_step))
 refine aIi (MT (.ref l) (E:=E) (Q₁:=λobj s₁=>obj= .ref s.heap.objs.size/\s₁={s with heap:=s.heap.push {cls:= .type "set",dict:=none,data:= .set #[] 0 (.fresh 0 0 (iG w))}}) ⟨rfl,rfl⟩) λr s₁ hr=>?_
 cases r with
 | error e=>exact hr
 | ok fl=>
  cases fl with
  | ret obj=>
   obtain⟨rfl,rfl⟩:=hr;generalize hled:iG w=led at*;have hS:(s.heap.push {cls:= .type "set",dict:=none,data:= .set #[] 0 (.fresh 0 0 led)}).get? s.heap.objs.size=some {cls:= .type "set",dict:=none,data:= .set #[] 0 (.fresh 0 0 led)}:=aGj _ rfl
   have hT:Shared.TypeIs {s with heap:=s.heap.push {cls:= .type "set",dict:=none,data:= .set #[] 0 (.fresh 0 0 led)}} (.ref s.heap.objs.size) "set":=⟨_,hS,rfl⟩
   have hli:=aIo.init.lookup;have hbi:=aIo.init.bind (.ref s.heap.objs.size)
   repeat (any_goals (first | assumption | wp_step))
   refine aIi (codeAny_call_builtin (R:=wants (λr s₂=>r= .none/\∃h' tk,s₂={s with heap:=h',toks:=tk}/\
     hJ knd led h' s.heap.objs.size (bR [] xs)/\
     (∀b o,b<s.heap.objs.size->s.heap.get? b=some o->h'.get? b=some o)) E) aIo.init.plain F.entry_set_init (check_set_init_1 hT ?_)) λr₂ s₂ hr₂=>?_
   ·obtain⟨ol,hol,hcl,nl,hdl⟩:=hl;obtain⟨ocls,odict,odata,oslots⟩:=ol;simp only at hcl hdl;subst hcl;subst hdl;have hol' :(s.heap.push {cls:= .type "set",dict:=none,data:= .set #[] 0 (.fresh 0 0 led)}).get? l=some {cls:= .type "list",dict:=odict,data:= .seq items nl,slots:=oslots}:=aGe _ hol;have hsls:=F.sub_list_set;have hslf:=F.sub_list_frozenset;have hne:(Value.type "list"==Value.type "dict")=false:=by decide
    have hl1:(s.heap.push {cls:= .type "set",dict:=none,data:= .set #[] 0 (.fresh 0 0 led)}).IsList l items:=⟨_,hol',rfl,nl,rfl⟩
    unfold Builtin.«set.__init__» noKeywords Builtin.Frozenset.updateFrom;generalize hPI:pyIter=PI
    wp_walk
    subst hPI;refine wpAny_pyIter_list hl1 ?_;refine aGb (wpAny_runValue ?_);have hlS:l<s.heap.objs.size:=aGl hol;have hh3:A.in1.in1.in1.handled=none:=by simp[hh]
    have hneI:l≠(s.heap.push {cls:= .type "set",dict:=none,data:= .set #[] 0 (.fresh 0 0 led)}).objs.size:=by
     rw[Heap.size_push];exact aGu (aHi hlS)
    have hSf:s.heap.objs.size∉[(s.heap.push {cls:= .type "set",dict:=none,data:= .set #[] 0 (.fresh 0 0 led)}).objs.size,l]:=by
     rw[Heap.size_push];simp only[List.mem_cons,List.mem_singleton,List.not_mem_nil,or_false,not_or];exact⟨aGu (aI1 _),aIz hlS⟩
    refine yS (knd:=knd) (l:=led) ((Walks.list hh3 _ l hneI items).toS) s.heap.objs.size
     hSf xs hx hi hb (items.size-0) 0 _ (by lia) (aHp _)
     ⟨⟨_,aGj _ rfl,rfl,rfl⟩,(hl1.push _)⟩ ?hS0 ?hR
    case hS0=>
     have hget:((s.heap.push {cls:= .type "set",dict:=none,data:= .set #[] 0 (.fresh 0 0 led)}).push {cls:= .type "list_iterator",data:= .fields #[.ref l,.int 0 0]}).get? s.heap.objs.size
       =some {cls:= .type "set",dict:=none,data:= .set #[] 0 (.fresh 0 0 led)}:=aGe _ hS
     subst hled;exact FG hget
    case hR=>
     intro s' hm hS';obtain⟨h',g',d',tk',os'⟩:=s';have eg:g' =s.gens:=hm.gens;have ed:d' =s.drawn:=hm.drawn;have eo:os' =s.os:=hm.os;subst eg;subst ed;subst eo;show wpAny _ _ _ _ _ _;refine aGd ?_;show wpAny _ _ (ret Value.none) _ _ _;refine aGd ⟨rfl,h',tk',rfl,hS',λb o hb e=>?_⟩;have hb1:b≠s.heap.objs.size:=aGu hb
     have hb2:b≠(s.heap.push {cls:= .type "set",dict:=none,data:= .set #[] 0 (.fresh 0 0 led)}).objs.size:=by
      rw[Heap.size_push];exact aGu (aHi hb)
     exact hm.heap b o (by simp only[List.mem_cons,List.mem_singleton,List.not_mem_nil,or_false,not_or];exact⟨hb1,hb2⟩) (aGe _ (aGe _ e))
   ·cases r₂ with
    | error e=>exact hr₂
    | ok fl₂=>
     cases fl₂ with
     | ret r=>
      obtain⟨rfl,h',tk,rfl,hS',hk'⟩:=hr₂
      repeat (any_goals (first | assumption | wp_step))
      exact h _ _ hS' hk'
     | _=>exact hr₂.elim
  | _=>exact hr.elim
end
end ST
namespace D3
open PySem PySem.Spec PyProof.Rows L2
theorem zJ{α:Type}[DecidableEq α]:∀(is ys:List α),is.Nodup->(∀x∈is,x∈ys)->is.length<=ys.length
 | [],ys,_,_=>by simp
 | x::is,ys,nd,h=>by
  have c:=aI6.mp nd;have:=zJ is (ys.erase x) c.2 λy hy=>(List.mem_erase_of_ne (λz:y=x=>c.1 (by rw[<-z];exact hy))).mpr (h y (aGg _ hy));have e:=List.length_erase_of_mem (h x aGf);have l:=List.length_pos_of_mem (h x aGf);simp only[List.length_cons]
  lia
theorem vK{ks ys:List Key}(h:∀k∈ks,k∈ys)(i:Nat):(ST.bR [] (ks.take i)).length<=ys.length:=
 zJ _ _ (jK (by simp)) λk hk=>h k (aHt (by rw[ST.nY]at hk;simpa using hk))
section
variable {X:Cx}
theorem J0(hc:X.calm=true):cS X (.type "set") (λxs H Q=>∃(a:Addr) (ks:List Key),xs=[.ref a]/\oH X.K H a (ks.map kV)/\(∀i,(ST.bR [] (ks.take i)).length+1<scanBound)/\∀p,H p=none->Q (.ref p) (upd H p (KD X.prog X.w p (ST.bR [] ks)))):=by
 intro pins s σ H xs us Q I r q;obtain⟨a,ks,rfl,sq,hb,q⟩:=q;obtain⟨u,rfl,ru⟩:=vals1 r;cases ru;obtain⟨aI,rv,pl,hz⟩:=I.list sq;obtain⟨e1,e2⟩:=wN (P:=X.prog) (w:=X.w) rv;refine ST.HY (knd:=aV X.prog X.w) (I.ok.hd hc) pl.isList (xs:=ks) (by simpa using e1) (λi v h=>e2 i v (by simpa using h)) hb λh' tk hS hk=>?_;exact⟨.ref s.heap.objs.size,_,I.laid (a:=s.heap.objs.size) (o:=KD X.prog X.w s.heap.objs.size (ST.bR [] ks)) (t' :=tk) (λb o e=>hk b o (aGl e) e) (aGi _) (QG hS),rfl,q _ (I.bZ.fresh (aGi _))⟩
end
def iD(w:WE):WE:=λρ mh Q=>w ρ mh λx mh1=>∃ks ys:List Key,mU mh1 x=some (ks.map bC)/\(∀k∈ks,k∈ys)/\ys.length<4000/\KN (ks.map bC)/\
 ∀ks' :List Key,(∀k,k∈ks' ↔k∈ks)->ks'.Nodup->ks'.length<=ys.length->(ks'.map bC).Pairwise (λd e=>lx (enc e) (enc d)=false)->Q (.ref mh1.length) (mh1++[.lst (ks'.map bC)])
@[simp] theorem QJ (w:WE)(ρ:d7)(mh:MH)(Q:DK):iD w ρ mh Q=(w ρ mh λx mh1=>∃ks ys:List Key,mU mh1 x=some (ks.map bC)/\(∀k∈ks,k∈ys)/\ys.length<4000/\KN (ks.map bC)/\
 ∀ks' :List Key,(∀k,k∈ks' ↔k∈ks)->ks'.Nodup->ks'.length<=ys.length->(ks'.map bC).Pairwise (λd e=>lx (enc e) (enc d)=false)->Q (.ref mh1.length) (mh1++[.lst (ks'.map bC)])):=rfl
section
variable {X:Cx}{e:Expr}{w:WE}{p1 p2 p3 pos:Pos}
theorem Q5{te:TE}(hc:X.calm=true)(hm:X.mg "set"=none)(he:PE X e te)(hg:Gl X "set":=by rfl)
  (hs:starEach [e] X.env=(false,eval e X.env)::starEach [] X.env:=by rfl):PE X (.Call (.Name "set" p2) [e] [] p3) (tCB (λxs H Q=>∃(a:Addr) (ks:List Key),xs=[.ref a]/\oH X.K H a (ks.map kV)/\(∀i,(ST.bR [] (ks.take i)).length+1<scanBound)/\∀p,H p=none->Q (.ref p) (upd H p (KD X.prog X.w p (ST.bR [] ks)))) (T9 te aAq)):=
 xH (J0 hc) hg hm ZA (zA he EK hs) (by decide) (by decide) hs rfl
theorem vU(hu:X.A.units+64<cLine)(hc:X.calm=true)(hm:X.mg "set"=none)(hms:X.mg "sorted"=none)(he:LE X e w)(hg:Gl X "set":=by rfl)(hgs:Gl X "sorted":=by rfl)
  (hs:starEach [e] X.env=(false,eval e X.env)::starEach [] X.env:=by rfl)
  (hs2:starEach [.Call (.Name "set" p2) [e] [] p3] X.env=(false,eval (.Call (.Name "set" p2) [e] [] p3) X.env)::starEach [] X.env:=by rfl):
  LE X (.Call (.Name "sorted" p1) [.Call (.Name "set" p2) [e] [] p3] [] pos) (iD w):=
 PE.imp (BS (vE hu hc) hgs hms qP (zA (Q5 hc hm he hg hs) EK hs2) (by decide) (by decide) hs2 rfl) λσ H Q h=>by
  obtain⟨μ,ρ,mh,R,RR,E,h,F⟩:=h;refine⟨μ,ρ,mh,_,RR,E,h,λdx mh1 h1 μ1 vx H1 P1 R1 I1=>?_⟩;obtain⟨ks,ys,hl,hsub,h64,U,q⟩:=h1;obtain⟨a,vs,rfl,sq,l⟩:=uP R1 I1 hl;cases xS l;have hlen:(ST.bR [] ks).length<=ys.length:=by have:=vK hsub ks.length;rwa [List.take_length]at this
  have hmem:∀k,k∈ST.bR [] ks↔k∈ks:=λk=>by rw[ST.nY];simp
  refine⟨a,ks,rfl,sq,λi=>by have:=vK hsub i;unfold scanBound;lia,λp hp=>?_⟩;show ∃p' ks',[V.ref p]=[.ref p']/\_;refine⟨p,ST.bR [] ks,rfl,bK,by lia,?_,λks' pk pw=>?_⟩
  ·rcases U with ⟨c,hc⟩ | ⟨c,cs,hc⟩
   ·exact .inl ⟨c,λd hd=>by obtain⟨k,hk,rfl⟩:=aGm.mp hd;exact hc _ (aGm.mpr ⟨k,(hmem k).mp hk,rfl⟩)⟩
   ·exact .inr ⟨c,cs,λd hd=>by obtain⟨k,hk,rfl⟩:=aGm.mp hd;exact hc _ (aGm.mpr ⟨k,(hmem k).mp hk,rfl⟩)⟩
  ·exact iH (R1.new hp) (F.at (P1.trans (aN.new R1 hp))) (zU ks') (q ks' (λk=>by rw[pk.mem_iff,hmem]) (pk.symm.nodup (jK (by simp))) (by have:=pk.length_eq;lia) pw)
end
abbrev cF(P:Program)(W:World)(K:aKd)(mg:aKg)(base:Heap)(N:List Str)(q:Str)(S:Stmt)(f:Addr)(cd:Value)(A:Around)(o:List Env)(s:Shared)(H:Hp)(E:XK):Cx:=(u7 AY P W K mg base N q (aC S) f cd A o s H E).PB
section
variable {P:Program}{W:World}{K:aKd}{mg:aKg}{base:Heap}{N:List Str}{q:Str}{S:Stmt}{f:Addr}{cd:Value}{A:Around}{o:List Env}{s:Shared}{H:Hp}{E:XK}
 {tg iter elt:Expr} {ifs:List Expr} {scope:Scope} {pos:Pos} {wi:WI} {g:TG} {gd:WG} {t:WT} {w:WE} (own:List Str) (aD:List Nat)
def cN(N own:List Str)(aD:List Nat):List Str:=own++aD.map λi=>N.getD i ""
theorem X3(chk:dR N (aC S) scope aD=true)(nd:(cN N own aD).Nodup)(hr:jV K g gd)(ho:qT own.length g)
  (hi:LI (cF P W K mg base N q S f cd A o s H E) tg iter wi)
  (hg:(cN N own aD).Nodup->∀cl C fp s₀ H₀,PG (aL (cF P W K mg base N q S f cd A o s H E) own aD scope cl C fp s₀ H₀) tg g) (ht:∀cl C fp s₀ H₀,KG (aL (cF P W K mg base N q S f cd A o s H E) own aD scope cl C fp s₀ H₀) ifs t)
  (he:∀cl C fp s₀ H₀,LE (aL (cF P W K mg base N q S f cd A o s H E) own aD scope cl C fp s₀ H₀) elt w)
  (hs:∀x,foldedSetIterable iter (cF P W K mg base N q S f cd A o s H E).env x=pure x:=by intro _;rfl):LE (cF P W K mg base N q S f cd A o s H E) (.ListComp elt [⟨tg,iter,ifs,0⟩] scope pos) (A9 own aD wi gd t w):=
 aC7 (N:=N) (sc:=aC S) own aD rfl rfl chk rfl hi ho hr (hg nd) ht he hs
theorem IW{i:Nat}{x:Str}{pos' lF:Pos}(chk:dR N (aC S) scope aD=true)(nd:(cN N own aD).Nodup)(hr:jV K g gd)(ho:qT own.length g)
  (hN:N.Nodup) (hi:LI (cF P W K mg base N q S f cd A o s H E) tg iter wi)
  (hg:(cN N own aD).Nodup->∀cl C fp s₀ H₀,PG (aL (cF P W K mg base N q S f cd A o s H E) own aD scope cl C fp s₀ H₀) tg g) (ht:∀cl C fp s₀ H₀,KG (aL (cF P W K mg base N q S f cd A o s H E) own aD scope cl C fp s₀ H₀) ifs t)
  (he:∀cl C fp s₀ H₀,LE (aL (cF P W K mg base N q S f cd A o s H E) own aD scope cl C fp s₀ H₀) elt w)
  (hx0:N[i]? =some x:=by rfl) (hx:Loc (cF P W K mg base N q S f cd A o s H E).env.scope x:=by first | exact Or.inl rfl | exact Or.inr rfl) (hw:swapsWith (.ListComp elt [⟨tg,iter,ifs,0⟩] scope pos) (some (.Name x pos')) lF.line (cF P W K mg base N q S f cd A o s H E).env=pure true:=by rfl)
  (hf:(cF P W K mg base N q S f cd A o s H E).fn x=true\/(cF P W K mg base N q S f cd A o s H E).env.scope.names.lookup x=some .local:=by first | exact .inl rfl | exact .inr rfl | assumption)
  (hs:∀x,foldedSetIterable iter (cF P W K mg base N q S f cd A o s H E).env x=pure x:=by intro _;rfl):LS (cF P W K mg base N q S f cd A o s H E) (.Assign [.Name x pos'] (.ListComp elt [⟨tg,iter,ifs,0⟩] scope pos) lF) (bS (A9 own aD wi gd t w) (gN i)):=
 NA i hN (N:=N) (sc:=aC S) own aD rfl rfl chk rfl hi ho hr (hg nd) ht he hx0 hx hw hf hs
theorem SE{o1:Nat}{tg2 aT:Expr}{cT:List Expr}{wi2:WI}{g2:TG}{gd2:WG}{t2:WT}(chk:dR N (aC S) scope aD=true)(nd:(cN N own aD).Nodup)(hr:jV K g gd)(hr2:jV K g2 gd2)(ho1:o1<=own.length)(ho:qT o1 g)
  (ho2:GIn o1 own.length g2) (hi:LI (cF P W K mg base N q S f cd A o s H E) tg iter wi)
  (hg:(cN N own aD).Nodup->∀cl C fp s₀ H₀,PG (aL (cF P W K mg base N q S f cd A o s H E) own aD scope cl C fp s₀ H₀) tg g) (ht:∀cl C fp s₀ H₀,KG (aL (cF P W K mg base N q S f cd A o s H E) own aD scope cl C fp s₀ H₀) ifs t)
  (NY:∀cl C fp s₀ H₀,LI (aL (cF P W K mg base N q S f cd A o s H E) own aD scope cl C fp s₀ H₀) tg2 aT wi2)
  (hg2:(cN N own aD).Nodup->∀cl C fp s₀ H₀,PG (aL (cF P W K mg base N q S f cd A o s H E) own aD scope cl C fp s₀ H₀) tg2 g2) (ht2:∀cl C fp s₀ H₀,KG (aL (cF P W K mg base N q S f cd A o s H E) own aD scope cl C fp s₀ H₀) cT t2)
  (he:∀cl C fp s₀ H₀,LE (aL (cF P W K mg base N q S f cd A o s H E) own aD scope cl C fp s₀ H₀) elt w)
  (hs:∀x,foldedSetIterable iter (cF P W K mg base N q S f cd A o s H E).env x=pure x:=by intro _;rfl) (hs2:∀env x,foldedSetIterable aT env x=pure x:=by intro _ _;rfl):
  LE (cF P W K mg base N q S f cd A o s H E) (.ListComp elt [⟨tg,iter,ifs,0⟩,⟨tg2,aT,cT,0⟩] scope pos) (HU own aD wi gd t wi2 gd2 t2 w):=
 X4 (N:=N) (sc:=aC S) own o1 aD rfl rfl chk rfl hi ho1 ho hr ho2 hr2 (hg nd) ht NY (hg2 nd) ht2 he hs hs2
end
open PySem.Calls
noncomputable def kE(P:Params)(x:Str)(t:Tok)(v:Value):DictEntry:=⟨PyData.keyHash P x,.str x t,v⟩
noncomputable def kF(x:Str)(st:Stmt)(m:Value)(c:Addr)(d:Value:= .none):Obj:=⟨.type "function",none,.func (PySem.W.fnOf x x (cM st) (bU st) (aC st) d .none .none m none (.ref c) .none),#[]⟩
noncomputable def kC(x:Str)(t:Nat)(l n:Int)(T c:Nat)(u v:Value:= .none)(k:Nat:=3):Obj:=
 ⟨.type "code",none,.fields #[.str x t,.str x (t+1),.str "/claim/cut.py" (t+2),.int l 0,.int n 0,.int 0 0,.int 0 0,.int 3 0,.ref (c-k),.bool true,.int 181 0,.ref (c-k+1),.none,u,v,.ref (c-1),.int T 0,.int l 0,.str "/claim/cut.py" (T+1)],#[]⟩
noncomputable def kD(x:Str)(t:Nat)(l n:Int)(T c:Nat):Obj:=kC x t l n T c (.ref (c-3)) (.ref (c-2)) 5
noncomputable def kQ(p:Program)(ks:List Nat):Program:={p with main:={p.main with body:=ks.filterMap λi=>p.main.body[i]?}}
theorem aDh{l:PySem.W.OpenLaw}{q:Program}{loose:List Str}{K:Params->aKd}{as:List Addr}{d:DefRec}{kwd:List (Str×Expr)}{N:Nat}(ok:l.wellSaid=true)(e:∀P,as=(K P).map (·.1))
  (left:PySem.W.LeftO l.prog q loose (λ_=>true) (λs=>as.map s.heap.get?) (λw=>(K w.params).map λp=>some p.2) N)
  (hdef:PySem.W.defOf q l.name=some (d,kwd)) (hp:l.prog.theDef l.name=some (d.params,d.body,d.scope)) (hk:PySem.W.kwWritten? d.params.kwonlyargs d.params.kw_defaults=some kwd)
  (ok2:(PySem.W.chainsOk q && PySem.W.opensWell l.prog && (PySem.W.frees l.row.toRowW && l.row.within.isEmpty))=true) (hb:l.prog.bare) (hw:l.row.toRowW.promised)
  (call:PySem.W.WalkO q loose (λ_ _=>True) (PySem.W.InK K) l.row.toRowW d kwd λf vs=>PySem.call f vs):l.Holds:=
 PySem.W.holds_law ok λsaid=>PySem.W.holds_open (r:=l.row) (XP:=λ_ _=>True) left (PySem.W.InK.of e) PySem.W.InK.keeps (λ_ _=>trivial) (λ_ _ _ _ _=>trivial) hdef hp hk
  (λs _=>PySem.W.recFacts_of (R:=[]) rfl) (Bool.or_true _) said ok2 hb hw call
end D3
namespace LR
open PySem PyProof.Rows L2 D3
def j6(aE:OA):WS:=(dW (bA gV (aB 2) (aG aE (aA (aB 0) (aA (aG gH (aA (aB 2) aF)) aF)))))
def j7(aE:OA):WS:=(aW (gC (dU (bA oEq (aB 1) (wC (.int 2)))) (dW (bA zD (aG aE (aA (aB 0) (aA (bA fL (bA pH (wC (.int 2)) (wC (.int 1048576))) (wC (.int 1))) aF))) (wC (.int 1048576)))) dI) (j6 aE))
def j8(aE:OA):WS:=(aW (gC (dU (bA oEq (aB 1) (wC (.int 1)))) (dW (bA zD (aG aE (aA (aB 0) (aA (wC (.int 401)) aF))) (wC (.int 200)))) dI) (j7 aE))
def eZ(aE:OA):WS:=(aW (gC (dU (bA oEq (aB 1) (wC (.int 0)))) (dW (bA zD (aG aE (aA (aB 0) (aA (wC (.int 13)) aF))) (wC (.int 6)))) dI) (j8 aE))
def m8(s__law_number:OA):WS:=(dW (dH (aA (aG yJ (aA (aB 3) (aA (aB 4) aF))) (aA (aG DO (aA (aB 3) (aA (aB 4) aF))) aF))))
def m9(s__law_number:OA):WS:=(aW (gC (dU (bA oEq (aB 3) (aB 4))) (dW (wIf (dU (bA oEq (aB 3) (wC (.int 1048576)))) (dH (aA (bA zD (aB 3) (wC (.int 1))) (aA (aB 3) aF))) (dH (aA (aB 3) (aA (bA fL (aB 3) (wC (.int 1))) aF))))) dI) (m8 s__law_number))
def nA(s__law_number:OA):WS:=(aW (bS (aG s__law_number (aA (aB 0) (aA (aB 1) (aA (aB 2) aF)))) (gN 4)) (m9 s__law_number))
def h9(s__law_number:OA):WS:=(aW (bS (aG s__law_number (aA (aB 0) (aA (aB 1) (aA (aB 2) aF)))) (gN 3)) (nA s__law_number))
def iA(aE aS:OA):WS:=(iE (GC "list" dD (aB 5) (aA (dH (aA (aB 7) (aA (aB 9) (aA (aB 8) (aA (aB 10) aF))))) aF)))
def iB(aE aS:OA):WS:=(aW (bS (aG aS (aA (aB 0) (aA (aB 2) (aA (aB 4) aF)))) (gT 2 (aH (gN 9) (aH (gN 10) cR)))) (iA aE aS))
def j5(aE aS:OA):WS:=(aW (bS (aG aS (aA (aB 0) (aA (aB 2) (aA (aB 4) aF)))) (gT 2 (aH (gN 7) (aH (gN 8) cR)))) (iB aE aS))
def kT(aE aS:OA):WS:=(dW (aB 5))
def kU(aE aS:OA):WS:=(aW (jF (kA (aA (aB 3) aF)) (gN 6) (j5 aE aS)) (kT aE aS))
def kW(aE aS:OA):WS:=(aW (bS (nW aF) (gN 5)) (kU aE aS))
def kX(aE aS:OA):WS:=(aW (bS (bA fL (A9 ["_law_k"] [0] (kA (aA (wC (.int 4)) aF)) (gN 0) kJ (bA zD (aG aE (aA (aB 1) (aA (wC (.int 2097153)) aF))) (wC (.int 1048576)))) (nW (aA (rE fK (wC (.int 1048576))) (aA (wC (.int 1048576)) (aA (wC (.int 0)) (aA (wC (.int 1)) aF)))))) (gN 4)) (kW aE aS))
def kY(aE aS:OA):WS:=(aW (bS (aG aE (aA (aB 0) (aA (bA gV (nW (aA (bA fL (aB 1) (wC (.int 1))) (aA (wC (.int 13)) (aA (wC (.int 13)) (aA (wC (.int 7)) aF))))) (aG aE (aA (aB 0) (aA (wC (.int 4)) aF)))) aF))) (gN 3)) (kX aE aS))
def gA(aE aS:OA):WS:=(aW (bS (aG aE (aA (aB 0) (aA (wC (.int 4)) aF))) (gN 2)) (kY aE aS))
def k9:WS:=(gC (K5 (dU (bA oEq (aG gH (aA (aB 1) aF)) (wC (.int 0)))) (dU (bA O9 (aB 2) (bA gV (bA gV (aB 1) (rE fK (wC (.int 1)))) (wC (.int 1)))))) (iE (GC "list" dD (aB 1) (aA (dH (aA (aB 2) (aA (aB 3) aF))) aF))) (gC (dU (bA O9 (aB 3) (bA gV (bA gV (aB 1) (rE fK (wC (.int 1)))) (wC (.int 1))))) (tF (dH (aA (bA gV (bA gV (aB 1) (rE fK (wC (.int 1)))) (wC (.int 0))) (aA (aB 3) aF))) (aB 1) (rE fK (wC (.int 1)))) dI))
def nB:WS:=(dW (aG qS (aA (aB 1) aF)))
def nC:WS:=(aW (jF (cY (aG HM (aA (aB 0) aF))) (gT 2 (aH (gN 2) (aH (gN 3) cR))) (k9)) (nB))
def iC:WS:=(aW (bS (nW aF) (gN 1)) (nC))
def dS(s__law_line:OA):WS:=(gC (rG (dU (bA O9 (aG gH (aA (aB 5) aF)) (wC (.int 0)))) (rG (dU (bA O9 (aG gH (aA (aB 2) aF)) (wC (.int 0)))) (rG (dU (bA oEq (bA gV (bA gV (aB 2) (rE fK (wC (.int 1)))) (wC (.int 1))) (aB 3))) (dU (bA oEq (bA gV (bA gV (aB 2) (rE fK (wC (.int 1)))) (wC (.int 2))) (aB 5)))))) (tF (dH (aA (bA gV (bA gV (aB 2) (rE fK (wC (.int 1)))) (wC (.int 0))) (aA (aB 4) (aA (aB 5) aF)))) (aB 2) (rE fK (wC (.int 1)))) (gC (dU (bA O9 (aG gH (aA (aB 5) aF)) (wC (.int 0)))) (iE (GC "list" dD (aB 2) (aA (dH (aA (aB 3) (aA (aB 4) (aA (aB 5) aF)))) aF))) dI))
def eP(s__law_line:OA):WS:=(aW (bS (aG s__law_line (aA (A9 ["_law_rect"] [3,4] (cY (aB 0)) (gN 0) (rG (dU (bA oLe (bA gV (aB 0) (wC (.int 1))) (aB 1))) (dU (bA oGe (bA gV (aB 0) (wC (.int 3))) (aB 2)))) (dH (aA (bA gV (aB 0) (wC (.int 0))) (aA (bA gV (aB 0) (wC (.int 2))) aF)))) aF)) (gN 5)) (dS s__law_line))
def jY(s__law_line:OA):WS:=(dW (aG qS (aA (aB 2) aF)))
def jZ(s__law_line:OA):WS:=(aW (jF (A8 (aA (aB 1) (aA (wSl Z4 (aB 1) (rF (wC (.int 1))) U5) aF))) (gT 2 (aH (gN 3) (aH (gN 4) cR))) (eP s__law_line)) (jY s__law_line))
def j4(s__law_line:OA):WS:=(aW (bS (nW aF) (gN 2)) (jZ s__law_line))
abbrev P2:=Int×Int
structure R4 where
 x0:Int
 y0:Int
 x1:Int
 y1:Int
structure Bd where
 lo:Int
 hi:Int
 ln:List P2
def sD(s:P2):D:= .tup [.int s.1,.int s.2]
def rD(r:R4):D:= .tup [.int r.x0,.int r.y0,.int r.x1,.int r.y1]
def i9(l:List P2):D:= .tup (l.map sD)
def bD(b:Bd):D:= .tup [.int b.lo,.int b.hi,i9 b.ln]
def gD(g:List Bd):D:= .tup (g.map bD)
def zB(a b:P2):Bool:=decide (a.1<b.1\/(a.1=b.1/\a.2<=b.2))
def hV(l:List P2):List P2:=l.mergeSort zB
def aX(f:List P2)(s:P2):List P2:=match f.getLast? with
 | none=>[s]
 | some t=>if t.2<s.1 then f++[s] else if t.2<s.2 then f.dropLast++[(t.1,s.2)] else f
def bW(l:List P2):List P2:=(hV l).foldl aX []
def qL(x:Int):List Int->List Int
 | []=>[x]
 | y::l=>if x<y then x::y::l else if x=y then y::l else y::qL x l
def lD(l:List Int):List Int:=l.foldr qL []
def aQ(rs:List R4)(lo hi:Int):List P2:=(rs.filter λr=>decide (r.y0<=lo) && decide (hi<=r.y1)).map λr=>(r.x0,r.x1)
def aZ(rs:List R4)(f:List Bd)(p:P2):List Bd:=
 if bW (aQ rs p.1 p.2)=[] then f else match f.getLast? with
  | none=>[⟨p.1,p.2,bW (aQ rs p.1 p.2)⟩]
  | some b=>if b.hi=p.1/\b.ln=bW (aQ rs p.1 p.2) then f.dropLast++[⟨b.lo,p.2,bW (aQ rs p.1 p.2)⟩] else f++[⟨p.1,p.2,bW (aQ rs p.1 p.2)⟩]
def dF(rs:List R4):List Int:=lD (rs.map (·.y0)++rs.map (·.y1))
def cC(rs:List R4):List Bd:=((dF rs).zip (dF rs).tail).foldl (aZ rs) []
theorem gF(s:P2):aX [] s=[s]:=rfl
theorem fA(f:List P2)(t s:P2):aX (f++[t]) s=if t.2<s.1 then f++[t]++[s] else if t.2<s.2 then f++[(t.1,s.2)] else f++[t]:=by
 simp[aX]
theorem fJ(rs:List R4)(p:P2):aZ rs [] p=if bW (aQ rs p.1 p.2)=[] then [] else [⟨p.1,p.2,bW (aQ rs p.1 p.2)⟩]:=by
 simp[aZ]
theorem eF(rs:List R4)(f:List Bd)(b:Bd)(p:P2):aZ rs (f++[b]) p=if bW (aQ rs p.1 p.2)=[] then f++[b] else if b.hi=p.1/\b.ln=bW (aQ rs p.1 p.2) then f++[⟨b.lo,p.2,bW (aQ rs p.1 p.2)⟩] else f++[b]++[⟨p.1,p.2,bW (aQ rs p.1 p.2)⟩]:=by
 simp[aZ]
theorem WK(a b c:P2)(h1:zB a b=true)(h2:zB b c=true):zB a c=true:=by
 simp only[zB,decide_eq_true_eq]at*;lia
theorem RA(a b:P2):(zB a b || zB b a)=true:=by
 simp only[zB,Bool.or_eq_true,decide_eq_true_eq];lia
theorem MK{a b:P2}(h1:zB a b=true)(h2:zB b a=true):a=b:=by
 simp only[zB,decide_eq_true_eq]at*;exact Prod.ext (by lia) (by lia)
theorem eQ(l:List P2):(hV l).Perm l:=List.mergeSort_perm l zB
theorem rJ(l:List P2):(hV l).Pairwise λa b=>zB a b=true:=List.pairwise_mergeSort WK RA l
theorem BG:∀{l1 l2:List P2},l1.Perm l2->l1.Pairwise (λa b=>zB a b=true)->l2.Pairwise (λa b=>zB a b=true)->l1=l2
 | [],l2,p,_,_=>(List.nil_perm.mp p).symm
 | a::t,[],p,_,_=>absurd p.length_eq (by simp)
 | a::t,b::u,p,s1,s2=>by
  have hab:a=b:=by
   rcases aGk.mp (p.mem_iff.mp aGf) with z | z
   ·exact z
   ·rcases aGk.mp (p.mem_iff.mpr aGf) with y | y
    ·exact y.symm
    ·exact MK ((aGx.mp s1).1 b y) ((aGx.mp s2).1 a z)
  subst hab;rw[BG (List.Perm.cons_inv p) (List.pairwise_cons.mp s1).2 (List.pairwise_cons.mp s2).2]
theorem RN(a b:P2):lx (enc (sD b)) (enc (sD a))=false↔zB a b=true:=by
 simp only[sD,enc,jP,List.flatMap_cons,List.flatMap_nil,List.append_nil,List.cons_append,List.nil_append,lx,zB];by_cases h1:b.1<a.1
 ·simp[h1];lia
 ·rw[if_neg h1];by_cases h2:a.1<b.1
  ·simp[h2]
  ·rw[if_neg h2];by_cases h3:b.2<a.2
   ·simp[h3];lia
   ·rw[if_neg h3];by_cases h4:a.2<b.2
    ·simp[h4];lia
    ·simp[h4];lia
theorem U7(l:List P2):KN (l.map sD):= .inr ⟨.i,[.i],λd hd=>by obtain⟨s,_,rfl⟩:=aGm.mp hd;exact⟨_,rfl,rfl⟩⟩
theorem HX{l:List P2}{ds:List D}(p:ds.Perm (l.map sD))(s:ds.Pairwise λd e=>lx (enc e) (enc d)=false):ds=(hV l).map sD:=by
 obtain⟨l',p1,rfl⟩:=lN sD p l rfl;congr 1;refine BG (p1.trans (eQ l).symm) ?_ (rJ l);rw[List.pairwise_map]at s;exact s.imp λh=>(RN _ _).mp h
theorem uN{x y:Int}:∀{l:List Int},y∈qL x l↔y=x\/y∈l
 | []=>by simp[qL]
 | z::l=>by
  unfold qL;split
  ·simp
  ·split
   ·rename_i h1 h2;subst h2;simp
   ·simp only[List.mem_cons,uN (l:=l)];constructor
    ·rintro(h | h | h) <;> simp[h]
    ·rintro(h | h | h) <;> simp[h]
theorem rR{x:Int}:∀{l:List Int},l.Pairwise (· < ·)->(qL x l).Pairwise (· < ·)
 | [],_=>by simp[qL]
 | z::l,h=>by
  have h1:=aGx.mp h;unfold qL;split
  ·rename_i hx;refine aGx.mpr ⟨λy hy=>?_,h⟩;rcases aGk.mp hy with z | z
   ·subst z;exact hx
   ·exact Int.lt_trans hx (h1.1 y z)
  ·split
   ·exact h
   ·rename_i h2 h3;refine aGx.mpr ⟨λy hy=>?_,rR h1.2⟩;rcases uN.mp hy with z | z
    ·subst z;lia
    ·exact h1.1 y z
theorem mK{y:Int}:∀{l:List Int},y∈lD l↔y∈l
 | []=>by simp[lD]
 | x::l=>by
  show y∈qL x (lD l)↔_;rw[uN,mK (l:=l)];simp
theorem d9:∀l:List Int,(lD l).Pairwise (· < ·)
 | []=>List.Pairwise.nil
 | x::l=>rR (d9 l)
theorem GZ:∀{l1 l2:List Int},l1.Pairwise (· < ·)->l2.Pairwise (· < ·)->(∀x,x∈l1↔x∈l2)->l1=l2
 | [],[],_,_,_=>rfl
 | [],b::u,_,_,h=>absurd ((h b).mpr aGf) (by simp)
 | a::t,[],_,_,h=>absurd ((h a).mp aGf) (by simp)
 | a::t,b::u,s1,s2,h=>by
  have c1:=aGx.mp s1;have c2:=aGx.mp s2
  have hab:a=b:=by
   rcases aGk.mp ((h a).mp aGf) with z | z
   ·exact z
   ·rcases aGk.mp ((h b).mpr aGf) with y | y
    ·exact y.symm
    ·have:=c1.1 b y;have:=c2.1 a z;lia
  subst hab;rw[GZ c1.2 c2.2 λx=>?_];constructor
  ·intro hx;rcases aGk.mp ((h x).mp (aGg _ hx)) with z | z
   ·have:=c1.1 x hx;lia
   ·exact z
  ·intro hx;rcases aGk.mp ((h x).mpr (aGg _ hx)) with z | z
   ·have:=c2.1 x hx;lia
   ·exact z
theorem HW{l:List Int}{ks:List Key}(hm:∀k,k∈ks↔k∈l.map Sum.inl)(nd:ks.Nodup)(s:(ks.map bC).Pairwise λd e=>lx (enc e) (enc d)=false):ks.map bC=(lD l).map .int:=by
 have all:∀{ks:List Key},(∀k∈ks,∃i,k=Sum.inl i)->∃is:List Int,ks=is.map Sum.inl:=by
  intro ks
  induction ks with
  | nil=>intro _;exact⟨[],rfl⟩
  | cons k ks ih=>
   intro h;obtain⟨i,rfl⟩:=h k aGf;obtain⟨is,rfl⟩:=ih λk hk=>h k (aGg _ hk);exact⟨i::is,rfl⟩
 obtain⟨is,rfl⟩:=all λk hk=>by obtain⟨i,_,e⟩:=aGm.mp ((hm k).mp hk);exact⟨i,e.symm⟩
 have e:is=lD l:=by
  refine GZ ?_ (d9 l) λx=>?_
  ·have nd2:is.Pairwise (· ≠ ·):=by
    have:=List.pairwise_map.mp nd;exact this.imp λh z=>h (by rw[z])
   rw[List.pairwise_map,List.pairwise_map]at s;refine(nd2.and s).imp λ{a b} h=>?_;have h2:=h.2;simp only[bC,enc,jP,lx]at h2;by_cases hb:b<a
   ·simp[hb]at h2
   ·have:=h.1;lia
  ·rw[mK];have:=hm (Sum.inl x);simpa using this
 rw[e,List.map_map];rfl
theorem xJ(l:List Int):(l.map D.int)=(l.map (Sum.inl:Int->Key)).map bC:=by rw[List.map_map];rfl
theorem tM(l:List Int):KN (l.map D.int):= .inl ⟨.i,λd hd=>by obtain⟨s,_,rfl⟩:=aGm.mp hd;rfl⟩
abbrev En(mh:MH)(R:DK):eO:={nx:=λ_ mh1=>Out mh.length .b6 mh1 R,rt:=λd mh1=>Out mh.length d mh1 R}
theorem pF(n:Nat):∀l:List P2,cL n (l.map sD)=true
 | []=>rfl
 | s::l=>by simp[cL,dN,sD,pF n l]
theorem yY(n:Nat):∀l:List R4,cL n (l.map rD)=true
 | []=>rfl
 | s::l=>by simp[cL,dN,rD,yY n l]
theorem pG(n:Nat):∀l:List Bd,cL n (l.map bD)=true
 | []=>rfl
 | s::l=>by simp[cL,dN,bD,i9,pF,pG n l]
theorem zM(f:List P2)(s:P2):(aX f s).length<=f.length+1:=by
 rcases aH4 f with rfl | ⟨g,t,rfl⟩
 ·simp[gF]
 ·rw[List.concat_eq_append,fA];split
  ·simp
  ·split <;> simp
theorem gX:∀(l f:List P2),(l.foldl aX f).length<=f.length+l.length
 | [],f=>by simp
 | s::l,f=>by
  have:=gX l (aX f s);have:=zM f s;simp only[List.foldl_cons,List.length_cons];lia
theorem EZ(l:List P2):(bW l).length<=l.length:=by
 have:=gX (hV l) [];have:=(eQ l).length_eq;simp[bW]at*;lia
def uA:OA:=λds mh Q=>∃n l,ds=[.ref n]/\mh[n]? =some (.lst (l.map sD))/\l.length<4000/\Q (i9 (bW l)) mh
theorem YT(ds:List D)(mh:MH)(R:DK)(ok:kM mh)(hs:uA ds mh R):iC (En mh R) (aJ ["_law_shreds","_law_found","_law_start","_law_end"] ds) mh:=by
 obtain⟨n,l,rfl,hn,h64,q⟩:=hs;have sz:=aH1;have hnl:n<mh.length:=(aGc.mp hn).1;simp[iC,nC,aJ];refine⟨_,l.map sD,rfl,by simp[mU,List.getElem?_append_left hnl,hn],by simpa using h64,U7 l,λds' p s=>?_⟩;obtain rfl:=HX p s;have hl:=(eQ l).length_eq;simp[bG];refine b8 (λi ρ mh' =>(∃a b,ρ=[some (.ref n),some (.ref mh.length),a,b])/\mh' =mh++[.lst ((((hV l).take i).foldl aX []).map sD),.lst ((hV l).map sD)]) _ ?_ ?_ ?_ ⟨⟨_,_,rfl⟩,by simp⟩
 ·rintro i ρ mh' ⟨_,rfl⟩;simp
 ·rintro i d ρ mh' N hi ⟨⟨a,b,rfl⟩,rfl⟩ nx;obtain⟨s,hs,rfl⟩:=gE hi;have hil:i<(hV l).length:=(aGc.mp hs).1;have hfl:=gX ((hV l).take i) [];have e2:((hV l).take (i+1)).foldl aX []=aX (((hV l).take i).foldl aX []) s:=by rw[take_snoc hs];simp
  have nx2:∀a b,N [some (.ref n),some (.ref mh.length),a,b] (mh++[.lst ((aX (((hV l).take i).foldl aX []) s).map sD),.lst ((hV l).map sD)]):=λa b=>nx _ _ ⟨⟨_,_,rfl⟩,by rw[e2]⟩;generalize ((hV l).take i).foldl aX []=f at hfl nx2⊢;have g0:(mh++[MO.lst (f.map sD),.lst ((hV l).map sD)])[mh.length]? =some (.lst (f.map sD)):=by simp
  have gs:∀g:List D,(mh++[MO.lst (f.map sD),.lst ((hV l).map sD)]).set mh.length (.lst g)=mh++[.lst g,.lst ((hV l).map sD)]:=λg=>by simp
  have gk:f.map sD=[]\/True:= .inr trivial;generalize hM:mh++[MO.lst (f.map sD),.lst ((hV l).map sD)]=M at g0 gs⊢;simp at hfl;simp[sD,k9,lK g0,vY,fH g0];rcases aH4 f with rfl | ⟨g,t,rfl⟩
  ·simp only[gF]at nx2;simp;rw[eS g0,gs];exact⟨⟨_,g0⟩,by lia,by simp;lia,by simpa[sD] using nx2 _ _⟩
  ·rw[List.concat_eq_append]at*;simp only[fA]at nx2;have hix:nR ((g++[t]).map sD) (-1)=some (.tup [.int t.1,.int t.2]):=by rw[List.map_append];exact sO _ _
   rw[hix];have c0:¬(g++[t]=[]):=by simp
   simp only[bY,LN,mX,aB1];simp;by_cases c1:t.2<s.1
   ·simp only[c1,if_true]at nx2⊢;rw[eS g0,gs];refine⟨⟨_,g0⟩,by lia,by simp at hfl⊢;lia,?_⟩;have:=nx2 (some (.int s.1)) (some (.int s.2));simpa[sD] using this
   ·simp only[c1,if_false]at nx2⊢;by_cases c2:t.2<s.2
    ·simp only[c2,if_true]at nx2⊢;rw[fH g0,hix];simp[mX,c2];rw[fH g0,hix];simp[mX];rw[t9 g0];simp only[List.length_map,List.length_append,List.length_cons,List.length_nil,Nat.zero_add,uT,bY];rw[gs];have:=nx2 (some (.int s.1)) (some (.int s.2));refine⟨by lia,?_⟩;simpa[sD] using this
    ·simp only[c2,if_false]at nx2⊢;rw[fH g0,hix];simp[mX,c2];have:=nx2 (some (.int s.1)) (some (.int s.2));rw[hM]at this;exact this
 ·rintro ρ mh' ⟨⟨a,b,rfl⟩,rfl⟩;have e:(hV l).take ((hV l).map sD).length=hV l:=by simp
  rw[e];simp[nB,bG];exact uJ ok (by simp[dN,pF]) q
theorem BL(rs:List R4)(f:List Bd)(p:P2):(aZ rs f p).length<=f.length+1:=by
 rcases aH4 f with rfl | ⟨g,t,rfl⟩
 ·rw[fJ];split <;> simp
 ·rw[List.concat_eq_append,eF];split
  ·simp
  ·split <;> simp
theorem iR(rs:List R4):∀(l:List P2) (f:List Bd),(l.foldl (aZ rs) f).length<=f.length+l.length
 | [],f=>by simp
 | s::l,f=>by
  have:=iR rs l (aZ rs f s);have:=BL rs f s;simp only[List.foldl_cons,List.length_cons];lia
theorem CO(x:Int):∀l:List Int,(qL x l).length<=l.length+1
 | []=>by simp[qL]
 | y::l=>by
  unfold qL;have:=CO x l;split
  ·simp
  ·split <;> simp <;> lia
theorem wQ:∀l:List Int,(lD l).length<=l.length
 | []=>by simp[lD]
 | x::l=>by
  have:=wQ l;have:=CO x (lD l);show (qL x (lD l)).length<=_;simp;lia
theorem sS(rs:List R4):(dF rs).length<=2*rs.length:=by
 have:=wQ (rs.map (·.y0)++rs.map (·.y1));simp[dF]at*;lia
theorem tW(rs:List R4)(lo hi:Int):(aQ rs lo hi).length<=rs.length:=by
 simp[aQ];exact aJi _ _
theorem l7:∀l:List P2,f9 (l.map sD)=true/\c9 (l.map sD)<=2
 | []=>by simp[f9,c9]
 | s::l=>by
  have:=l7 l;simp only[List.map_cons,f9,c9,this.1,Bool.and_true];simp only[sD,bare,f9,deep,c9];refine⟨rfl,by lia⟩
theorem AA:∀l m:List P2,fV (l.map sD) (m.map sD)=decide (l=m)
 | [],[]=>by simp[fV]
 | [],_::_=>by simp[fV]
 | _::_,[]=>by simp[fV]
 | a::l,b::m=>by
  simp only[List.map_cons,fV,AA l m];simp only[sD,pV,fV];by_cases h1:a.1=b.1 <;> by_cases h2:a.2=b.2 <;> by_cases h3:l=m <;> simp[h1,h2,h3,Prod.ext_iff]
theorem R7{mh:MH}{n:Nat}{l:List P2}{Q:DK}(h:mh[n]? =some (.lst (l.map sD)))(hl:l.length<4000)(q:Q (i9 (bW l)) mh):uA [.ref n] mh Q:=⟨n,l,rfl,h,hl,q⟩
theorem YS{mh mh' :MH}{E:eO}{rs:List R4}{n fa:Nat}{lo hi:Int}{f:List Bd}{a5:Option D}{ya:D}(px:cH mh mh')(hn:mh'[n]? =some (.lst (rs.map rD)))(hr:(aQ rs lo hi).length<4000)(hf:mh'[fa]? =some (.lst (f.map bD)))(hfa:mh.length<=fa)(hfl:f.length<=4000)
  (nx:∀a T,cH mh ((mh' ++T).set fa (.lst ((aZ rs f (lo,hi)).map bD)))->E.nx [some (.ref n),some ya,some (.ref fa),some (.int lo),some (.int hi),a] ((mh' ++T).set fa (.lst ((aZ rs f (lo,hi)).map bD)))):
  eP uA E [some (.ref n),some ya,some (.ref fa),some (.int lo),some (.int hi),a5] mh' :=by
 have sz:=aH1;simp[eP];rw[bB hn];simp;refine u9 rD (λr=>decide (r.y0<=lo) && decide (hi<=r.y1)) (λr=>(r.x0,r.x1)) sD rs (bB hn) ?_ ?_
 ·intro r hr N M h1 h2;simp[fW,rD,mX,DN,ZN];by_cases c1:r.y0<=lo
  ·simp[c1]at h1 h2⊢;by_cases c2:hi<=r.y1
   ·simp[c2]at h1 h2⊢;exact⟨by lia,h1⟩
   ·simp[c2]at h1 h2⊢;exact h2 (by lia)
  ·simp[c1]at h1 h2⊢;exact h2
 ·refine R7 (l:=aQ rs lo hi) (by simp[aQ]) hr ?_;have px1:cH mh (mh' ++[MO.lst ((aQ rs lo hi).map sD)]):=px.push _;have g1:(mh' ++[MO.lst ((aQ rs lo hi).map sD)])[fa]? =some (.lst (f.map bD)):=bE hf;have nx1:=λa=>nx a [MO.lst ((aQ rs lo hi).map sD)] (px1.set hfa _);change dS uA _ _ (mh' ++[MO.lst ((aQ rs lo hi).map sD)]);generalize mh' ++[MO.lst ((aQ rs lo hi).map sD)]=M at px1 g1 nx1⊢;have keep:=oX g1;have hlb:=l7 (bW (aQ rs lo hi));generalize hln:bW (aQ rs lo hi)=ln at*;have hrs:∀g,aZ rs g (lo,hi)=aZ rs g (lo,hi):=λ_=>rfl;simp[dS,lK g1,i9,vY,fH g1];rcases aH4 f with rfl | ⟨g,t,rfl⟩
  ·simp only[fJ,hln]at nx1;by_cases c:ln=[]
   ·subst c;simp at nx1⊢;simp at keep;rw[keep]at nx1;exact nx1 _
   ·have c' :0<ln.length:=List.length_pos_iff.mpr c;simp[c,c']at nx1⊢;rw[eS g1];exact⟨⟨_,g1⟩,by lia,by simp;lia,by simpa[bD,i9] using nx1 _⟩
  ·rw[List.concat_eq_append]at*;have hix:nR ((g++[t]).map bD) (-1)=some (.tup [.int t.lo,.int t.hi,.tup (t.ln.map sD)]):=by rw[List.map_append];exact sO _ _
   simp only[eF,hln]at nx1;by_cases c:ln=[]
   ·subst c;simp at nx1⊢;simp at keep;rw[keep]at nx1;exact nx1 _
   ·have c' :0<ln.length:=List.length_pos_iff.mpr c;have hb3:=l7 t.ln;simp[c,c']at nx1⊢;rw[sO];simp[bD,i9,mX,DN];by_cases c1:t.hi=lo
    ·simp[c1]at nx1⊢;rw[fH g1,hix];simp[mX,DN];refine⟨hb3.1,hlb.1,by lia,?_⟩;rw[AA];by_cases c2:t.ln=ln
     ·simp[c2]at nx1⊢;rw[fH g1,hix];simp[mX,DN];rw[t9 g1];simp only[List.length_map,List.length_append,List.length_cons,List.length_nil,Nat.zero_add,uT,bY];have:=nx1 (some (.tup (ln.map sD)));refine⟨by lia,?_⟩;simpa[bD,i9] using this
     ·simp[c2]at nx1⊢;rw[eS g1];refine⟨⟨_,g1⟩,by lia,by simp at hfl⊢;lia,?_⟩;have:=nx1 (some (.tup (ln.map sD)));simpa[bD,i9] using this
    ·simp[c1]at nx1⊢;rw[eS g1];refine⟨⟨_,g1⟩,by lia,by simp at hfl⊢;lia,?_⟩;have:=nx1 (some (.tup (ln.map sD)));simpa[bD,i9] using this
abbrev KJ(i:Int):Prop:= -1048576<=i/\i<=1048576
def p8(mh:MH)(b sm:Nat):Prop:=sm≠b/\∃is:List Int,mh[sm]? =some (.lst (is.map .int))/\is.length=8/\∀i∈is,KJ i
theorem p8.to{mh mh' :MH}{b sm:Nat}(h:p8 mh b sm)(t:cO mh b mh'):p8 mh' b sm:=by
 obtain⟨h1,is,h2,h3⟩:=h;exact⟨h1,is,by rw[t.other h1];exact h2,h3⟩
def pD:OA:=λds mh Q=>∃b sort sm,ds=[.ref b,.int sort,.ref sm]/\yM mh b/\p8 mh b sm/\∀v mh',KJ v->cO mh b mh' ->Q (.int v) mh'
theorem N3(ds:List D)(mh:MH)(R:DK)(ok:kM mh)(hs:pD ds mh R):eZ lL (En mh R) (aJ ["_law_bag_here","_law_sort","_law_some"] ds) mh:=by
 obtain⟨b,sort,sm,rfl,hb,h8,q⟩:=hs;have fin:∀v mh',KJ v->cO mh b mh' ->Out mh.length (.int v) mh' R:=λv mh' h t=>cJ (q v mh' h t);simp[eZ,aJ];by_cases c0:sort=0
 ·simp[c0];exact sI (by lia) (by lia) hb λr mh' r0 r1 t=>by simp;exact fin _ _ ⟨by lia,by lia⟩ t
 ·simp[c0,j8];by_cases c1:sort=1
  ·simp[c1];exact sI (by lia) (by lia) hb λr mh' r0 r1 t=>by simp;exact fin _ _ ⟨by lia,by lia⟩ t
  ·simp[c1,j7];by_cases c2:sort=2
   ·simp[c2];refine⟨.inl ⟨by lia,by lia⟩,?_⟩;exact sI (by lia) (by lia) hb λr mh' r0 r1 t=>by simp;exact fin _ _ ⟨by lia,by lia⟩ t
   ·have h8' :=h8;obtain⟨n1,is,h2,h3,h4⟩:=h8;simp[c2,j6,lK h2,h3];refine sI (by lia) (by lia) hb λr mh' r0 r1 t=>?_;have h2' :mh'[sm]? =some (.lst (is.map .int)):=by rw[t.other n1];exact h2
    obtain⟨v,hv,_,e⟩:=TK (f:=D.int) (ss:=is) r0 (by lia);rw[fH h2',e];simp;exact fin v mh' (h4 v hv) t
def BI:OA:=λds mh Q=>∃b sort sm,ds=[.ref b,.int sort,.ref sm]/\yM mh b/\p8 mh b sm/\∀u v mh',KJ u->KJ v->u<v->cO mh b mh' ->Q (.tup [.int u,.int v]) mh'
theorem xI{mh:MH}{b sm:Nat}{sort:Int}{Q:DK}(hb:yM mh b)(h8:p8 mh b sm)(q:∀v mh',KJ v->cO mh b mh' ->Q (.int v) mh'):pD [.ref b,.int sort,.ref sm] mh Q:=⟨b,sort,sm,rfl,hb,h8,q⟩
theorem YQ(ds:List D)(mh:MH)(R:DK)(ok:kM mh)(hs:BI ds mh R):h9 pD (En mh R) (aJ ["_law_bag_here","_law_sort","_law_some","_law_one","_law_other_here"] ds) mh:=by
 obtain⟨b,sort,sm,rfl,hb,h8,q⟩:=hs;have sz:=aH1;simp[h9,nA,aJ];refine xI hb h8 λu mh1 u1 t1=>?_;refine xI t1.1 (h8.to t1) λv mh2 v1 t2=>?_;have t:=t1.trans t2;simp[m9];by_cases c:u=v
 ·subst c;simp;by_cases c1:u=1048576
  ·simp[c1];exact⟨by lia,cJ (q _ _ mh2 ⟨by lia,by lia⟩ ⟨by lia,by lia⟩ (by lia) t)⟩
  ·simp[c1];exact⟨by lia,cJ (q _ _ mh2 u1 ⟨by lia,by lia⟩ (by lia) t)⟩
 ·simp[c,m8];refine⟨by lia,cJ ?_⟩;by_cases c1:v<u
  ·rw[if_pos c1,if_neg (by lia)];exact q _ _ mh2 v1 u1 c1 t
  ·rw[if_neg c1,if_pos (by lia)];exact q _ _ mh2 u1 v1 (by lia) t
theorem GK{mh:MH}{b sm:Nat}{sort:Int}{Q:DK}(hb:yM mh b)(h8:p8 mh b sm)(q:∀u v mh',KJ u->KJ v->u<v->cO mh b mh' ->Q (.tup [.int u,.int v]) mh'):BI [.ref b,.int sort,.ref sm] mh Q:=⟨b,sort,sm,rfl,hb,h8,q⟩
def R4.ok(r:R4):Prop:=KJ r.x0/\KJ r.y0/\KJ r.x1/\KJ r.y1/\r.x0<r.x1/\r.y0<r.y1
def qE:OA:=λds mh Q=>∃b most,ds=[.ref b,.int most]/\12<=most/\most<=1000/\yM mh b/\∀(rs:List R4) mh',rs.length<=most.toNat->(∀r∈rs,r.ok)->cO mh b mh' ->Q (.ref mh'.length) (mh' ++[.lst (rs.map rD)])
theorem ix4{x y z u r:Int}(h0:0<=r)(h1:r<4):∃v,nR [D.int x,.int y,.int z,.int u] r=some (.int v)/\(v=x\/v=y\/v=z\/v=u):=by
 have:r=0\/r=1\/r=2\/r=3:=by lia
 rcases this with rfl | rfl | rfl | rfl
 ·exact⟨x,aG0 _ _,.inl rfl⟩
 ·exact⟨y,mX _ _ _,.inr (.inl rfl)⟩
 ·exact⟨z,DN _ _ _ _,.inr (.inr (.inl rfl))⟩
 ·exact⟨u,ZN _ _ _ _ _,.inr (.inr (.inr rfl))⟩
theorem SU(ds:List D)(mh:MH)(R:DK)(ok:kM mh)(hs:qE ds mh R):gA lL BI (En mh R) (aJ ["_law_bag_here","_law_most","_law_sort","_law_many","_law_some","_law_found","_law_k","_law_left","_law_right","_law_low","_law_high"] ds) mh:=by
 obtain⟨b,most,rfl,m0,m1,hb,q⟩:=hs;have sz:=aH1;have hbl:=hb.lt;simp[gA,kY,aJ];refine tO (.refl hb) (by lia) (by lia) λsort mh1 s0 s1 x1 _ _=>?_;refine⟨by lia,?_⟩;refine tO (x1.push _) (by lia) (by lia) λr mh2 r0 r1 x2 l2 k2=>?_;have e2:mh2[mh1.length]? =some (.lst [.int (most+1),.int 13,.int 13,.int 7]):=by rw[k2 _ x1.le];simp
 rw[fH e2];obtain⟨v,hv,hv2⟩:=ix4 (x:=most+1) (y:=13) (z:=13) (u:=7) r0 r1;rw[hv];simp;refine tO x2 (by lia) (by lia) λmany mh3 n0 n1 x3 _ _=>?_;have hmany:many<=most:=by lia
 simp[kX];refine⟨by lia,?_⟩;refine OW (λi ys mh' =>eW mh b mh' /\∃is:List Int,ys=is.map .int/\is.length=i/\∀i∈is,KJ i) _ (λ_ _ _ _=>trivial) ?_ ?_ ⟨x3,[],rfl,rfl,by simp⟩
 ·rintro i d ys mh4 N hi ⟨x4,is,rfl,il,fa⟩ nx;simp[fW];refine tO x4 (by lia) (by lia) λc mh5 c0 c1 x5 _ _=>?_;simp;refine nx _ _ ⟨x5,is++[c-1048576],by simp,by simp[il],λi hi=>?_⟩;rcases aGh.mp hi with hi | hi
  ·exact fa i hi
  ·simp at hi;subst hi;exact⟨by lia,by lia⟩
 ·rintro ys mh4 ⟨x4,is,rfl,il,fa⟩;simp at il;simp;refine⟨by lia,?_⟩;rw[LP (i:=is.map .int) (j:=[.int (-1048576),.int 1048576,.int 0,.int 1]) (by simp) (by simp)];refine⟨by simp;lia,?_⟩;simp[kW,kU]
  have xx:=(x4.app [MO.lst (is.map .int),.lst [D.int (-1048576),D.int 1048576,D.int 0,D.int 1],MO.lst ((is.map .int)++[D.int (-1048576),D.int 1048576,D.int 0,D.int 1]),.lst []])
  have h8:p8 ((mh4++[MO.lst (is.map .int),.lst [D.int (-1048576),D.int 1048576,D.int 0,D.int 1]]++[MO.lst ((is.map .int)++[D.int (-1048576),D.int 1048576,D.int 0,D.int 1])])++[.lst []]) b (mh4.length+2):=by
   refine⟨by have:=x4.le;lia,is++[-1048576,1048576,0,1],by simp,by simp;lia,λi hi=>?_⟩;rcases aGh.mp hi with hi | hi
   ·exact fa i hi
   ·simp at hi;rcases hi with rfl | rfl | rfl | rfl <;> exact⟨by lia,by lia⟩
  have g0:((mh4++[MO.lst (is.map .int),.lst [D.int (-1048576),D.int 1048576,D.int 0,D.int 1]]++[MO.lst ((is.map .int)++[D.int (-1048576),D.int 1048576,D.int 0,D.int 1])])++[.lst []])[mh4.length+3]? =some (.lst []):=by simp
  simp only[List.append_assoc,List.cons_append,List.nil_append]at h8 g0;have hm4:=x4.le;generalize mh4++[MO.lst (is.map .int),.lst [D.int (-1048576),D.int 1048576,D.int 0,D.int 1],MO.lst ((is.map .int)++[D.int (-1048576),D.int 1048576,D.int 0,D.int 1]),.lst []]=M at h8 xx g0⊢;generalize mh4.length=c at*;refine⟨by lia,by lia,?_⟩;refine b8 (λi ρ mh' =>(∃a1 a2 a3 a4 a5,ρ=[some (.ref b),some (.int most),some (.int sort),some (.int many),some (.ref (c+2)),some (.ref (c+3)),a1,a2,a3,a4,a5])/\eW mh b mh' /\p8 mh' b (c+2)/\∃rs:List R4,mh'[c+3]? =some (.lst (rs.map rD))/\rs.length=i/\∀r∈rs,r.ok) _ (λ_ _ _ _=>trivial) ?_ ?_ ⟨⟨_,_,_,_,_,rfl⟩,xx,h8,[],by simpa using g0,rfl,by simp⟩
  ·rintro i d ρ mh5 N hi ⟨⟨a1,a2,a3,a4,a5,rfl⟩,x5,h85,rs,gr,hl,bZ⟩ nx;obtain⟨hil,rfl⟩:=sL hi;simp[j5,iB];refine GK x5.bag h85 λu v mh6 u1 v1 uv t6=>?_;simp;refine GK t6.1 (h85.to t6) λu2 v2 mh7 u3 v3 uv2 t7=>?_;have t:=t6.trans t7;have gr7:mh7[c+3]? =some (.lst (rs.map rD)):=by rw[t.other (by lia)];exact gr
   simp[iA,vY];rw[eS gr7];refine⟨⟨_,gr7⟩,by lia,by simp;lia,nx _ _ ⟨⟨_,_,_,_,_,rfl⟩,(x5.to t).set (by lia) _,?_,rs++[⟨u,u2,v,v2⟩],?_,by simp[hl],λr hr=>?_⟩⟩
   ·obtain⟨n1,is2,h2,h3⟩:=h85.to t;exact⟨n1,is2,get_set h2 (by lia),h3⟩
   ·rw[b9 _ gr7];simp[rD]
   ·rcases aGh.mp hr with hr | hr
    ·exact bZ r hr
    ·simp at hr;subst hr;exact⟨u1,u3,v1,v3,uv,uv2⟩
  ·rintro ρ mh5 ⟨⟨a1,a2,a3,a4,a5,rfl⟩,x5,h85,rs,gr,hl,bZ⟩;simp[kT];refine x5.WL ok (by lia) gr (by simp[zC,yY]) λmh6 t=>q rs mh6 (by simp at hl;lia) bZ t
theorem zN{P:Int->Prop}{f:List P2}{s:P2}(hf:∀t∈f,P t.1/\P t.2)(hs:P s.1/\P s.2):∀t∈aX f s,P t.1/\P t.2:=by
 rcases aH4 f with rfl | ⟨g,u,rfl⟩
 ·rw[gF];intro t ht;simp at ht;subst ht;exact hs
 ·rw[List.concat_eq_append]at*;rw[fA];have hu:=hf u (by simp);split
  ·intro t ht;rcases aGh.mp ht with z | z
   ·exact hf t z
   ·simp at z;subst z;exact hs
  ·split
   ·intro t ht;rcases aGh.mp ht with z | z
    ·exact hf t (by simp[z])
    ·simp at z;subst z;exact⟨hu.1,hs.2⟩
   ·exact hf
theorem lW{P:Int->Prop}:∀(l f:List P2),(∀t∈l,P t.1/\P t.2)->(∀t∈f,P t.1/\P t.2)->∀t∈l.foldl aX f,P t.1/\P t.2
 | [],f,_,hf=>hf
 | s::l,f,hl,hf=>lW l (aX f s) (λt ht=>hl t (aGg _ ht)) (zN hf (hl s aGf))
theorem E1{P:Int->Prop}{l:List P2}(h:∀t∈l,P t.1/\P t.2):∀t∈bW l,P t.1/\P t.2:=
 lW _ _ (λt ht=>h t ((eQ l).mem_iff.mp ht)) (by simp)
theorem D7{P:Int->Prop}{rs:List R4}(h:∀r∈rs,P r.x0/\P r.x1)(lo hi:Int):∀t∈aQ rs lo hi,P t.1/\P t.2:=by
 intro t ht;simp only[aQ,List.mem_map,List.mem_filter]at ht;obtain⟨r,⟨hr,_⟩,rfl⟩:=ht;exact h r hr
theorem w9(rs:List R4):(cC rs).length<=2*rs.length:=by
 have:=iR rs ((dF rs).zip (dF rs).tail) [];have:=sS rs;simp[cC]at*;lia
theorem LY{mh:MH}{b:Nat}{most:Int}{Q:DK}(h0:12<=most)(h1:most<=1000)(hb:yM mh b)(q:∀(rs:List R4) mh',rs.length<=most.toNat->(∀r∈rs,r.ok)->cO mh b mh' ->Q (.ref mh'.length) (mh' ++[.lst (rs.map rD)])):qE [.ref b,.int most] mh Q:=⟨b,most,rfl,h0,h1,hb,q⟩
def f7(f:List P2)(x:Int):Prop:=∃t∈f,t.1<=x/\x<t.2
def Sep(f:List P2):Prop:=(∀t∈f,t.1<t.2)/\f.Pairwise λa b=>a.2<b.1
theorem mO{f g:List P2}{x:Int}:f7 (f++g) x↔f7 f x\/f7 g x:=by
 unfold f7;constructor
 ·rintro⟨t,ht,h⟩;rcases aGh.mp ht with z | z
  ·exact .inl ⟨t,z,h⟩
  ·exact .inr ⟨t,z,h⟩
 ·rintro(⟨t,ht,h⟩ | ⟨t,ht,h⟩)
  ·exact⟨t,aHj _ ht,h⟩
  ·exact⟨t,aGs _ ht,h⟩
theorem iJ{t:P2}{x:Int}:f7 [t] x↔t.1<=x/\x<t.2:=by simp[f7]
theorem B8{f:List P2}{s:P2}(hf:Sep f)(hs:s.1<s.2)(hb:∀t∈f,t.1<=s.1):
  Sep (aX f s)/\(∀t∈aX f s,t.1<=s.1)/\∀x,f7 (aX f s) x↔f7 f x\/(s.1<=x/\x<s.2):=by
 rcases aH4 f with rfl | ⟨g,t,rfl⟩
 ·rw[gF];refine⟨⟨by simpa using hs,by simp⟩,by simp,λx=>by simp[f7]⟩
 ·rw[List.concat_eq_append]at*;rw[fA];obtain⟨hv,hp⟩:=hf;have ht:=hv t (by simp);have htb:=hb t (by simp);have hp2:=aGr.mp hp;split
  ·rename_i c;refine⟨⟨λu hu=>?_,aGr.mpr ⟨hp,by simp,λa ha b hbb=>?_⟩⟩,λu hu=>?_,λx=>by rw[mO,iJ]⟩
   ·rcases aGh.mp hu with z | z
    ·exact hv u z
    ·simp at z;subst z;exact hs
   ·simp at hbb;subst hbb;rcases aGh.mp ha with z | z
    ·have:=hp2.2.2 a z t (by simp);lia
    ·simp at z;subst z;exact c
   ·rcases aGh.mp hu with z | z
    ·exact hb u z
    ·simp at z;subst z;lia
  ·rename_i c;split
   ·rename_i c2;refine⟨⟨λu hu=>?_,aGr.mpr ⟨hp2.1,by simp,λa ha b hbb=>?_⟩⟩,λu hu=>?_,λx=>?_⟩
    ·rcases aGh.mp hu with z | z
     ·exact hv u (by simp[z])
     ·simp at z;subst z;simp;lia
    ·simp at hbb;subst hbb;exact hp2.2.2 a ha t (by simp)
    ·rcases aGh.mp hu with z | z
     ·exact hb u (by simp[z])
     ·simp at z;subst z;exact htb
    ·rw[mO,mO,iJ,iJ];simp only;constructor
     ·rintro(h | h)
      ·exact .inl (.inl h)
      ·by_cases hx:x<t.2
       ·exact .inl (.inr ⟨h.1,hx⟩)
       ·exact .inr ⟨by lia,h.2⟩
     ·rintro((h | h) | h)
      ·exact .inl h
      ·exact .inr ⟨h.1,by lia⟩
      ·exact .inr ⟨by lia,h.2⟩
   ·rename_i c2;refine⟨⟨hv,hp⟩,hb,λx=>⟨.inl,?_⟩⟩;rintro(h | h)
    ·exact h
    ·rw[mO,iJ];exact .inr ⟨by lia,by lia⟩
theorem nL:∀(l f:List P2),l.Pairwise (λa b=>zB a b=true)->(∀s∈l,s.1<s.2)->Sep f->(∀t∈f,∀s∈l,t.1<=s.1)->
  Sep (l.foldl aX f)/\∀x,f7 (l.foldl aX f) x↔f7 f x\/f7 l x
 | [],f,_,_,hf,_=>⟨hf,λx=>by simp[f7]⟩
 | s::l,f,hp,hv,hf,hb=>by
  have c:=aGx.mp hp;obtain⟨h1,h2,h3⟩:=B8 hf (hv s aGf) λt ht=>hb t ht s aGf
  have ih:=nL l (aX f s) c.2 (λu hu=>hv u (aGg _ hu)) h1 λt ht u hu=>by
   have:=h2 t ht;have:=c.1 u hu;simp only[zB,decide_eq_true_eq]at this
   lia
  refine⟨ih.1,λx=>?_⟩;rw[List.foldl_cons,ih.2 x,h3 x]
  have e:f7 (s::l) x↔(s.1<=x/\x<s.2)\/f7 l x:=by
   rw[show s::l=[s]++l from rfl,mO,iJ]
  rw[e,or_assoc]
theorem IX{l:List P2}(hv:∀s∈l,s.1<s.2):Sep (bW l)/\∀x,f7 (bW l) x↔f7 l x:=by
 have h:=nL (hV l) [] (rJ l) (λs hs=>hv s ((eQ l).mem_iff.mp hs)) ⟨by simp,by simp⟩ (by simp);refine⟨h.1,λx=>?_⟩;have:=h.2 x;unfold bW;rw[this];unfold f7;simp only[List.not_mem_nil,false_and,exists_false,false_or];constructor
 ·rintro⟨t,ht,q⟩;exact⟨t,(eQ l).mem_iff.mp ht,q⟩
 ·rintro⟨t,ht,q⟩;exact⟨t,(eQ l).mem_iff.mpr ht,q⟩
def cB(g:List Bd)(x y:Int):Prop:=∃b∈g,b.lo<=y/\y<b.hi/\f7 b.ln x
structure qU(g:List Bd):Prop where
 lt:∀b∈g,b.lo<b.hi
 ne:∀b∈g,b.ln≠[]
 sep:∀b∈g,Sep b.ln
 up:g.Pairwise λa b=>a.hi<=b.lo
 apart:∀u a b v,g=u++a::b::v->¬(a.hi=b.lo/\a.ln=b.ln)
theorem g9{f g:List Bd}{x y:Int}:cB (f++g) x y↔cB f x y\/cB g x y:=by
 unfold cB;constructor
 ·rintro⟨t,ht,h⟩;rcases aGh.mp ht with z | z
  ·exact .inl ⟨t,z,h⟩
  ·exact .inr ⟨t,z,h⟩
 ·rintro(⟨t,ht,h⟩ | ⟨t,ht,h⟩)
  ·exact⟨t,aHj _ ht,h⟩
  ·exact⟨t,aGs _ ht,h⟩
theorem g8{b:Bd}{x y:Int}:cB [b] x y↔b.lo<=y/\y<b.hi/\f7 b.ln x:=by simp[cB]
theorem DG{f:List Bd}{b c:Bd}(h:qU (f++[b]))(h1:c.lo<c.hi)(h2:c.ln≠[])(h3:Sep c.ln)(h4:b.hi<=c.lo)(h5:¬(b.hi=c.lo/\b.ln=c.ln)):qU (f++[b]++[c]):=by
 obtain⟨a1,a2,a3,a4,a5⟩:=h;refine⟨λd hd=>?_,λd hd=>?_,λd hd=>?_,aGr.mpr ⟨a4,by simp,λd hd e he=>?_⟩,λu a d v e=>?_⟩
 ·rcases aGh.mp hd with z | z
  ·exact a1 d z
  ·simp at z;subst z;exact h1
 ·rcases aGh.mp hd with z | z
  ·exact a2 d z
  ·simp at z;subst z;exact h2
 ·rcases aGh.mp hd with z | z
  ·exact a3 d z
  ·simp at z;subst z;exact h3
 ·simp at he;subst he;have hp2:=aGr.mp a4;have hbb:=a1 b (by simp);rcases aGh.mp hd with z | z
  ·have:=hp2.2.2 d z b (by simp);lia
  ·simp at z;subst z;exact h4
 ·rcases aH4 v with rfl | ⟨v',w,rfl⟩
  ·have e2:f++[b]++[c]=(u++[a])++[d]:=by rw[e];simp
   have e3:=aJh e2 rfl;have e4:=aJk e2 rfl;have e5:=aJh e4 rfl;simp at e3 e5;subst e3 e5;exact h5
  ·rw[List.concat_eq_append]at e;have e2:f++[b]++[c]=(u++a::d::v')++[w]:=by rw[e];simp
   exact a5 u a d v' (aJk e2 rfl)
theorem HJ{c:Bd}(h1:c.lo<c.hi)(h2:c.ln≠[])(h3:Sep c.ln):qU [c]:=by
 refine⟨by simpa using h1,by simpa using h2,by simpa using h3,by simp,λu a b v e=>?_⟩;have:=aHk List.length e;simp at this
 lia
theorem rZ{f:List Bd}{b:Bd}{hi:Int}(h:qU (f++[b]))(h1:b.hi<=hi):qU (f++[⟨b.lo,hi,b.ln⟩]):=by
 obtain⟨a1,a2,a3,a4,a5⟩:=h;have hp2:=aGr.mp a4;have hb:=a1 b (by simp);refine⟨λd hd=>?_,λd hd=>?_,λd hd=>?_,aGr.mpr ⟨hp2.1,by simp,λd hd e he=>?_⟩,λu a d v e=>?_⟩
 ·rcases aGh.mp hd with z | z
  ·exact a1 d (by simp[z])
  ·simp at z;subst z;show b.lo<hi;lia
 ·rcases aGh.mp hd with z | z
  ·exact a2 d (by simp[z])
  ·simp at z;subst z;exact a2 b (by simp)
 ·rcases aGh.mp hd with z | z
  ·exact a3 d (by simp[z])
  ·simp at z;subst z;exact a3 b (by simp)
 ·simp at he;subst he;exact hp2.2.2 d hd b (by simp)
 ·rcases aH4 v with rfl | ⟨v',w,rfl⟩
  ·have e2:f++[⟨b.lo,hi,b.ln⟩]=(u++[a])++[d]:=by rw[e];simp
   have e3:=aJh e2 rfl;have e4:=aJk e2 rfl;simp at e3;subst e3;exact a5 u a b [] (by rw[e4];simp)
  ·rw[List.concat_eq_append]at e;have e2:f++[⟨b.lo,hi,b.ln⟩]=(u++a::d::v')++[w]:=by rw[e];simp
   exact a5 u a d (v' ++[b]) (by rw[List.append_inj_left' e2 rfl];simp)
theorem EE{rs:List R4}{f:List Bd}{p:P2}(hr:∀r∈rs,r.x0<r.x1)(hf:qU f)(hp:p.1<p.2)(hb:∀b∈f,b.hi<=p.1):
  qU (aZ rs f p)/\(∀b∈aZ rs f p,b.hi<=p.2)/\∀x y,cB (aZ rs f p) x y↔cB f x y\/(p.1<=y/\y<p.2/\f7 (aQ rs p.1 p.2) x):=by
 have hv:∀s∈aQ rs p.1 p.2,s.1<s.2:=λs hs=>by
  simp only[aQ,List.mem_map,List.mem_filter]at hs;obtain⟨r,⟨h,_⟩,rfl⟩:=hs;exact hr r h
 obtain⟨hsep,hcov⟩:=IX hv;have hcov2:∀x,f7 (aQ rs p.1 p.2) x↔f7 (bW (aQ rs p.1 p.2)) x:=λx=>(hcov x).symm
 have goal:qU (aZ rs f p)/\(∀b∈aZ rs f p,b.hi<=p.2)/\∀x y,cB (aZ rs f p) x y↔cB f x y\/(p.1<=y/\y<p.2/\f7 (bW (aQ rs p.1 p.2)) x):=by
  rcases aH4 f with rfl | ⟨g,t,rfl⟩
  ·rw[fJ];split
   ·rename_i c;rw[c];exact⟨hf,by simp,λx y=>by simp[cB,f7]⟩
   ·rename_i c;exact⟨HJ hp c hsep,by simp,λx y=>by simp[cB]⟩
  ·rw[List.concat_eq_append]at*;rw[eF];have htb:=hb t (by simp);split
   ·rename_i c;rw[c];exact⟨hf,λb hbb=>by have:=hb b hbb;lia,λx y=>by simp[f7]⟩
   ·rename_i c;split
    ·rename_i c2;obtain⟨c2,c3⟩:=c2;rw[<-c3];refine⟨rZ hf (by lia),λb hbb=>?_,λx y=>?_⟩
     ·rcases aGh.mp hbb with z | z
      ·have:=hb b (by simp[z]);lia
      ·simp at z;subst z;simp
     ·rw[g9,g9,g8,g8];simp only;have hlt:=hf.lt t (by simp);constructor
      ·rintro(h | h)
       ·exact .inl (.inl h)
       ·by_cases hy:y<t.hi
        ·exact .inl (.inr ⟨h.1,hy,h.2.2⟩)
        ·exact .inr ⟨by lia,h.2.1,h.2.2⟩
      ·rintro((h | h) | h)
       ·exact .inl h
       ·exact .inr ⟨h.1,by lia,h.2.2⟩
       ·exact .inr ⟨by lia,h.2.1,h.2.2⟩
    ·rename_i c2;refine⟨DG hf hp c hsep htb c2,λb hbb=>?_,λx y=>by rw[g9,g8]⟩;rcases aGh.mp hbb with z | z
     ·have:=hb b z;lia
     ·simp at z;subst z;simp
 refine⟨goal.1,goal.2.1,λx y=>?_⟩;rw[goal.2.2 x y,hcov2]
theorem pS{rs:List R4}(hr:∀r∈rs,r.x0<r.x1):∀(ys:List Int) (f:List Bd),ys.Pairwise (· < ·)->qU f->(∀b∈f,∀y∈ys,b.hi<=y)->
  qU ((ys.zip ys.tail).foldl (aZ rs) f)/\∀x y,cB ((ys.zip ys.tail).foldl (aZ rs) f) x y↔cB f x y\/∃p∈ys.zip ys.tail,p.1<=y/\y<p.2/\f7 (aQ rs p.1 p.2) x
 | [],f,_,hf,_=>by simp;exact hf
 | [a],f,_,hf,_=>by simp;exact hf
 | a::b::ys,f,hs,hf,hb=>by
  have c:=aGx.mp hs;obtain⟨h1,h2,h3⟩:=EE (p:=(a,b)) hr hf (c.1 b (by simp)) λd hd=>hb d hd a (by simp)
  have ih:=pS hr (b::ys) (aZ rs f (a,b)) c.2 h1 λd hd y hy=>by
   have h4:=h2 d hd;simp only at h4;rcases aGk.mp hy with z | z
   ·lia
   ·have:=(aGx.mp c.2).1 y z;lia
  have e:(a::b::ys).zip (a::b::ys).tail=(a,b)::(b::ys).zip (b::ys).tail:=rfl;rw[e];refine⟨ih.1,λx y=>?_⟩;rw[List.foldl_cons,ih.2 x y,h3 x y];constructor
  ·rintro((h | h) | ⟨p,hp,h⟩)
   ·exact .inl h
   ·exact .inr ⟨(a,b),aGf,h⟩
   ·exact .inr ⟨p,aGg _ hp,h⟩
  ·rintro(h | ⟨p,hp,h⟩)
   ·exact .inl (.inl h)
   ·rcases aGk.mp hp with z | z
    ·subst z;exact .inl (.inr h)
    ·exact .inr ⟨p,z,h⟩
theorem between:∀{ys:List Int} {a b y:Int},ys.Pairwise (· < ·)->a∈ys->b∈ys->a<=y->y<b->∃p∈ys.zip ys.tail,p.1<=y/\y<p.2/\a<=p.1/\p.2<=b
 | [],a,b,y,_,h,_,_,_=>by cases h
 | [c],a,b,y,_,ha,hb,h1,h2=>by simp at ha hb;lia
 | c::d::ys,a,b,y,hs,ha,hb,h1,h2=>by
  have cc:=aGx.mp hs;have e:(c::d::ys).zip (c::d::ys).tail=(c,d)::(d::ys).zip (d::ys).tail:=rfl;rw[e];have hcd:=cc.1 d (by simp)
  have dmin:∀z∈d::ys,d<=z:=λz hz=>by
   rcases aGk.mp hz with q | q
   ·lia
   ·have:=(aGx.mp cc.2).1 z q;lia
  have hb2:b∈d::ys:=by
   rcases aGk.mp hb with z | z
   ·exfalso;rcases aGk.mp ha with q | q
    ·lia
    ·have:=cc.1 a q;lia
   ·exact z
  by_cases hy:y<d
  ·have:a=c:=by
    rcases aGk.mp ha with q | q
    ·exact q
    ·have:=dmin a q;lia
   subst this;exact⟨(a,d),aGf,h1,hy,aHv _,dmin b hb2⟩
  ·have:∃a' ∈d::ys,a' <=y/\a<=a' :=by
    rcases aGk.mp ha with q | q
    ·exact⟨d,by simp,by lia,by lia⟩
    ·exact⟨a,q,h1,aHv _⟩
   obtain⟨a',ha',h3,h4⟩:=this;obtain⟨p,hp,q1,q2,q3,q4⟩:=between cc.2 ha' hb2 h3 h2;exact⟨p,aGg _ hp,q1,q2,by lia,q4⟩
def R4.has(r:R4)(x y:Int):Prop:=r.x0<=x/\x<r.x1/\r.y0<=y/\y<r.y1
theorem gQ{rs:List R4}(hr:∀r∈rs,r.x0<r.x1/\r.y0<r.y1):qU (cC rs)/\∀x y,cB (cC rs) x y↔∃r∈rs,r.has x y:=by
 have h:=pS (rs:=rs) (λr h=>(hr r h).1) (dF rs) [] (d9 _) ⟨by simp,by simp,by simp,by simp,λu a b v e=>by cases u <;> simp at e⟩ (by simp);refine⟨h.1,λx y=>?_⟩;unfold cC;rw[h.2 x y]
 have my:∀r∈rs,r.y0∈dF rs/\r.y1∈dF rs:=λr hr=>by
  unfold dF;rw[mK,mK];exact⟨aHj _ (aGm.mpr ⟨r,hr,rfl⟩),aGs _ (aGm.mpr ⟨r,hr,rfl⟩)⟩
 constructor
 ·rintro(⟨b,hb,_⟩ | ⟨p,hp,h1,h2,t,ht,h3⟩)
  ·cases hb
  ·simp only[aQ,List.mem_map,List.mem_filter,Bool.and_eq_true,decide_eq_true_eq]at ht;obtain⟨r,⟨hrm,h4,h5⟩,rfl⟩:=ht;exact⟨r,hrm,h3.1,h3.2,by lia,by lia⟩
 ·rintro⟨r,hrm,h1,h2,h3,h4⟩;obtain⟨p,hp,q1,q2,q3,q4⟩:=between (d9 _) (my r hrm).1 (my r hrm).2 h3 h4;refine .inr ⟨p,hp,q1,q2,(r.x0,r.x1),?_,h1,h2⟩;simp only[aQ,List.mem_map,List.mem_filter,Bool.and_eq_true,decide_eq_true_eq];exact⟨r,⟨hrm,q3,q4⟩,rfl⟩
end LR
namespace LS
open PySem PyProof.Rows L2 D3
def jB:WS:=(dW (HU ["y0","y1","stretches","x0","x1"] [] (cY (aB 0)) (gT 3 (aH (gN 0) (aH (gN 1) (aH (gN 2) cR)))) kJ (cY (aB 2)) (gT 2 (aH (gN 3) (aH (gN 4) cR))) kJ (dH (aA (aB 3) (aA (aB 0) (aA (aB 4) (aA (aB 1) aF)))))))
def iM(s0:OA):WS:=(dW (wM (aG p7 (aA (aB 0) (aA (wC (.ty "int")) aF))) (wM (GB (aG p7 (aA (aB 0) (aA (wC (.ty "bool")) aF)))) (bA oEq (aB 0) (aB 1)))))
def iN(s0:OA):WS:=(aW (gC (r8 (aG p7 (aA (aB 1) (aA (wC (.ty "str")) aF)))) (dW (wM (aG p7 (aA (aB 0) (aA (wC (.ty "str")) aF))) (bA oEq (aB 0) (aB 1)))) dI) (iM s0))
def cX(s0:OA):WS:=(aW (gC (r8 (aG p7 (aA (aB 1) (aA (dH (aA (wC (.ty "tuple")) (aA (wC (.ty "list")) aF))) aF)))) (aW (gC (K5 (dU (bA O8 (aG p7 (aA (aB 0) (aA (wC (.ty "tuple")) aF))) (aG p7 (aA (aB 1) (aA (wC (.ty "tuple")) aF))))) (dU (bA O8 (aG p7 (aA (aB 0) (aA (wC (.ty "list")) aF))) (aG p7 (aA (aB 1) (aA (wC (.ty "list")) aF)))))) (dW (wC (.bl false))) dI) (aW (gC (dU (bA O8 (aG gH (aA (aB 0) aF)) (aG gH (aA (aB 1) aF)))) (dW (wC (.bl false))) dI) (dW (bA oEq (aG gH (aA (A9 ["_law_k"] [0,1] (kA (aA (aG gH (aA (aB 1) aF)) aF)) (gN 0) (tG (r8 (aG s0 (aA (bA gV (aB 1) (aB 0)) (aA (bA gV (aB 2) (aB 0)) aF))))) (aB 0)) aF)) (wC (.int 0)))))) dI) (iN s0))
def j9:WS:=(iE (GC "list" uO (aB 1) (aA (A9 ["_law_start","_law_end"] [2,3] (cY (aB 4)) (gT 2 (aH (gN 0) (aH (gN 1) cR))) kJ (dH (aA (aB 0) (aA (aB 2) (aA (aB 1) (aA (aB 3) aF)))))) aF)))
def kZ:WS:=(dW (aB 1))
def k7:WS:=(aW (jF (cY (aB 0)) (gT 3 (aH (gN 2) (aH (gN 3) (aH (gN 4) cR)))) (j9)) (kZ))
def gB:WS:=(aW (bS (nW aF) (gN 1)) (k7))
open LR (En)
mutual
def plain:D->Bool
 | .int _=>true
 | .str z=>decide (z.length<=1000)
 | .tup ds=>dX ds && decide (ds.length<=1000000)
 | _=>false
def dX:List D->Bool
 | []=>true
 | d::ds=>plain d && dX ds
end
theorem uG:∀{l:List D},dX l=true↔∀d∈l,plain d=true
 | []=>by simp[dX]
 | a::l=>by simp[dX,uG (l:=l)]
def pB(n:Nat):OA:=λds mh Q=>Q (.bl true) mh/\((∃d,ds=[d,d]/\plain d=true/\deep d<n)\/∃a b xs,ds=[.ref a,.ref b]/\mh[a]? =some (.lst xs)/\mh[b]? =some (.lst xs)/\dX xs=true/\c9 xs+1<n/\xs.length<=1000000)
theorem yW{n:Nat}{d:D}{mh:MH}{Q:DK}(h1:plain d=true)(h2:deep d<n)(q:Q (.bl true) mh):pB n [d,d] mh Q:=⟨q,.inl ⟨d,rfl,h1,h2⟩⟩
theorem HG:∀{l:List D} {d:D},d∈l->deep d<=c9 l
 | a::l,d,h=>by
  simp only[c9];rcases aGk.mp h with z | z
  ·subst z;lia
  ·have:=HG z;lia
theorem w6{mh0 mh:MH}{R:DK}{n:Nat}{x y:D}{xs:List D}(ok:kM mh)(hx:bG mh x=some xs)(hp:dX xs=true)(hd:c9 xs<n)(hl:xs.length<=1000000)
  (hi:∀i:Int,∀M:MH,∀Q:DK,(∃T,M=mh++T)->(gV x (.int i) M Q↔got (nR xs i) λd=>Q d M)) (hj:∀i:Int,∀M:MH,∀Q:DK,(∃T,M=mh++T)->(gV y (.int i) M Q↔got (nR xs i) λd=>Q d M))
  (hly:∀Q:DK,gH [y] mh Q↔Q (.int xs.length) mh) (q:R (.bl true) mh):
  dW (bA oEq (aG gH (aA (A9 ["_law_k"] [0,1] (kA (aA (aG gH (aA (aB 1) aF)) aF)) (gN 0) (tG (r8 (aG (pB n) (aA (bA gV (aB 1) (aB 0)) (aA (bA gV (aB 2) (aB 0)) aF))))) (aB 0)) aF)) (wC (.int 0))) (En mh R) [some x,some y] mh:=by
 have sz:=aH1;simp[hly];refine⟨by lia,?_⟩;have er:uC 0 xs.length=(List.range xs.length).map λk:Nat=>D.int (0+k):=rfl;rw[er];refine u9 (λk:Nat=>D.int (0+k)) (λ_=>false) id (λk:Nat=>D.int (0+k)) _ trivial ?_ ?_
 ·intro k hk N M h1 h2;simp at hk
  have hat:nR xs ((0:Int)+k)=some xs[k]:=by
   have:=iK (xs:=xs) (j:=k) (v:=xs[k]) (by simp[hk]);rw[<-this];congr 1;lia
  simp only[Int.zero_add]at hat;simp[fW];rw[hi _ _ _ ⟨[],by simp⟩,hat];simp;rw[hj _ _ _ ⟨[],by simp⟩,hat];simp;have hm:xs[k]∈xs:=aJo _;refine yW (uG.mp hp _ hm) (by have:=HG hm;lia) ?_;simp[iO];exact h2 rfl
 ·rw[lK (eR _ _)];simp;have e0:(List.range xs.length).filter (λ_=>false)=[]:=by simp
  rw[e0];exact uJ ok (by simp[dN]) q
theorem YR(n:Nat)(ds:List D)(mh:MH)(R:DK)(ok:kM mh)(hs:pB (n+1) ds mh R):cX (pB n) (En mh R) (aJ ["_law_found","_law_due"] ds) mh:=by
 have sz:=aH1;obtain⟨q,⟨d,rfl,hp,hd⟩ | ⟨a,b,xs,rfl,ha,hb,hp,hd,hl⟩⟩:=hs
 ·cases d with
  | int i=>
   simp[cX,aJ,PY,bJ,iO,r9,iN,iM];exact⟨by lia,cJ q⟩
  | str z=>
   simp[cX,aJ,PY,bJ,iO,r9,iN,iM];exact⟨by lia,cJ q⟩
  | tup xs=>
   simp only[plain,Bool.and_eq_true,decide_eq_true_eq]at hp;simp only[deep]at hd;simp[cX,aJ,PY,bJ,iO,r9];have:=w6 (mh0:=mh) (x:= .tup xs) (y:= .tup xs) (R:=R) (n:=n) ok rfl hp.1 (by lia) hp.2 (λi M Q _=>LN xs i) (λi M Q _=>LN xs i) (λQ=>VR xs) q;refine⟨by lia,?_⟩;simpa using this
  | _=>simp[plain]at hp
 ·simp[cX,aJ,PY,bJ,iO,r9,ha,hb,lK ha,lK hb];have:=w6 (mh0:=mh) (x:= .ref a) (y:= .ref b) (R:=R) (n:=n) ok (bB ha) hp (by lia) hl (λi M Q zz0=>by obtain⟨T,e⟩:=zz0;exact fH (by rw[e];exact pP ha) i) (λi M Q zz1=>by obtain⟨T,e⟩:=zz1;exact fH (by rw[e];exact pP hb) i) (λQ=>lK hb) q;refine⟨by lia,?_⟩;simpa[lK hb] using this
open LR
def aO(g:List Bd):List R4:=g.flatMap λb=>b.ln.map λs=>⟨s.1,b.lo,s.2,b.hi⟩
theorem EF{g:List Bd}{n:Nat}(h:∀b∈g,b.ln.length<=n):(aO g).length<=n*g.length:=by
 induction g with
 | nil=>simp[aO]
 | cons b g ih=>
  have:=ih λc hc=>h c (aGg _ hc);have:=h b aGf;simp only[aO,List.flatMap_cons,List.length_append,List.length_map,List.length_cons]at*;rw[Nat.mul_add];lia
def Z3:OA:=λds mh Q=>∃g,ds=[gD g]/\(aO g).length<=1000000/\Q (.ref mh.length) (mh++[.lst ((aO g).map rD)])
theorem aFs(ds:List D)(mh:MH)(R:DK)(ok:kM mh)(hs:Z3 ds mh R):jB (En mh R) (aJ ["region"] ds) mh:=by
 obtain⟨g,rfl,hl,q⟩:=hs;have sz:=aH1;simp[jB,aJ,gD,bG]
 have hl2:(g.flatMap λb=>b.ln).length<=16777216:=by
  have:(g.flatMap λb=>b.ln).length=(aO g).length:=by simp[aO,List.length_flatMap]
  lia
 refine S6 bD (λb=>b.ln) sD (λb s=>(⟨s.1,b.lo,s.2,b.hi⟩:R4)) rD (λb=>[some (.int b.lo),some (.int b.hi),some (i9 b.ln),none,none]) g (by simp) hl2 (λb _ N hN=>?_) (λb _ N hN=>?_) (λb _ s _ N hN=>?_) ?_
 ·simp[bD,fW];exact hN
 ·simp[i9,bG];exact hN _ (by simp)
 ·simp[sD];exact⟨by lia,by simpa[rD] using hN⟩
 ·exact cJ q
def qF:OA:=Z3
theorem SV(ds:List D)(mh:MH)(R:DK)(ok:kM mh)(hs:qF ds mh R):gB (En mh R) (aJ ["_law_some","_law_found","_law_low","_law_high","_law_line_here"] ds) mh:=by
 obtain⟨g,rfl,hl,q⟩:=hs;have sz:=aH1;simp[gB,k7,aJ,gD,bG];refine b8 (λi ρ mh' =>cH mh mh' /\mh'[mh.length]? =some (.lst ((aO (g.take i)).map rD))/\∃a b c,ρ=[some (.tup (g.map bD)),some (.ref mh.length),a,b,c]) _ (λ_ _ _ _=>by simp) ?_ ?_ ⟨cH.refl.push _,by simp[aO],_,_,_,rfl⟩
 ·rintro i d ρ mh' N hi ⟨px,gf,a,b,c,rfl⟩ nx;obtain⟨bd,hb,rfl⟩:=gE hi;have hil:i<g.length:=(aGc.mp hb).1
  have e1:aO (g.take (i+1))=aO (g.take i)++bd.ln.map λs=>⟨s.1,bd.lo,s.2,bd.hi⟩:=by
   rw[take_snoc hb];simp[aO]
  have l1:(aO (g.take (i+1))).length<=(aO g).length:=by
   have:aO g=aO (g.take (i+1))++aO (g.drop (i+1)):=by
    unfold aO;rw[<-List.flatMap_append,List.take_append_drop]
   rw[this,List.length_append];lia
  simp[bD,i9,j9,vY,bG];refine⟨⟨_,gf⟩,gJ sD (λs=>(⟨s.1,bd.lo,s.2,bd.hi⟩:R4)) rD bd.ln (by simp) (λs hs N hN=>?_) ?_⟩
  ·simp[fW,sD];exact⟨by lia,by simpa[rD] using hN⟩
  ·refine⟨mh.length,.ref mh'.length,_,_,rfl,rfl,bE gf,bB (eR _ _),?_,?_⟩
   ·rw[e1]at l1;simp at l1⊢;lia
   ·refine nx _ _ ⟨(px.push _).set (aGi _) _,?_,_,_,_,rfl⟩;rw[b9 _ (bE gf),e1,List.map_append]
 ·rintro ρ mh' ⟨px,gf,a,b,c,rfl⟩;simp[kZ];simp at gf;exact px.WL ok (aGi _) gf (by simp[zC,yY]) q
end LS
namespace LR
open PySem PyProof.Rows L2 D3
theorem lG{a:P2}{f:List P2}(h:Sep (a::f)):Sep f/\a.1<a.2/\∀t∈f,a.2<t.1:=
 ⟨⟨λt ht=>h.1 t (aGg _ ht),(aGx.mp h.2).2⟩,h.1 a aGf,(aGx.mp h.2).1⟩
theorem bL{a:P2}{f:List P2}{x:Int}:f7 (a::f) x↔(a.1<=x/\x<a.2)\/f7 f x:=by
 rw[show a::f=[a]++f from rfl,mO,iJ]
theorem AI{x:Int}:¬f7 [] x:=λzz0=>by obtain⟨_,h,_⟩:=zz0;cases h
theorem tX:∀{f g:List P2},Sep f->Sep g->(∀x,f7 f x↔f7 g x)->f=g
 | [],[],_,_,_=>rfl
 | [],b::g,_,hg,h=>by
  have:=lG hg;exact absurd ((h b.1).mpr (bL.mpr (.inl ⟨aHv _,this.2.1⟩))) AI
 | a::f,[],hf,_,h=>by
  have:=lG hf;exact absurd ((h a.1).mp (bL.mpr (.inl ⟨aHv _,this.2.1⟩))) AI
 | a::f,b::g,hf,hg,h=>by
  obtain⟨f1,f2,f3⟩:=lG hf;obtain⟨g1,g2,g3⟩:=lG hg
  have e1:b.1<=a.1:=by
   rcases bL.mp ((h a.1).mp (bL.mpr (.inl ⟨aHv _,f2⟩))) with z | ⟨t,ht,z⟩
   ·exact z.1
   ·have:=g3 t ht;lia
  have e2:a.1<=b.1:=by
   rcases bL.mp ((h b.1).mpr (bL.mpr (.inl ⟨aHv _,g2⟩))) with z | ⟨t,ht,z⟩
   ·exact z.1
   ·have:=f3 t ht;lia
  have e3:b.2<=a.2:=by
   refine Int.not_lt.mp λhlt=>?_;rcases bL.mp ((h a.2).mpr (bL.mpr (.inl ⟨by lia,hlt⟩))) with z | ⟨t,ht,z⟩
   ·lia
   ·have:=f3 t ht;lia
  have e4:a.2<=b.2:=by
   refine Int.not_lt.mp λhlt=>?_;rcases bL.mp ((h b.2).mp (bL.mpr (.inl ⟨by lia,hlt⟩))) with z | ⟨t,ht,z⟩
   ·lia
   ·have:=g3 t ht;lia
  have e:a=b:=Prod.ext (by lia) (by lia);subst e;rw[tX f1 g1 λx=>⟨λhx=>?_,λhx=>?_⟩]
  ·rcases bL.mp ((h x).mp (bL.mpr (.inr hx))) with z | z
   ·obtain⟨t,ht,q⟩:=hx;have:=f3 t ht;lia
   ·exact z
  ·rcases bL.mp ((h x).mpr (bL.mpr (.inr hx))) with z | z
   ·obtain⟨t,ht,q⟩:=hx;have:=g3 t ht;lia
   ·exact z
theorem hC{a:Bd}{g:List Bd}(h:qU (a::g)):qU g/\a.lo<a.hi/\a.ln≠[]/\Sep a.ln/\(∀b∈g,a.hi<=b.lo/\b.lo<b.hi)/\∀b v,g=b::v->¬(a.hi=b.lo/\a.ln=b.ln):=by
 obtain⟨h1,h2,h3,h4,h5⟩:=h;have p:=aGx.mp h4;refine⟨⟨λb hb=>h1 b (aGg _ hb),λb hb=>h2 b (aGg _ hb),λb hb=>h3 b (aGg _ hb),p.2,λu c d v e=>h5 (a::u) c d v (by rw[e];rfl)⟩,h1 a aGf,h2 a aGf,h3 a aGf,λb hb=>⟨p.1 b hb,h1 b (aGg _ hb)⟩,λb v e=>h5 [] a b v (by rw[e];rfl)⟩
theorem bV{a:Bd}{g:List Bd}{x y:Int}:cB (a::g) x y↔(a.lo<=y/\y<a.hi/\f7 a.ln x)\/cB g x y:=by
 rw[show a::g=[a]++g from rfl,g9,g8]
theorem DC{x y:Int}:¬cB [] x y:=λzz1=>by obtain⟨_,h,_⟩:=zz1;cases h
theorem uM{f:List P2}(h:f≠[])(s:Sep f):∃x,f7 f x:=by
 cases f with
 | nil=>exact absurd rfl h
 | cons a f=>exact⟨a.1,bL.mpr (.inl ⟨aHv _,(lG s).2.1⟩)⟩
theorem jR{a:Bd}{g:List Bd}(h:qU (a::g)){y:Int}(h1:a.lo<=y)(h2:y<a.hi)(x:Int):cB (a::g) x y↔f7 a.ln x:=by
 rw[bV];constructor
 ·rintro(z | ⟨b,hb,z⟩)
  ·exact z.2.2
  ·have:=(hC h).2.2.2.2.1 b hb;lia
 ·exact λz=>.inl ⟨h1,h2,z⟩
theorem UP{a b:Bd}{g h:List Bd}(hg:qU (a::g))(hh:qU (b::h))(e1:a.lo=b.lo)(e2:a.ln=b.ln)(hc:∀x y,cB (a::g) x y↔cB (b::h) x y):b.hi<=a.hi:=by
 refine Int.not_lt.mp λhlt=>?_;obtain⟨g1,g2,g3,g4,g5,g6⟩:=hC hg
 have at_:∀x,cB g x a.hi↔f7 a.ln x:=λx=>by
  rw[e2,<-jR hh (y:=a.hi) (by lia) hlt x,<-hc,bV];exact⟨.inr,λz=>z.elim (λz=>by lia) id⟩
 obtain⟨x,hx⟩:=uM g3 g4;obtain⟨c,hcm,c1,c2,c3⟩:=(at_ x).mpr hx
 cases g with
 | nil=>cases hcm
 | cons d g=>
  obtain⟨k1,k2,k3,k4,k5,k6⟩:=hC g1;have hd:=g5 d aGf
  have hcd:c=d:=by
   rcases aGk.mp hcm with z | z
   ·exact z
   ·have:=k5 c z;lia
  subst hcd;have elo:a.hi=c.lo:=by lia
  refine g6 c g rfl ⟨elo,tX g4 k4 λx=>?_⟩;rw[<-at_ x];exact jR g1 (by lia) c2 x
theorem vC:∀{g h:List Bd},qU g->qU h->(∀x y,cB g x y↔cB h x y)->g=h
 | [],[],_,_,_=>rfl
 | [],b::h,_,hh,hc=>by
  obtain⟨_,h2,h3,h4,_⟩:=hC hh;obtain⟨x,hx⟩:=uM h3 h4;exact absurd ((hc x b.lo).mpr (bV.mpr (.inl ⟨aHv _,h2,hx⟩))) DC
 | a::g,[],hg,_,hc=>by
  obtain⟨_,h2,h3,h4,_⟩:=hC hg;obtain⟨x,hx⟩:=uM h3 h4;exact absurd ((hc x a.lo).mp (bV.mpr (.inl ⟨aHv _,h2,hx⟩))) DC
 | a::g,b::h,hg,hh,hc=>by
  obtain⟨g1,g2,g3,g4,g5,g6⟩:=hC hg;obtain⟨h1,h2,h3,h4,h5,h6⟩:=hC hh
  have l1:b.lo<=a.lo:=by
   obtain⟨x,hx⟩:=uM g3 g4;rcases bV.mp ((hc x a.lo).mp (bV.mpr (.inl ⟨aHv _,g2,hx⟩))) with z | ⟨c,hcm,z⟩
   ·exact z.1
   ·have:=h5 c hcm;lia
  have l2:a.lo<=b.lo:=by
   obtain⟨x,hx⟩:=uM h3 h4;rcases bV.mp ((hc x b.lo).mpr (bV.mpr (.inl ⟨aHv _,h2,hx⟩))) with z | ⟨c,hcm,z⟩
   ·exact z.1
   ·have:=g5 c hcm;lia
  have elo:a.lo=b.lo:=by lia
  have eln:a.ln=b.ln:=tX g4 h4 λx=>by
   rw[<-jR hg (Int.le_refl _) g2 x,hc,elo,jR hh (Int.le_refl _) h2 x]
  have u1:=UP hg hh elo eln hc;have u2:=UP hh hg elo.symm eln.symm λx y=>(hc x y).symm
  have e:a=b:=by
   cases a;cases b;simp only at elo eln u1 u2;simp only[Bd.mk.injEq];exact⟨elo,by lia,eln⟩
  subst e;rw[vC g1 h1 λx y=>⟨λhx=>?_,λhx=>?_⟩]
  ·rcases bV.mp ((hc x y).mp (bV.mpr (.inr hx))) with z | z
   ·obtain⟨c,hcm,q⟩:=hx;have:=g5 c hcm;lia
   ·exact z
  ·rcases bV.mp ((hc x y).mpr (bV.mpr (.inr hx))) with z | z
   ·obtain⟨c,hcm,q⟩:=hx;have:=h5 c hcm;lia
   ·exact z
def bH(f:List Bd)(b:Bd):List Bd:=
 if b.ln=[] then f else match f.getLast? with
  | some t=>if t.hi=b.lo/\t.ln=b.ln then f.dropLast++[⟨t.lo,b.hi,b.ln⟩] else f++[b]
  | none=>[b]
theorem jM(b:Bd):bH [] b=if b.ln=[] then [] else [b]:=rfl
theorem iP(f:List Bd)(t b:Bd):bH (f++[t]) b=if b.ln=[] then f++[t] else if t.hi=b.lo/\t.ln=b.ln then f++[⟨t.lo,b.hi,b.ln⟩] else f++[t]++[b]:=by
 simp[bH]
theorem CH{f:List Bd}{p:Bd}(hf:qU f)(hp:p.lo<p.hi)(hsep:Sep p.ln)(hb:∀b∈f,b.hi<=p.lo):
  qU (bH f p)/\(∀b∈bH f p,b.hi<=p.hi)/\∀x y,cB (bH f p) x y↔cB f x y\/(p.lo<=y/\y<p.hi/\f7 p.ln x):=by
 rcases aH4 f with rfl | ⟨g,t,rfl⟩
 ·rw[jM];split
  ·rename_i c;rw[c];exact⟨hf,by simp,λx y=>by simp[cB,f7]⟩
  ·rename_i c;exact⟨HJ hp c hsep,by simp,λx y=>by simp[cB]⟩
 ·rw[List.concat_eq_append]at*;rw[iP];have htb:=hb t (by simp);split
  ·rename_i c;rw[c];exact⟨hf,λb hbb=>by have:=hb b hbb;lia,λx y=>by simp[f7]⟩
  ·rename_i c;split
   ·rename_i c2;obtain⟨c2,c3⟩:=c2;rw[<-c3];refine⟨rZ hf (by lia),λb hbb=>?_,λx y=>?_⟩
    ·rcases aGh.mp hbb with z | z
     ·have:=hb b (by simp[z]);lia
     ·simp at z;subst z;simp
    ·rw[g9,g9,g8,g8];simp only;have hlt:=hf.lt t (by simp);constructor
     ·rintro(h | h)
      ·exact .inl (.inl h)
      ·by_cases hy:y<t.hi
       ·exact .inl (.inr ⟨h.1,hy,h.2.2⟩)
       ·exact .inr ⟨by lia,h.2.1,h.2.2⟩
     ·rintro((h | h) | h)
      ·exact .inl h
      ·exact .inr ⟨h.1,by lia,h.2.2⟩
      ·exact .inr ⟨by lia,h.2.1,h.2.2⟩
   ·rename_i c2;refine⟨DG hf hp c hsep htb c2,λb hbb=>?_,λx y=>by rw[g9,g8]⟩;rcases aGh.mp hbb with z | z
    ·have:=hb b z;lia
    ·simp at z;subst z;simp
theorem nM:∀(l f:List Bd),(∀b∈l,b.lo<b.hi/\Sep b.ln)->l.Pairwise (λa b=>a.hi<=b.lo)->qU f->(∀b∈f,∀c∈l,b.hi<=c.lo)->
  qU (l.foldl bH f)/\∀x y,cB (l.foldl bH f) x y↔cB f x y\/cB l x y
 | [],f,_,_,hf,_=>⟨hf,λx y=>by simp[cB]⟩
 | p::l,f,h1,h2,hf,h3=>by
  have c:=aGx.mp h2;obtain⟨j1,j2,j3⟩:=CH hf (h1 p aGf).1 (h1 p aGf).2 λb hb=>h3 b hb p aGf
  obtain⟨i1,i2⟩:=nM l (bH f p) (λb hb=>h1 b (aGg _ hb)) c.2 j1 λb hb d hd=>by
   have:=j2 b hb;have:=c.1 d hd
   lia
  refine⟨i1,λx y=>?_⟩;rw[List.foldl_cons,i2,j3,bV,or_assoc]
theorem zR(f:List Bd)(b:Bd):(bH f b).length<=f.length+1:=by
 rcases aH4 f with rfl | ⟨g,t,rfl⟩
 ·rw[jM];split <;> simp
 ·rw[List.concat_eq_append,iP];split
  ·simp
  ·split <;> simp
theorem lX:∀(l f:List Bd),(l.foldl bH f).length<=f.length+l.length
 | [],f=>by simp
 | p::l,f=>by
  have h1:=lX l (bH f p);have h2:=zR f p;simp only[List.foldl_cons,List.length_cons];lia
def nG:List Int->List P2
 | a::b::r=>(a,b)::nG r
 | _=>[]
def pX(v:Int->Int):List Int->Int->List Int
 | [],_=>[]
 | x::r,a=>if decide (a<1)=decide (a+v x<1) then pX v r (a+v x) else x::pX v r (a+v x)
theorem pW{v:Int->Int}{y:Int}:∀{ks:List Int} {a:Int},y∈pX v ks a->y∈ks
 | [],a,h=>by simp[pX]at h
 | x::r,a,h=>by
  unfold pX at h;split at h
  ·exact aGg _ (pW h)
  ·rcases aGk.mp h with z | z
   ·exact z▸aGf
   ·exact aGg _ (pW z)
theorem sA{c:Int->Int}{x:Int}{r:List Int}(hn:∀y,x<y->y∉r->c y=c (y-1)):∀(n:Nat) (y:Int),y=x+n->(∀k∈r,y<k)->c y=c x
 | 0,y,e,_=>by rw[e];simp
 | n+1,y,e,h=>by
  rw[hn y (by lia) λhy=>by have:=h y hy;lia];exact sA hn n (y-1) (by lia) λk hk=>by have:=h k hk;lia
theorem ON{c v:Int->Int}:∀(ks:List Int) (lo:Int),ks.Pairwise (· < ·)->(∀k∈ks,lo<k)->(∀k∈ks,v k=c k-c (k-1))->(∀y,lo<y->y∉ks->c y=c (y-1))->(∃m,∀y,m<=y->c y<1)->
  (c lo<1->Sep (nG (pX v ks (c lo)))/\(∀t∈nG (pX v ks (c lo)),t.1∈ks)/\∀x,lo<=x->(f7 (nG (pX v ks (c lo))) x↔1<=c x))/\
  (1<=c lo->∀s,(∀k∈ks,s<k)->s<=lo->Sep (nG (s::pX v ks (c lo)))/\(∀t∈nG (s::pX v ks (c lo)),s<=t.1)/\(∀x,s<=x->x<=lo->f7 (nG (s::pX v ks (c lo))) x)/\∀x,lo<=x->(f7 (nG (s::pX v ks (c lo))) x↔1<=c x))
 | [],lo,_,_,_,hn,⟨m,hm⟩=>by
  have all:∀x,lo<=x->c x=c lo:=λx hx=>sA hn (x-lo).toNat x (by lia) (by simp);refine⟨λh=>⟨⟨by simp[pX,nG],by simp[pX,nG]⟩,by simp[pX,nG],λx hx=>?_⟩,λh=>?_⟩
  ·rw[all x hx];simp only[pX,nG];exact⟨λz=>absurd z AI,λz=>by lia⟩
  ·exfalso;have h1:=hm (max m lo) (by lia);rw[all _ (by lia)]at h1
   lia
 | x::r,lo,hs,hlo,hv,hn,hm=>by
  have p:=aGx.mp hs;have hx:=hlo x aGf
  have pre:∀y,lo<=y->y<x->c y=c lo:=λy h1 h2=>sA hn (y-lo).toNat y (by lia) λk hk=>by
   rcases aGk.mp hk with z | z
   ·lia
   ·have:=p.1 k z;lia
  have hvx:c lo+v x=c x:=by
   rw[hv x List.mem_cons_self,pre (x-1) (by lia) (by lia)];lia
  obtain⟨ih1,ih2⟩:=ON r x p.2 p.1 (λk hk=>hv k (aGg _ hk)) (λy h1 h2=>hn y (by lia) λhy=>by
   rcases aGk.mp hy with z | z
   ·lia
   ·exact h2 z) hm
  unfold pX;rw[hvx];refine⟨λh=>?_,λh s hsk hsl=>?_⟩
  ·by_cases hd:c x<1
   ·rw[if_pos (by simp[h,hd])];obtain⟨a1,a2,a3⟩:=ih1 hd;refine⟨a1,λt ht=>aGg _ (a2 t ht),λy hy=>?_⟩;by_cases hxy:x<=y
    ·exact a3 y hxy
    ·rw[pre y hy (by lia)];refine⟨λ⟨t,ht,z⟩=>?_,λz=>by lia⟩;have:=p.1 t.1 (a2 t ht);lia
   ·rw[if_neg (by simp[h,hd])];obtain⟨a1,a2,_,a3⟩:=ih2 (by lia) x p.1 (aHv _);refine⟨a1,λt ht=>?_,λy hy=>?_⟩
    ·cases e:pX v r (c x) with
     | nil=>rw[e]at ht;simp[nG]at ht
     | cons z l=>
      rw[e]at ht
      have:∀(l:List Int) (t:P2),t∈nG l->t.1∈l:=by
       intro l
       induction l using nG.induct with
       | case1 a b r ih=>
        intro t ht;simp only[nG,List.mem_cons]at ht;rcases ht with rfl | ht
        ·simp
        ·have:=ih t ht;simp[this]
       | case2 l hl=>
        intro t ht
        cases l with
        | nil=>simp[nG]at ht
        | cons a l=>cases l with
         | nil=>simp[nG]at ht
         | cons b l=>exact absurd rfl (hl a b l)
      have q:=this _ t ht;rw[<-e]at q;rcases aGk.mp q with w | w
      ·rw[w];exact aGf
      ·exact aGg _ (pW w)
    ·by_cases hxy:x<=y
     ·exact a3 y hxy
     ·rw[pre y hy (by lia)];refine⟨λ⟨t,ht,z⟩=>?_,λz=>by lia⟩;have:=a2 t ht;lia
  ·by_cases hd:c x<1
   ·rw[if_neg (by simp[hd];lia)];obtain⟨a1,a2,a3⟩:=ih1 hd;have hsx:=hsk x aGf;simp only[nG];refine⟨⟨λt ht=>?_,aGx.mpr ⟨λt ht=>p.1 t.1 (a2 t ht),a1.2⟩⟩,λt ht=>?_,?_,λy hy=>?_⟩
    ·rcases aGk.mp ht with z | z
     ·subst z;exact hsx
     ·exact a1.1 t z
    ·rcases aGk.mp ht with z | z
     ·subst z;exact aHv _
     ·have:=p.1 t.1 (a2 t z);lia
    ·intro y h1 h2;exact bL.mpr (.inl ⟨h1,by simp only;lia⟩)
    ·rw[bL];by_cases hxy:x<=y
     ·rw[a3 y hxy];exact⟨λz=>z.elim (λz=>by simp only at z;lia) id,.inr⟩
     ·rw[pre y hy (by lia)];exact⟨λ_=>h,λ_=>.inl ⟨by simp only;lia,by simp only;lia⟩⟩
   ·rw[if_pos (by simp[hd];lia)];obtain⟨a1,a2,a4,a3⟩:=ih2 (by lia) s (λk hk=>hsk k (aGg _ hk)) (by lia);refine⟨a1,a2,λy h1 h2=>a4 y h1 (by lia),λy hy=>?_⟩;by_cases hxy:x<=y
    ·exact a3 y hxy
    ·rw[pre y hy (by lia)];exact⟨λ_=>h,λ_=>a4 y (by lia) (by lia)⟩
def m4:WS:=(gC (rG (r8 (aB 1)) (rG (dU (bA oEq (bA gV (bA gV (aB 1) (rE fK (wC (.int 1)))) (wC (.int 1))) (aB 2))) (dU (bA oEq (bA gV (bA gV (aB 1) (rE fK (wC (.int 1)))) (wC (.int 2))) (aB 4))))) (tF (dH (aA (bA gV (bA gV (aB 1) (rE fK (wC (.int 1)))) (wC (.int 0))) (aA (aB 3) (aA (aB 4) aF)))) (aB 1) (rE fK (wC (.int 1)))) (iE (GC "list" dD (aB 1) (aA (dH (aA (aB 2) (aA (aB 3) (aA (aB 4) aF)))) aF))))
def kO:WS:=(aW (gC (tG (r8 (aB 4))) U6 dI) (m4))
def tD:WS:=(dW (aG qS (aA (aB 1) aF)))
def tE:WS:=(aW (jF (cY (aB 0)) (gT 3 (aH (gN 2) (aH (gN 3) (aH (gN 4) cR)))) (kO)) (tD))
def oN:WS:=(aW (bS (nW aF) (gN 1)) (tE))
def oM:WS:=(dW (wTZ 2 (aA (K3 (aB 0) U5 U5 (rF (wC (.int 2)))) (aA (K3 (aB 0) (rF (wC (.int 1))) U5 (rF (wC (.int 2)))) aF))))
def iX:WS:=(gC (dU (bA oEq (bA MM (aB 0) (aB 5)) (wC (.int 0)))) (K7 (aB 0) (aB 5)) dI)
def gM:WS:=(aW (K4 (bA fL (GD (aB 0) (aB 5) (wC (.int 0))) (aB 6)) (aB 0) (aB 5)) (iX))
def kR:WS:=(jF (cY (dH (aA (dH (aA (aB 3) (aA (aB 2) aF))) (aA (dH (aA (aB 4) (aA (rE fK (aB 2)) aF))) aF)))) (gT 2 (aH (gN 5) (aH (gN 6) cR))) (gM))
def hX:WS:=(jF (cY (aB 1)) (gT 2 (aH (gN 3) (aH (gN 4) cR))) (kR))
def gL(s0:OA):WS:=(gC (dU (bA O8 (bA oLt (aB 5) (aB 1)) (bA oLt (aB 3) (aB 1)))) (iE (GC "list" dD (aB 2) (aA (aB 4) aF))) dI)
def kP(s0:OA):WS:=(aW (aAj 3 (bA MM (aB 0) (aB 4)) UH) (gL s0))
def oO(s0:OA):WS:=(aW (bS (aB 3) (gN 5)) (kP s0))
def rA(s0:OA):WS:=(dW (aG s0 (aA (aB 2) aF)))
def rB(s0:OA):WS:=(aW (jF (cY (aG vL (aA (aB 0) aF))) (gN 4) (oO s0)) (rA s0))
def rC(s0:OA):WS:=(aW (bS (wC (.int 0)) (gN 3)) (rB s0))
def mF(s0:OA):WS:=(aW (bS (nW aF) (gN 2)) (rC s0))
def gK(s0 s1 s2:OA):WS:=(iE (GC "list" dD (wL (aB 2) (aB 4) (nW aF)) (aA (dH (aA (aB 5) (aA (rE fK (wC (.int 1))) aF))) aF)))
def oK(s0 s1 s2:OA):WS:=(aW (iE (GC "list" dD (wL (aB 2) (aB 3) (nW aF)) (aA (dH (aA (aB 5) (aA (wC (.int 1)) aF))) aF))) (gK s0 s1 s2))
def oJ(s0 s1 s2:OA):WS:=(iE (aG s0 (aA (aB 7) (aA (aB 5) (aA (aB 10) aF)))))
def kN(s0 s1 s2:OA):WS:=(iE (GC "list" dD (aB 8) (aA (aG s1 (aA (aB 7) (aA (aB 1) aF))) aF)))
def jA(s0 s1 s2:OA):WS:=(aW (jF (cY (bA MM (aB 2) (aB 9))) (gT 2 (aH (gN 5) (aH (gN 10) cR))) (oJ s0 s1 s2)) (kN s0 s1 s2))
def qV(s0 s1 s2:OA):WS:=(dW (aG s2 (aA (wLZ 3 (aA (aB 6) (aA (wSl Z4 (aB 6) (rF (wC (.int 1))) U5) (aA (aB 8) aF)))) aF)))
def qW(s0 s1 s2:OA):WS:=(aW (jF (cY (aB 6)) (gN 9) (jA s0 s1 s2)) (qV s0 s1 s2))
def qX(s0 s1 s2:OA):WS:=(aW (bS (nW aF) (gN 8)) (qW s0 s1 s2))
def qY(s0 s1 s2:OA):WS:=(aW (bS (K6 false) (gN 7)) (qX s0 s1 s2))
def qZ(s0 s1 s2:OA):WS:=(aW (bS (aG vL (aA (aB 2) aF)) (gN 6)) (qY s0 s1 s2))
def q5(s0 s1 s2:OA):WS:=(aW (jF (cY (aB 0)) (gT 3 (aH (gN 3) (aH (gN 4) (aH (gN 5) cR)))) (oK s0 s1 s2)) (qZ s0 s1 s2))
def mE(s0 s1 s2:OA):WS:=(aW (bS (K6 false) (gN 2)) (q5 s0 s1 s2))
def jI:OA:=λds mh Q=>∃(n:Nat) (L:List Bd),ds=[.ref n]/\mh[n]? =some (.lst (L.map bD))/\L.length<=4000/\Q (gD (L.foldl bH [])) mh
theorem JF{mh:MH}{n:Nat}{L:List Bd}{Q:DK}(h:mh[n]? =some (.lst (L.map bD)))(hl:L.length<=4000)(q:Q (gD (L.foldl bH [])) mh):jI [.ref n] mh Q:=⟨n,L,rfl,h,hl,q⟩
theorem SW{mh mh' :MH}{E:eO}{n fa:Nat}{b:Bd}{f:List Bd}(px:cH mh mh')(hf:mh'[fa]? =some (.lst (f.map bD)))(hfa:mh.length<=fa)(hfl:f.length<=4000)
  (nx:∀a2 a3 a4 M,cH mh M->M[fa]? =some (.lst ((bH f b).map bD))->(∀k,k≠fa->M[k]? =mh'[k]?)->E.nx [some (.ref n),some (.ref fa),a2,a3,a4] M/\E.ct [some (.ref n),some (.ref fa),a2,a3,a4] M):
  kO E [some (.ref n),some (.ref fa),some (.int b.lo),some (.int b.hi),some (i9 b.ln)] mh' :=by
 have sz:=aH1;have keep:=oX hf;have hlb:=l7 b.ln;have nx1:=λa2 a3 a4=>nx a2 a3 a4 (mh'.set fa (.lst ((bH f b).map bD))) (px.set hfa _) (b9 _ hf) (λk hk=>by rw[List.getElem?_set_ne (Ne.symm hk)]);obtain⟨lo,hi,ln⟩:=b;simp only at hlb⊢;simp[kO,m4,i9,iO];rcases aH4 f with rfl | ⟨g,t,rfl⟩
 ·simp only[jM]at nx1;by_cases c:ln=[]
  ·subst c;simp at nx1⊢;simp at keep;rw[keep]at nx1;exact(nx1 _ _ _).2
  ·simp[c,hf]at nx1⊢;rw[eS hf];exact⟨by simp[vY,hf],by lia,by simp;lia,by simpa[bD,i9] using (nx1 _ _ _).1⟩
 ·rw[List.concat_eq_append]at*;have hix:nR ((g++[t]).map bD) (-1)=some (.tup [.int t.lo,.int t.hi,.tup (t.ln.map sD)]):=by rw[List.map_append];exact sO _ _
  simp only[iP]at nx1;by_cases c:ln=[]
  ·subst c;simp at nx1⊢;simp at keep;rw[keep]at nx1;exact(nx1 _ _ _).2
  ·have hb3:=l7 t.ln;simp[c,hf]at nx1⊢;rw[fH hf,hix];simp[mX,DN];by_cases c1:t.hi=lo
   ·simp[c1]at nx1⊢;rw[fH hf,hix];simp[mX,DN];refine⟨hb3.1,hlb.1,by lia,?_⟩;rw[AA];by_cases c2:t.ln=ln
    ·simp[c2]at nx1⊢;rw[fH hf,hix];simp[mX,DN];rw[t9 hf];simp only[List.length_map,List.length_append,List.length_cons,List.length_nil,Nat.zero_add,uT,bY];have:=(nx1 (some (.int lo)) (some (.int hi)) (some (.tup (ln.map sD)))).1;refine⟨by lia,?_⟩;simpa[bD,i9] using this
    ·simp[c2]at nx1⊢;rw[eS hf];refine⟨by simp[vY,hf],by lia,by simp at hfl⊢;lia,?_⟩;have:=(nx1 (some (.int lo)) (some (.int hi)) (some (.tup (ln.map sD)))).1;simpa[bD,i9] using this
   ·simp[c1]at nx1⊢;rw[eS hf];refine⟨by simp[vY,hf],by lia,by simp at hfl⊢;lia,?_⟩;have:=(nx1 (some (.int lo)) (some (.int hi)) (some (.tup (ln.map sD)))).1;simpa[bD,i9] using this
theorem N5(ds:List D)(mh:MH)(R:DK)(ok:kM mh)(hs:jI ds mh R):oN (En mh R) (aJ ["bands","kept","y0","y1","stretches"] ds) mh:=by
 obtain⟨n,L,rfl,hn,hl,q⟩:=hs;have sz:=aH1;have hnl:n<mh.length:=iQ hn;simp[oN,tE,aJ];rw[bB (bE hn)];simp only[bY];refine b8 (λi ρ mh' =>(∃a b c,ρ=[some (.ref n),some (.ref mh.length),a,b,c])/\cH mh mh' /\mh'[n]? =some (.lst (L.map bD))/\mh'[mh.length]? =some (.lst (((L.take i).foldl bH []).map bD))) _ ?_ ?_ ?_ ⟨⟨_,_,_,rfl⟩,⟨_,rfl⟩,bE hn,by simp⟩
 ·rintro i ρ mh' ⟨_,_,a1,_⟩;exact bB a1
 ·rintro i d ρ mh' N hi ⟨⟨a,b,c,rfl⟩,px3,a1,a3⟩ nx;obtain⟨p,hp,rfl⟩:=gE hi;have hil:i<L.length:=(aGc.mp hp).1;have hfl:=lX (L.take i) [];simp[bD];refine SW px3 a3 (aGi _) (by simp at hfl⊢;lia) λa2 a3' a4 M px4 g1 g2=>?_;have:N [some (.ref n),some (.ref mh.length),a2,a3',a4] M:=nx _ _ ⟨⟨_,_,_,rfl⟩,px4,by rw[g2 n (by lia)];exact a1,by rw[g1,take_snoc hp];simp⟩;exact⟨this,this⟩
 ·rintro ρ mh' ⟨⟨a,b,c,rfl⟩,px3,a1,a3⟩;simp at a3;simp[tD];rw[bB a3];exact px3.out ok (pG _ _) q
theorem y8:∀l:List Int,(aM [(lY l).map D.int,(uK l).map D.int]).map D.tup=(nG l).map sD
 | []=>rfl
 | [a]=>by simp[lY,uK,aM,nG]
 | a::b::r=>by
  have ih:=y8 r;simp only[aM]at ih⊢;simp only[lY,uK,List.map_cons,List.zipWith_cons_cons,nG,ih];rfl
theorem y9:∀l:List Int,(nG l).length<=l.length
 | []=>by simp[nG]
 | [a]=>by simp[nG]
 | a::b::r=>by have:=y9 r;simp only[nG,List.length_cons];lia
theorem xF{α β:Type}(f:α->β)(xs:List α)(lo hi st:Option Int):gS (xs.map f) lo hi st=(gS xs lo hi st).map f:=by
 unfold gS;rw[List.length_map,List.map_filterMap];congr 1;funext i;simp
def pC:OA:=λds mh Q=>∃(n:Nat) (l:List Int),ds=[.ref n]/\mh[n]? =some (.lst (l.map .int))/\l.length<=1000000/\Q (i9 (nG l)) mh
theorem N1(ds:List D)(mh:MH)(R:DK)(ok:kM mh)(hs:pC ds mh R):oM (En mh R) (aJ ["edges"] ds) mh:=by
 obtain⟨n,l,rfl,hn,hl,q⟩:=hs;have sz:=aH1;simp[oM,aJ];refine⟨l.map .int,EX hn,?_⟩;rw[xF,EI];refine⟨l.map .int,EX (bE hn),?_⟩;rw[xF,IJ];refine⟨[(lY l).map .int,(uK l).map .int],?_,?_,?_⟩
 ·simp[kB,bG]
 ·have:=aHk List.length (y8 l);have h2:=y9 l;simp only[List.length_map]at this
  lia
 ·rw[y8]
  have:cH mh (mh++[MO.lst ((lY l).map .int),MO.lst ((uK l).map .int)]):=⟨_,rfl⟩
  exact this.out ok (by simp[dN,pF]) q
structure kL(xs:List Int)(kvs:List (D×D))(δ:Int->Int):Prop where
 key:∀p∈kvs,∃x∈xs,p.1= .int x
 nd:(kvs.map (·.1)).Nodup
 val:∀x,bI kvs (.int x)=if δ x=0 then none else some (.int (δ x))
theorem i0{k:D}:∀{kvs:List (D×D)},bI kvs k=none↔∀p∈kvs,p.1≠k
 | []=>by simp[bI]
 | p::kvs=>by
  simp only[bI];by_cases h:p.1=k
  ·simp[h]
  ·simp[h,i0 (kvs:=kvs)]
theorem vQ(k:D)(kvs:List (D×D)):bI (c8 kvs k) k=none:=i0.mpr λp hp=>by
 have:=(aI5.mp hp).2;simpa using this
theorem rH{k j:D}(hj:j≠k):∀(kvs:List (D×D)),bI (c8 kvs k) j=bI kvs j
 | []=>rfl
 | p::kvs=>by
  have ih:=rH hj kvs;by_cases h:p.1=k
  ·have e:c8 (p::kvs) k=c8 kvs k:=by unfold c8;rw[List.filter_cons_of_neg (by simp[h])]
   have:¬p.1=j:=λz=>hj (by rw[<-z,h]);rw[e,ih];simp[bI,this]
  ·have e:c8 (p::kvs) k=p::c8 kvs k:=by unfold c8;rw[List.filter_cons_of_pos (by simp[h])]
   rw[e];simp only[bI,ih]
theorem zK:∀(l m:List Int),l.Nodup->(∀x∈l,x∈m)->l.length<=m.length
 | [],m,_,_=>by simp
 | a::l,m,nd,h=>by
  have c:=aI6.mp nd;have hm:=h a aGf;have:=zK l (m.erase a) c.2 λx hx=>(List.mem_erase_of_ne (λz:x=a=>c.1 (by rw[<-z];exact hx))).mpr (h x (aGg _ hx));rw[List.length_erase_of_mem hm]at this;have:=List.length_pos_of_mem hm;simp only[List.length_cons];lia
theorem kL.keys{xs:List Int}{kvs:List (D×D)}{δ:Int->Int}(h:kL xs kvs δ):∃is:List Int,kvs.map (·.1)=is.map D.int/\is.Nodup/\(∀x∈is,x∈xs)/\∀x,x∈is↔δ x≠0:=by
 obtain⟨is,e,hm⟩:∃is:List Int,kvs.map (·.1)=is.map D.int/\∀x∈is,x∈xs:=by
  have:=h.key;clear h
  induction kvs with
  | nil=>exact⟨[],rfl,by simp⟩
  | cons p kvs ih=>
   obtain⟨x,hx,e⟩:=this p aGf;obtain⟨is,e2,h2⟩:=ih λq hq=>this q (aGg _ hq)
   exact⟨x::is,by simp[e,e2],λy hy=>by
    rcases aGk.mp hy with z | z
    ·rw[z];exact hx
    ·exact h2 y z⟩
 have nd:is.Nodup:=by
  have:=h.nd;rw[e]at this;rw[List.nodup_iff_pairwise_ne]at this⊢;rw[List.pairwise_map]at this;exact this.imp λh z=>h (by rw[z])
 refine⟨is,e,nd,hm,λx=>?_⟩;have hv:=h.val x;constructor
 ·intro hx h0;rw[if_pos h0]at hv;have hx' :D.int x∈kvs.map (·.1):=by rw[e];exact aGy hx
  obtain⟨p,hp,ep⟩:=aGm.mp hx';exact i0.mp hv p hp ep
 ·intro h0;by_cases hx:x∈is
  ·exact hx
  ·exfalso;rw[if_neg h0]at hv
   have:bI kvs (.int x)=none:=i0.mpr λp hp z=>by
    have:D.int x∈is.map D.int:=by rw[<-e,<-z];exact aGy hp
    obtain⟨y,hy,ey⟩:=aGm.mp this;cases ey;exact hx hy
   rw[this]at hv;cases hv
theorem kL.len{xs:List Int}{kvs:List (D×D)}{δ:Int->Int}(h:kL xs kvs δ):kvs.length<=xs.length:=by
 obtain⟨is,e,nd,hm,_⟩:=h.keys;have:=zK is xs nd hm;have:=aHk List.length e;simp at this;lia
theorem xB{kvs:List (D×D)}(h:(kvs.map (·.1)).Nodup)(k v:D):((putD kvs k v).map (·.1)).Nodup:=by
 rw[IE];split
 ·exact h
 ·rename_i hk;rw[List.nodup_append];refine⟨h,by simp,λa ha b hb=>?_⟩;simp at hb;subst hb;obtain⟨p,hp,rfl⟩:=aGm.mp ha;exact λz=>hk ⟨p,hp,z⟩
theorem OO{kvs:List (D×D)}{k:D}{p:D×D}(h:p∈c8 kvs k):p∈kvs:=(aI5.mp h).1
theorem FK{kvs:List (D×D)}(h:(kvs.map (·.1)).Nodup)(k:D):((c8 kvs k).map (·.1)).Nodup:=(List.filter_sublist.map _).nodup h
noncomputable def stepK(kvs:List (D×D))(x v:Int):List (D×D):=if v=0 then c8 (putD kvs (.int x) (.int v)) (.int x) else putD kvs (.int x) (.int v)
theorem kL.step{xs:List Int}{kvs:List (D×D)}{δ:Int->Int}(h:kL xs kvs δ){x:Int}(hx:x∈xs)(m:Int):kL xs (stepK kvs x (δ x+m)) (λy=>δ y+if y=x then m else 0):=by
 have kp:∀p∈putD kvs (.int x) (.int (δ x+m)),∃y∈xs,p.1= .int y:=λp hp=>by
  rcases BN hp with z | z
  ·exact h.key p z
  ·exact⟨x,hx,z.1⟩
 have np:=xB h.nd (.int x) (.int (δ x+m))
 have vp:∀y,bI (putD kvs (.int x) (.int (δ x+m))) (.int y)=if y=x then some (.int (δ x+m)) else if δ y=0 then none else some (.int (δ y)):=λy=>by
  by_cases e:y=x
  ·subst e;simp[jG]
  ·rw[tJ _ _ (by simpa using e),h.val y];simp[e]
 unfold stepK;split
 ·rename_i h0;refine⟨λp hp=>kp p (OO hp),FK np _,λy=>?_⟩;by_cases e:y=x
  ·subst e;rw[vQ];simp[h0]
  ·rw[rH (by simpa using e),vp];simp[e]
 ·rename_i h0;refine⟨kp,np,λy=>?_⟩;rw[vp];by_cases e:y=x
  ·subst e;simp[h0]
  ·simp[e]
def nJ(ln:List P2)(x:Int):Int:=(ln.map λt=>(if t.1<=x then 1 else 0)-(if t.2<=x then (1:Int) else 0)).sum
theorem uQ(t:P2)(ln:List P2)(x:Int):nJ (t::ln) x=(if t.1<=x then 1 else 0)-(if t.2<=x then (1:Int) else 0)+nJ ln x:=by simp[nJ]
def D9:OA:=λds mh Q=>∃(n:Nat) (kvs:List (D×D)) (ln:List P2) (m:Int) (xs:List Int) (δ:Int->Int),ds=[.ref n,i9 ln,.int m]/\mh[n]? =some (.dic false kvs)/\kL xs kvs δ/\xs.length<4000/\ln.length<=1000000/\(∀t∈ln,t.1∈xs/\t.2∈xs)/\
 ∀kvs',kL xs kvs' (λx=>δ x+m*(nJ ln x-nJ ln (x-1)))->Q .b6 (mh.set n (.dic false kvs'))
theorem ZO{mh:MH}{n:Nat}{kvs:List (D×D)}{ln:List P2}{m:Int}{xs:List Int}{δ:Int->Int}{Q:DK}(h1:mh[n]? =some (.dic false kvs))(h2:kL xs kvs δ)(h3:xs.length<4000)(h4:ln.length<=1000000)(h5:∀t∈ln,t.1∈xs/\t.2∈xs)
  (q:∀kvs',kL xs kvs' (λx=>δ x+m*(nJ ln x-nJ ln (x-1)))->Q .b6 (mh.set n (.dic false kvs'))):D9 [.ref n,i9 ln,.int m] mh Q:=⟨n,kvs,ln,m,xs,δ,rfl,h1,h2,h3,h4,h5,q⟩
theorem N7{E:eO}{mh:MH}{n:Nat}{kvs:List (D×D)}{xs:List Int}{δ:Int->Int}{x m:Int}{a1 a2 a3 a4:Option D}(h1:mh[n]? =some (.dic false kvs))(h2:kL xs kvs δ)(h3:xs.length<4000)(hx:x∈xs)
  (q:∀kvs',kL xs kvs' (λy=>δ y+if y=x then m else 0)->E.nx [some (.ref n),a1,a2,a3,a4,some (.int x),some (.int m)] (mh.set n (.dic false kvs'))):
  gM E [some (.ref n),a1,a2,a3,a4,some (.int x),some (.int m)] mh:=by
 have sz:=aH1;have hl:=h2.len;simp[gM];refine⟨⟨_,h1⟩,kvs,h1,⟨.inl x,rfl⟩,?_⟩
 have ev:(bI kvs (.int x)).getD (.int 0)= .int (δ x):=by
  rw[h2.val x];by_cases h0:δ x=0
  ·simp[h0]
  ·simp[h0]
 rw[ev];simp;refine⟨n,kvs,.inl x,rfl,h1,rfl,by lia,?_⟩;have g1:=b9 (.dic false (putD kvs (.int x) (.int (δ x+m)))) h1;simp[iX];refine⟨n,_,.inl x,_,rfl,g1,rfl,jG _ _ _,?_⟩;simp;have st:=h2.step hx m;by_cases h0:δ x+m=0
 ·simp[h0];rw[h0]at g1;refine⟨_,g1,⟨.inl x,rfl⟩,by rw[jG];rfl,?_⟩;unfold stepK at st;rw[if_pos h0,h0]at st;exact q _ st
 ·simp[h0];unfold stepK at st;rw[if_neg h0]at st;exact q _ st
theorem aCo(ds:List D)(mh:MH)(R:DK)(ok:kM mh)(hs:D9 ds mh R):hX (En mh R) (aJ ["steps","stretches","more","x0","x1","x","change"] ds) mh:=by
 obtain⟨n,kvs,ln,m,xs,δ,rfl,h1,h2,h3,h4,h5,q⟩:=hs;have sz:=aH1;simp[hX,aJ,i9];refine b8 (λi ρ mh' =>(∃a b c d,ρ=[some (.ref n),some (.tup (ln.map sD)),some (.int m),a,b,c,d])/\∃kvs',mh' =mh.set n (.dic false kvs')/\kL xs kvs' (λx=>δ x+m*(nJ (ln.take i) x-nJ (ln.take i) (x-1)))) _ ?_ ?_ ?_ ⟨⟨_,_,_,_,rfl⟩,kvs,(oX h1).symm,by simpa[nJ] using h2⟩
 ·intros;rfl
 ·rintro i d ρ mh' N hi ⟨⟨a,b,c,d',rfl⟩,kvs',rfl,st⟩ nx;obtain⟨t,ht,rfl⟩:=gE hi;have htm:=h5 t (aGo ht);simp[sD,kR];refine⟨by lia,?_⟩;show kH _ _ _ _ _ _ _;have g1:(mh.set n (.dic false kvs'))[n]? =some (.dic false kvs'):=b9 _ h1;simp only[kH];refine⟨rfl,?_⟩;simp;refine N7 g1 st h3 htm.1 λkvs2 st2=>?_;refine⟨rfl,?_⟩;simp;refine N7 (b9 _ h1) st2 h3 htm.2 λkvs3 st3=>?_;refine⟨rfl,?_⟩;simp;refine nx _ _ ⟨⟨_,_,_,_,rfl⟩,kvs3,rfl,?_⟩;rw[take_snoc ht]
  have e:(λx=>δ x+m*(nJ (ln.take i++[t]) x-nJ (ln.take i++[t]) (x-1)))=λy=>δ y+m*(nJ (ln.take i) y-nJ (ln.take i) (y-1))+(if y=t.1 then m else 0)+if y=t.2 then -m else 0:=by
   funext y;have e2:∀y,nJ (ln.take i++[t]) y=nJ (ln.take i) y+((if t.1<=y then 1 else 0)-(if t.2<=y then (1:Int) else 0)):=λy=>by simp[nJ]
   rw[e2,e2]
   have e3:∀z:Int,(if z<=y then 1 else 0)-(if z<=y-1 then (1:Int) else 0)=if y=z then 1 else 0:=λz=>by
    by_cases c1:z<=y-1
    ·simp[c1,show z<=y by lia,show ¬y=z by lia]
    ·by_cases c2:z<=y
     ·rw[if_pos c2,if_neg c1,if_pos (by lia)];rfl
     ·simp[c1,c2,show ¬y=z by lia]
   have a1:=e3 t.1;have a2:=e3 t.2;have:nJ (ln.take i) y+((if t.1<=y then 1 else 0)-(if t.2<=y then (1:Int) else 0))-(nJ (ln.take i) (y-1)+((if t.1<=y-1 then 1 else 0)-(if t.2<=y-1 then (1:Int) else 0)))=nJ (ln.take i) y-nJ (ln.take i) (y-1)+(if y=t.1 then 1 else 0)-(if y=t.2 then 1 else 0):=by lia
   rw[this,Int.mul_sub,Int.mul_add]
   have m1:m*(if y=t.1 then (1:Int) else 0)=if y=t.1 then m else 0:=by split <;> simp
   have m2:m*(if y=t.2 then (1:Int) else 0)=if y=t.2 then m else 0:=by split <;> simp
   rw[m1,m2];split <;> split <;> lia
  rw[e];exact st3
 ·rintro ρ mh' ⟨⟨a,b,c,d',rfl⟩,kvs',rfl,st⟩;simp only[List.length_map,List.take_length]at st;exact cJ (q kvs' st)
def uB:OA:=λds mh Q=>∃(n:Nat) (kvs:List (D×D)) (xs:List Int) (c:Int->Int),ds=[.ref n,.int 1]/\mh[n]? =some (.dic false kvs)/\kL xs kvs (λx=>c x-c (x-1))/\xs.length<4000/\(∃m,∀y,y<=m->c y=0)/\(∃m,∀y,m<=y->c y<1)/\
 ∀f:List P2,Sep f->(∀x,f7 f x↔1<=c x)->(∀t∈f,t.1∈xs/\t.2∈xs)->f.length<=xs.length->Q (i9 f) mh
theorem S5{mh:MH}{n:Nat}{kvs:List (D×D)}{xs:List Int}{c:Int->Int}{Q:DK}(h1:mh[n]? =some (.dic false kvs))(h2:kL xs kvs (λx=>c x-c (x-1)))(h3:xs.length<4000)(h4:∃m,∀y,y<=m->c y=0)(h5:∃m,∀y,m<=y->c y<1)
  (q:∀f:List P2,Sep f->(∀x,f7 f x↔1<=c x)->(∀t∈f,t.1∈xs/\t.2∈xs)->f.length<=xs.length->Q (i9 f) mh):uB [.ref n,.int 1] mh Q:=⟨n,kvs,xs,c,rfl,h1,h2,h3,h4,h5,q⟩
theorem C0(v:Int->Int):∀(l:List Int) (x a:Int),pX v (l++[x]) a=pX v l a++(if decide (a+(l.map v).sum<1)=decide (a+(l.map v).sum+v x<1) then [] else [x])
 | [],x,a=>by simp[pX]
 | y::l,x,a=>by
  have ih:=C0 v l x (a+v y);have e:a+v y+(l.map v).sum=a+((y::l).map v).sum:=by simp;lia
  rw[e]at ih;simp only[List.cons_append,pX];split
  ·exact ih
  ·rw[ih];rfl
theorem AD(v:Int->Int):∀(l:List Int) (a:Int),(pX v l a).length<=l.length
 | [],a=>by simp[pX]
 | x::l,a=>by
  have:=AD v l (a+v x);simp only[pX];split <;> simp <;> lia
theorem Q0:∀(l:List Int) (t:P2),t∈nG l->t.1∈l/\t.2∈l:=by
 intro l
 induction l using nG.induct with
 | case1 a b r ih=>
  intro t ht;simp only[nG,List.mem_cons]at ht;rcases ht with rfl | ht
  ·simp
  ·have:=ih t ht;simp[this.1,this.2]
 | case2 l hl=>
  intro t ht
  cases l with
  | nil=>simp[nG]at ht
  | cons a l=>cases l with
   | nil=>simp[nG]at ht
   | cons b l=>exact absurd rfl (hl a b l)
theorem XE(a b:Int):lx (enc (.int b)) (enc (.int a))=false↔a<=b:=by
 simp only[enc,jP,lx];by_cases hb:b<a
 ·simp[hb]
 ·by_cases ha:a<b
  ·simp[hb,ha];lia
  ·have:a=b:=by lia
   subst this;simp
theorem xG{fs:List D}{is:List Int}(p:fs.Perm (is.map D.int))(s:fs.Pairwise (λd e=>lx (enc e) (enc d)=false))(nd:is.Nodup):∃js:List Int,fs=js.map D.int/\js.Perm is/\js.Pairwise (· < ·):=by
 obtain⟨js,p1,rfl⟩:=lN D.int p is rfl;refine⟨js,rfl,p1,?_⟩;rw[List.pairwise_map]at s;have nj:=p1.symm.nodup nd;rw[List.nodup_iff_pairwise_ne]at nj
 exact(s.and nj).imp λ{a b} h=>by
  have:=(XE a b).mp h.1;have:=h.2
  lia
theorem YU(ds:List D)(mh:MH)(R:DK)(ok:kM mh)(hs:uB ds mh R):mF pC (En mh R) (aJ ["steps","least","edges","deep","x","ahead"] ds) mh:=by
 obtain⟨n,kvs,xs,c,rfl,h1,h2,h3,⟨m0,hm0⟩,hm1,q⟩:=hs;have sz:=aH1;have hnl:=iQ h1;obtain⟨is,ek,nd,hsub,hmem⟩:=h2.keys;have hlen:=zK is xs nd hsub;simp[mF,rC,rB,aJ];refine⟨n,false,kvs,rfl,bE h1,?_,?_,λfs p s=>?_⟩
 ·have:=h2.len;lia
 ·rw[ek];exact tM _
 rw[ek]at p;obtain⟨js,rfl,pj,srt⟩:=xG p s nd;have hjl:=pj.length_eq;have g1:(mh++[MO.lst []]++[.lst (js.map .int)])[n]? =some (.dic false kvs):=bE (bE h1);have g2:(mh++[MO.lst []]++[.lst (js.map .int)])[mh.length]? =some (.lst []):=bE (eR _ _);have g3:(mh++[MO.lst []]++[.lst (js.map .int)])[mh.length+1]? =some (.lst (js.map .int)):=by simp
 have px:cH mh (mh++[MO.lst []]++[.lst (js.map .int)]):=(cH.refl.push _).push _;have e3:(mh++[MO.lst ([]:List D)]).length=mh.length+1:=by simp
 rw[e3];generalize mh++[MO.lst []]++[.lst (js.map .int)]=M at g1 g2 g3 px⊢;rw[bB g3];simp only[bY];generalize hv:(λx=>c x-c (x-1))=v at h2 hmem;have hv' :∀x,v x=c x-c (x-1):=λx=>by rw[<-hv]
 refine b8 (λi ρ M' =>(∃a b,ρ=[some (.ref n),some (.int 1),some (.ref mh.length),some (.int (((js.take i).map v).sum)),a,b])/\cH mh M' /\M'[n]? =some (.dic false kvs)/\M'[mh.length+1]? =some (.lst (js.map .int))/\M'[mh.length]? =some (.lst ((pX v (js.take i) 0).map .int))) _ ?_ ?_ ?_ ⟨⟨_,_,rfl⟩,px,g1,g3,by simpa[pX] using g2⟩
 ·rintro i ρ M' ⟨_,_,_,a3,_⟩;exact bB a3
 ·rintro i d ρ M' N hi ⟨⟨a,b,rfl⟩,px2,a1,a2,a3⟩ nx;obtain⟨x,hx,rfl⟩:=gE hi;have hil:i<js.length:=(aGc.mp hx).1;have hxm:v x≠0:=by rw[hv'];exact(hmem x).mp (pj.mem_iff.mp (aGo hx))
  have hval:bI kvs (.int x)=some (.int (v x)):=by rw[h2.val x,if_neg hxm]
  have el:=AD v (js.take i) 0;have es:=C0 v (js.take i) x 0;rw[<-take_snoc hx]at es;have esum:((js.take (i+1)).map v).sum=((js.take i).map v).sum+v x:=by rw[take_snoc hx];simp
  simp only[Int.zero_add]at es;generalize ((js.take i).map v).sum=a0 at es esum⊢;simp[oO,kP];refine⟨.int a0,rfl,?_⟩;simp;refine⟨n,kvs,.inl x,_,rfl,a1,rfl,hval,?_⟩;show gL pC _ [some (.ref n),some (.int 1),some (.ref mh.length),some (.int (a0+v x)),some (.int x),some (.int a0)] M';simp[gL];by_cases cc:decide (a0<1)=decide (a0+v x<1)
  ·rw[if_pos cc,List.append_nil]at es;have:∀a b,N [some (.ref n),some (.int 1),some (.ref mh.length),some (.int (a0+v x)),a,b] M' :=λa b=>nx _ _ ⟨⟨_,_,by rw[esum]⟩,px2,a1,a2,by rw[es];exact a3⟩;rw[if_pos (decide_eq_decide.mp cc)];exact this _ _
  ·rw[if_neg cc]at es;rw[if_neg (λh=>cc (decide_eq_decide.mpr h))];rw[eS a3];have hlt:=iQ a3;refine⟨⟨rfl,_,a3⟩,by simp at el⊢;lia,nx _ _ ⟨⟨_,_,by rw[esum]⟩,px2.set (aGi _) _,get_set a1 (by lia),get_set a2 (by lia),?_⟩⟩;rw[b9 _ a3,es];simp
 ·rintro ρ M' ⟨⟨a,b,rfl⟩,px2,a1,a2,a3⟩;simp at a3;simp[rA];have el:=AD v js 0;refine⟨mh.length,pX v js 0,rfl,a3,by lia,?_⟩;have hsub2:∀x∈js,x∈xs:=λx hx=>hsub x (pj.mem_iff.mp hx)
  obtain⟨lo,l1,l2⟩:∃lo,lo<=m0/\∀k∈js,lo<k:=by
   have:∀(js:List Int),∃lo,lo<=m0/\∀k∈js,lo<k:=by
    intro js
    induction js with
    | nil=>exact⟨m0,aHv _,by simp⟩
    | cons j js ih=>
     obtain⟨lo,a1,a2⟩:=ih
     exact⟨min lo (j-1),by lia,λk hk=>by
      rcases aGk.mp hk with z | z
      ·lia
      ·have:=a2 k z;lia⟩
   exact this js
  have e0:c lo=0:=hm0 lo l1
  have ok1:=(ON (c:=c) (v:=v) js lo srt l2 (λk _=>hv' k) (λy _ hy=>by
   have:¬v y≠0:=λh=>hy (pj.mem_iff.mpr ((hmem y).mpr (by rw[<-hv'];exact h)));rw[hv']at this
   lia) hm1).1 (by lia)
  rw[e0]at ok1;obtain⟨b1,b2,b3⟩:=ok1;have bl:=y9 (pX v js 0);refine px2.out ok (by simp[i9,dN,pF]) (q _ b1 (λx=>?_) (λt ht=>?_) (by lia))
  ·by_cases hx:lo<=x
   ·exact b3 x hx
   ·rw[hm0 x (by lia)];refine⟨λ⟨t,ht,z⟩=>?_,λz=>by lia⟩;have:=l2 t.1 (b2 t ht);lia
  ·have:=Q0 _ t ht;exact⟨hsub2 _ (pW this.1),hsub2 _ (pW this.2)⟩
structure Ev where
 y:Int
 ln:List P2
 m:Int
def CW(B:List Bd):List Ev:=B.flatMap λb=>[⟨b.lo,b.ln,1⟩,⟨b.hi,b.ln,-1⟩]
def cnt(E:List Ev)(x:Int):Int:=(E.map λe=>e.m*nJ e.ln x).sum
theorem AL(E F:List Ev)(x:Int):cnt (E++F) x=cnt E x+cnt F x:=by simp[cnt]
theorem cnt_cons(e:Ev)(E:List Ev)(x:Int):cnt (e::E) x=e.m*nJ e.ln x+cnt E x:=by simp[cnt]
theorem CV(b:Bd)(B:List Bd):CW (b::B)=⟨b.lo,b.ln,1⟩::⟨b.hi,b.ln,-1⟩::CW B:=rfl
theorem G0:∀ln:List P2,∃m,∀y,y<=m->nJ ln y=0
 | []=>⟨0,λy _=>rfl⟩
 | t::ln=>by
  obtain⟨m,hm⟩:=G0 ln;refine⟨min m (min (t.1-1) (t.2-1)),λy hy=>?_⟩;rw[uQ,hm y (by lia),if_neg (by lia),if_neg (by lia)];rfl
theorem B6:∀ln:List P2,∃m,∀y,m<=y->nJ ln y=0
 | []=>⟨0,λy _=>rfl⟩
 | t::ln=>by
  obtain⟨m,hm⟩:=B6 ln;refine⟨max m (max t.1 t.2),λy hy=>?_⟩;rw[uQ,hm y (by lia),if_pos (by lia),if_pos (by lia)];rfl
theorem HH:∀E:List Ev,∃m,∀y,y<=m->cnt E y=0
 | []=>⟨0,λy _=>rfl⟩
 | e::E=>by
  obtain⟨m,hm⟩:=HH E;obtain⟨k,hk⟩:=G0 e.ln;exact⟨min m k,λy hy=>by rw[cnt_cons,hm y (by lia),hk y (by lia)];simp⟩
theorem OX:∀E:List Ev,∃m,∀y,m<=y->cnt E y<1
 | E=>by
  have:∀E:List Ev,∃m,∀y,m<=y->cnt E y=0:=by
   intro E
   induction E with
   | nil=>exact⟨0,λy _=>rfl⟩
   | cons e E ih=>
    obtain⟨m,hm⟩:=ih;obtain⟨k,hk⟩:=B6 e.ln;exact⟨max m k,λy hy=>by rw[cnt_cons,hm y (by lia),hk y (by lia)];simp⟩
  obtain⟨m,hm⟩:=this E;exact⟨m,λy hy=>by rw[hm y hy];lia⟩
theorem G1:∀{ln:List P2},(∀t∈ln,t.1<t.2)->∀x,0<=nJ ln x/\(1<=nJ ln x↔f7 ln x)
 | [],_,x=>⟨by simp[nJ],by simp[nJ,f7]⟩
 | t::ln,h,x=>by
  obtain⟨i1,i2⟩:=G1 (ln:=ln) (λu hu=>h u (aGg _ hu)) x;have ht:=h t aGf;rw[uQ,bL,<-i2];by_cases c1:t.1<=x
  ·by_cases c2:t.2<=x
   ·rw[if_pos c1,if_pos c2];exact⟨by lia,⟨λz=>.inr (by lia),λz=>z.elim (λz=>by lia) λz=>by lia⟩⟩
   ·rw[if_pos c1,if_neg c2];exact⟨by lia,⟨λz=>.inl ⟨c1,by lia⟩,λz=>by lia⟩⟩
  ·rw[if_neg c1,if_neg (by lia)];exact⟨by lia,⟨λz=>.inr (by lia),λz=>z.elim (λz=>absurd z.1 c1) λz=>by lia⟩⟩
theorem UT(c x:Int):∀{B:List Bd},(∀b∈B,b.lo<b.hi/\∀t∈b.ln,t.1<t.2)->0<=cnt ((CW B).filter λe=>decide (e.y<=c)) x/\(1<=cnt ((CW B).filter λe=>decide (e.y<=c)) x↔cB B x c)
 | [],_=>⟨by simp[CW,cnt],by simp[CW,cnt,cB]⟩
 | b::B,h=>by
  obtain⟨i1,i2⟩:=UT c x (B:=B) λd hd=>h d (aGg _ hd);obtain⟨hb,ht⟩:=h b aGf;obtain⟨l1,l2⟩:=G1 ht x;rw[CV,bV,<-i2,<-l2];by_cases c1:b.lo<=c
  ·rw[List.filter_cons_of_pos (by simpa using c1)];by_cases c2:b.hi<=c
   ·rw[List.filter_cons_of_pos (by simpa using c2),cnt_cons,cnt_cons];simp only;exact⟨by lia,⟨λz=>.inr (by lia),λz=>z.elim (λz=>by lia) λz=>by lia⟩⟩
   ·rw[List.filter_cons_of_neg (by simpa using c2),cnt_cons];simp only;refine⟨by lia,⟨λz=>?_,λz=>?_⟩⟩
    ·by_cases q:1<=nJ b.ln x
     ·exact .inl ⟨c1,by lia,q⟩
     ·exact .inr (by lia)
    ·rcases z with z | z <;> lia
  ·rw[List.filter_cons_of_neg (by simpa using c1),List.filter_cons_of_neg (by simp;lia)];exact⟨i1,⟨.inr,λz=>z.elim (λz=>absurd z.1 c1) id⟩⟩
theorem x9{E:List Ev}{l:List Int}{c:Int}(hc:c∉l)(x:Int):cnt (E.filter λe=>decide (e.y∈l++[c])) x=cnt (E.filter λe=>decide (e.y∈l)) x+cnt (E.filter λe=>decide (e.y=c)) x:=by
 induction E with
 | nil=>simp[cnt]
 | cons e E ih=>
  by_cases h1:e.y=c
  ·have h2:e.y∉l:=by rw[h1];exact hc
   rw[List.filter_cons_of_pos (by simp[h1]),List.filter_cons_of_neg (by simpa using h2),List.filter_cons_of_pos (by simpa using h1),cnt_cons,cnt_cons,ih];lia
  ·by_cases h2:e.y∈l
   ·rw[List.filter_cons_of_pos (by simp[h2]),List.filter_cons_of_pos (by simpa using h2),List.filter_cons_of_neg (by simpa using h1),cnt_cons,cnt_cons,ih];lia
   ·rw[List.filter_cons_of_neg (by simp[h1,h2]),List.filter_cons_of_neg (by simpa using h2),List.filter_cons_of_neg (by simpa using h1),ih]
theorem P0{js:List Int}(hs:js.Pairwise (· < ·)){j:Nat}{c y:Int}(hj:js[j]? =some c)(hy:y∈js):y∈js.take (j+1)↔y<=c:=by
 obtain⟨k,hk⟩:=aGt.mp hy;obtain⟨hkl,ek⟩:=aGc.mp hk;obtain⟨hjl,ej⟩:=aGc.mp hj;have pw:=aHa.mp hs;constructor
 ·intro h;obtain⟨i,hi⟩:=aGt.mp h;have hil:i<j+1:=by have:=(aGc.mp hi).1;rw[List.length_take]at this;lia
  rw[List.getElem?_take_of_lt hil]at hi;obtain⟨hil2,ei⟩:=aGc.mp hi;by_cases e:i=j
  ·subst e;lia
  ·have:=pw i j hil2 hjl (by lia);lia
 ·intro h
  have hkj:k<=j:=by
   refine aIl λhlt=>?_;have:=pw j k hjl hkl hlt;lia
  exact aGt.mpr ⟨k,by rw[List.getElem?_take_of_lt (by lia)];exact hk⟩
def PC(js:List Int)(rows:List (List P2)):List Bd:=List.zipWith (λp f=>⟨p.1,p.2,f⟩) (js.zip js.tail) rows
theorem sN{js:List Int}{rows:List (List P2)}{j:Nat}{b:Bd}(h:(PC js rows)[j]? =some b):js[j]? =some b.lo/\js[j+1]? =some b.hi/\rows[j]? =some b.ln:=by
 unfold PC at h;rw[List.getElem?_zipWith]at h
 cases h1:(js.zip js.tail)[j]? with
 | none=>simp[h1]at h
 | some p=>
  cases h2:rows[j]? with
  | none=>simp[h1,h2]at h
  | some f=>
   simp[h1,h2]at h;subst h;obtain⟨a1,a2⟩:=aJ2.mp h1;rw[List.getElem?_tail]at a2;exact⟨a1,a2,rfl⟩
theorem XC{js:List Int}{rows:List (List P2)}{j:Nat}{a b:Int}{f:List P2}(h1:js[j]? =some a)(h2:js[j+1]? =some b)(h3:rows[j]? =some f):(PC js rows)[j]? =some ⟨a,b,f⟩:=by
 unfold PC;rw[List.getElem?_zipWith];have:(js.zip js.tail)[j]? =some (a,b):=aJ2.mpr ⟨h1,by rw[List.getElem?_tail];exact h2⟩;simp[this,h3]
theorem XB{B:List Bd}{js:List Int}{rows:List (List P2)}(hB:∀b∈B,b.lo<b.hi/\∀t∈b.ln,t.1<t.2)(hs:js.Pairwise (· < ·))(hm:∀y,y∈js↔∃e∈CW B,e.y=y)(hl:rows.length=js.length)
  (hr:∀(j:Nat) f,rows[j]? =some f->Sep f/\∀x,f7 f x↔1<=cnt ((CW B).filter λe=>decide (e.y∈js.take (j+1))) x):
  qU ((PC js rows).foldl bH [])/\∀x y,cB ((PC js rows).foldl bH []) x y↔cB B x y:=by
 have pw:=aHa.mp hs
 have mB:∀b∈B,b.lo∈js/\b.hi∈js:=λb hb=>by
  refine⟨(hm _).mpr ⟨⟨b.lo,b.ln,1⟩,?_,rfl⟩,(hm _).mpr ⟨⟨b.hi,b.ln,-1⟩,?_,rfl⟩⟩ <;> exact aIm.mpr ⟨b,hb,by simp⟩
 have rowc:∀(j:Nat) c f x,js[j]? =some c->rows[j]? =some f->(f7 f x↔cB B x c):=λj c f x h1 h2=>by
  rw[(hr j f h2).2 x,<-(UT c x hB).2]
  have:((CW B).filter λe=>decide (e.y∈js.take (j+1)))=(CW B).filter λe=>decide (e.y<=c):=by
   refine List.filter_congr λe he=>?_;rw[decide_eq_decide];exact P0 hs h1 ((hm _).mpr ⟨e,he,rfl⟩)
  rw[this]
 have o:=nM (PC js rows) [] (λb hb=>?_) ?_ ⟨by simp,by simp,by simp,by simp,λu a b v e=>by simp at e⟩ (by simp);refine⟨o.1,λx y=>?_⟩;rw[o.2 x y];constructor
 ·rintro(⟨b,hb,_⟩ | ⟨d,hd,h1,h2,h3⟩)
  ·cases hb
  ·obtain⟨j,hj⟩:=aGt.mp hd;obtain⟨a1,a2,a3⟩:=sN hj;obtain⟨b,hb,b1,b2,b3⟩:=(rowc j d.lo d.ln x a1 a3).mp h3;refine⟨b,hb,by lia,?_,b3⟩;obtain⟨k,hk⟩:=aGt.mp (mB b hb).2;obtain⟨hkl,ek⟩:=aGc.mp hk;obtain⟨hjl,ej⟩:=aGc.mp a1;obtain⟨hjl2,ej2⟩:=aGc.mp a2
   have hjk:j<k:=by
    refine aKa λhle=>?_;by_cases e:k=j
    ·subst e;lia
    ·have:=pw k j hkl hjl (by lia);lia
   by_cases e:k=j+1
   ·subst e;lia
   ·have:=pw (j+1) k hjl2 hkl (by lia);lia
 ·rintro⟨b,hb,h1,h2,h3⟩;right;obtain⟨p,hp,q1,q2,q3,q4⟩:=between hs (mB b hb).1 (mB b hb).2 h1 h2;obtain⟨j,hj⟩:=aGt.mp hp;obtain⟨a1,a2⟩:=aJ2.mp hj;rw[List.getElem?_tail]at a2;have hjl:=(aGc.mp a1).1;have hrj:rows[j]? =some (rows[j]'(by lia)):=aGp _;generalize rows[j]'(by lia)=f at hrj;refine⟨⟨p.1,p.2,f⟩,aGo (XC a1 a2 hrj),q1,q2,?_⟩;exact(rowc j p.1 f x a1 hrj).mpr ⟨b,hb,q3,by lia,h3⟩
 ·obtain⟨j,hj⟩:=aGt.mp hb;obtain⟨a1,a2,a3⟩:=sN hj;obtain⟨hjl,ej⟩:=aGc.mp a1;obtain⟨hjl2,ej2⟩:=aGc.mp a2;have:=pw j (j+1) hjl hjl2 (by lia);exact⟨by lia,(hr j b.ln a3).1⟩
 ·refine aHa.mpr λi j hi hj hij=>?_;obtain⟨a1,a2,a3⟩:=sN (aGp hi);obtain⟨b1,b2,b3⟩:=sN (aGp hj);obtain⟨x1,e1⟩:=aGc.mp a2;obtain⟨x2,e2⟩:=aGc.mp b1;by_cases e:i+1=j
  ·subst e;lia
  ·have:=pw (i+1) j x1 x2 (by lia);lia
theorem RL(js:List Int)(rows:List (List P2)):(PC js rows).length<=js.length:=by
 unfold PC;rw[List.length_zipWith,List.length_zip];lia
theorem GX:∀(js:List Int) (rows:List (List P2)),(aM [js.map D.int,js.tail.map D.int,rows.map i9]).map D.tup=(PC js rows).map bD:=by
 intro js rows;have e:aM [js.map D.int,js.tail.map D.int,rows.map i9]=List.zipWith List.cons (js.map D.int) (List.zipWith List.cons (js.tail.map D.int) ((rows.map i9).map λx=>[x])):=rfl;rw[e]
 have go:∀(a b:List Int) (rows:List (List P2)),(List.zipWith List.cons (a.map D.int) (List.zipWith List.cons (b.map D.int) ((rows.map i9).map λx=>[x]))).map D.tup=(List.zipWith (λ(p:Int×Int) f=>(⟨p.1,p.2,f⟩:Bd)) (a.zip b) rows).map bD:=by
  intro a
  induction a with
  | nil=>intro b rows;simp
  | cons x a ih=>
   intro b rows
   cases b with
   | nil=>simp
   | cons y b=>
    cases rows with
    | nil=>simp
    | cons f rows=>
     simp only[List.map_cons,List.zipWith_cons_cons,List.zip_cons_cons];rw[ih b rows];rfl
 exact go js js.tail rows
def Z8(e:Ev):D:= .tup [i9 e.ln,.int e.m]
structure wJ(dn top:Nat)(ys:List Int)(E:List Ev)(kvs:List (D×D))(M:MH):Prop where
 at_:M[dn]? =some (.dic false kvs)
 key:∀p∈kvs,∃y∈ys,p.1= .int y
 nd:(kvs.map (·.1)).Nodup
 b6:∀y,bI kvs (.int y)=none->∀e∈E,e.y≠y
 VO:∀y d,bI kvs (.int y)=some d->∃m,d= .ref m/\dn<m/\m<top/\M[m]? =some (.lst ((E.filter λe=>decide (e.y=y)).map Z8))/\∃e∈E,e.y=y
 inj:∀y y' m,bI kvs (.int y)=some (.ref m)->bI kvs (.int y')=some (.ref m)->y=y'
theorem wJ.len{dn top:Nat}{ys:List Int}{E:List Ev}{kvs:List (D×D)}{M:MH}(h:wJ dn top ys E kvs M):∃is:List Int,kvs.map (·.1)=is.map D.int/\is.Nodup/\is.length<=ys.length/\kvs.length<=ys.length/\∀y,y∈is↔∃e∈E,e.y=y:=by
 obtain⟨is,e,hm⟩:∃is:List Int,kvs.map (·.1)=is.map D.int/\∀x∈is,x∈ys:=by
  have:=h.key;clear h
  induction kvs with
  | nil=>exact⟨[],rfl,by simp⟩
  | cons p kvs ih=>
   obtain⟨x,hx,e⟩:=this p aGf;obtain⟨is,e2,h2⟩:=ih λq hq=>this q (aGg _ hq)
   exact⟨x::is,by simp[e,e2],λy hy=>by
    rcases aGk.mp hy with z | z
    ·rw[z];exact hx
    ·exact h2 y z⟩
 have nd:is.Nodup:=by
  have:=h.nd;rw[e]at this;rw[List.nodup_iff_pairwise_ne]at this⊢;rw[List.pairwise_map]at this;exact this.imp λh z=>h (by rw[z])
 have hl:=zK is ys nd hm;have hk:kvs.length=is.length:=by have:=aHk List.length e;simpa using this
 refine⟨is,e,nd,hl,by lia,λy=>⟨λhy=>?_,λ⟨ev,he,hy⟩=>?_⟩⟩
 ·cases hv:bI kvs (.int y) with
  | none=>
   have hx' :D.int y∈kvs.map (·.1):=by rw[e];exact aGy hy
   obtain⟨p,hp,ep⟩:=aGm.mp hx';exact absurd ep (i0.mp hv p hp)
  | some d=>obtain⟨m,_,_,_,_,h⟩:=h.VO y d hv;exact h
 ·by_cases hx:y∈is
  ·exact hx
  ·exfalso
   have:bI kvs (.int y)=none:=i0.mpr λp hp z=>by
    have:D.int y∈is.map D.int:=by rw[<-e,<-z];exact aGy hp
    obtain⟨w,hw,ew⟩:=aGm.mp this;cases ew;exact hx hw
   exact h.b6 y this ev he hy
theorem qN(E:List Ev)(e:Ev)(y:Int):(E++[e]).filter (λe=>decide (e.y=y))=E.filter (λe=>decide (e.y=y))++if e.y=y then [e] else []:=by
 rw[List.filter_append];congr 1;by_cases h:e.y=y <;> simp[h]
theorem N0{mh M:MH}{E' :eO}{ys:List Int}{E:List Ev}{kvs:List (D×D)}{y m:Int}{ln:List P2}{i:Nat}{ρ:d7}{wm:WE}(px:cH mh M)(C:wJ mh.length M.length ys E kvs M)(hy:y∈ys)(hyl:ys.length<4000)(hE:E.length<=1000000)
  (r2:ρ[2]? =some (some (.ref mh.length))) (ri:ρ[i]? =some (some (.int y))) (r5:ρ[5]? =some (some (i9 ln))) (hwm:∀(mh:MH) (Q:DK),Q (.int m) mh->wm ρ mh Q)
  (nx:∀M' kvs',cH mh M' ->wJ mh.length M'.length ys (E++[⟨y,ln,m⟩]) kvs' M' ->E'.nx ρ M'):
  iE (GC "list" dD (wL (aB 2) (aB i) (nW aF)) (aA (dH (aA (aB 5) (aA wm aF))) aF)) E' ρ M:=by
 have sz:=aH1;obtain⟨is,ek,nd,_,hkl,_⟩:=C.len;have hdl:mh.length<M.length:=iQ C.at_;have hfl:∀y,(E.filter λe=>decide (e.y=y)).length<=E.length:=λy=>aJi _ _;simp[r2,ri,r5];refine⟨⟨_,C.at_⟩,kvs,bE C.at_,⟨.inl y,rfl⟩,by lia,λv hv=>?_,λhv=>?_⟩
 ·obtain⟨k,rfl,h1,h2,h3,h4⟩:=C.VO y v hv;have g3:(M++[MO.lst []])[k]? =some (.lst ((E.filter λe=>decide (e.y=y)).map Z8)):=bE h3;refine⟨⟨rfl,_,g3⟩,hwm _ _ ⟨by lia,(eS g3 _).mpr ⟨by have:=hfl y;simp;lia,?_⟩⟩⟩;refine nx _ kvs ((px.push _).set (by lia) _) ⟨get_set (bE C.at_) (by lia),C.key,C.nd,λy' hv' e he=>?_,λy' d hv' =>?_,C.inj⟩
  ·rcases aGh.mp he with z | z
   ·exact C.b6 y' hv' e z
   ·rw[List.mem_singleton.mp z];intro q;have q:y=y' :=q;subst q;rw[hv]at hv';cases hv'
  ·obtain⟨k',rfl,a1,a2,a3,a4⟩:=C.VO y' d hv';refine⟨k',rfl,a1,by simp;lia,?_,?_⟩
   ·rw[qN];by_cases e:y=y'
    ·subst e;rw[hv]at hv';cases hv';rw[b9 _ g3];simp[Z8]
    ·have hk:k≠k' :=λz=>e (C.inj y y' k hv (by rw[z];exact hv'));rw[if_neg e,List.append_nil];exact get_set (bE a3) hk
   ·obtain⟨e,he,hy'⟩:=a4;exact⟨e,aHj _ he,hy'⟩
 ·have g1:(M++[MO.lst []])[mh.length]? =some (.dic false kvs):=bE C.at_;have g3:((M++[MO.lst []]).set mh.length (.dic false (putD kvs (.int y) (.ref M.length))))[M.length]? =some (.lst []):=get_set (eR _ _) (by lia);refine⟨⟨rfl,_,g3⟩,hwm _ _ ⟨by lia,(eS g3 _).mpr ⟨by simp;lia,?_⟩⟩⟩;have hno:(E.filter λe=>decide (e.y=y))=[]:=List.filter_eq_nil_iff.mpr λe he=>by simpa using C.b6 y hv e he
  have vp:∀y',y' ≠y->bI (putD kvs (.int y) (.ref M.length)) (.int y')=bI kvs (.int y'):=λy' h=>tJ _ _ (by simpa using h)
  have old:∀y' k,bI kvs (.int y')=some (.ref k)->k<M.length:=λy' k h=>by
   obtain⟨k',e,_,_,a3,_⟩:=C.VO y' _ h;cases e;exact iQ a3
  refine nx _ (putD kvs (.int y) (.ref M.length)) ((((px.push _).set (aGi _) _)).set (by lia) _) ⟨get_set (b9 _ g1) (by lia),λp hp=>?_,xB C.nd _ _,λy' hv' e he=>?_,λy' d hv' =>?_,λy1 y2 k h1 h2=>?_⟩
  ·rcases BN hp with z | z
   ·exact C.key p z
   ·exact⟨y,hy,z.1⟩
  ·by_cases e1:y' =y
   ·subst e1;rw[jG]at hv';cases hv'
   ·rw[vp y' e1]at hv';rcases aGh.mp he with z | z
    ·exact C.b6 y' hv' e z
    ·rw[List.mem_singleton.mp z];exact λq=>e1 q.symm
  ·by_cases e1:y' =y
   ·subst e1;rw[jG]at hv';cases hv';refine⟨M.length,rfl,hdl,by simp,?_,⟨y',ln,m⟩,by simp,rfl⟩;rw[b9 _ g3,qN,hno];simp[Z8]
   ·rw[vp y' e1]at hv';obtain⟨k',rfl,a1,a2,a3,e,he,hy'⟩:=C.VO y' d hv';refine⟨k',rfl,a1,by simp;lia,?_,e,aHj _ he,hy'⟩;rw[qN,if_neg (λq=>e1 q.symm),List.append_nil];exact get_set (get_set (bE a3) (by lia)) (by lia)
  ·by_cases e1:y1=y
   ·by_cases e2:y2=y
    ·rw[e1,e2]
    ·rw[vp y2 e2]at h2;rw[e1,jG]at h1;have:=old y2 k h2;injection h1 with h1;injection h1 with h1;lia
   ·rw[vp y1 e1]at h1;by_cases e2:y2=y
    ·rw[e2,jG]at h2;have:=old y1 k h1;injection h2 with h2;injection h2 with h2;lia
    ·rw[vp y2 e2]at h2;exact C.inj y1 y2 k h1 h2
def LU:OA:=λds mh Q=>∃(n:Nat) (B:List Bd) (xs ys:List Int),ds=[.ref n,.int 1]/\mh[n]? =some (.lst (B.map bD))/\B.length<=400000/\xs.length<4000/\ys.length<4000/\(∀b∈B,b.lo<b.hi/\b.lo∈ys/\b.hi∈ys/\b.ln.length<=1000000/\∀t∈b.ln,t.1<t.2/\t.1∈xs/\t.2∈xs)/\
 ∀g:List Bd,qU g->(∀x y,cB g x y↔cB B x y)->Q (gD g) mh
theorem OJ(B:List Bd)(b:Bd):CW (B++[b])=CW B++[⟨b.lo,b.ln,1⟩]++[⟨b.hi,b.ln,-1⟩]:=by simp[CW]
theorem HD(B:List Bd):(CW B).length=2*B.length:=by
 induction B with
 | nil=>rfl
 | cons b B ih=>rw[CV];simp[ih];lia
theorem wJ.keep{dn top:Nat}{ys:List Int}{E:List Ev}{kvs:List (D×D)}{M M' :MH}(h:wJ dn top ys E kvs M)(hd:dn<top)(k:∀j,j<top->M'[j]? =M[j]?):wJ dn top ys E kvs M' :=
 ⟨by rw[k dn hd];exact h.at_,h.key,h.nd,h.b6,λy d hv=>by
  obtain⟨m,a1,a2,a3,a4,a5⟩:=h.VO y d hv
  exact⟨m,a1,a2,a3,by rw[k m a3];exact a4,a5⟩,h.inj⟩
theorem SS{mh M:MH}{E' :eO}{n cn sn rn top:Nat}{ys xs js:List Int}{E:List Ev}{kvs:List (D×D)}{a3 a4 a5 a9 a10:Option D}(px:cH mh M)(C:wJ mh.length top ys E kvs M)(hxs:xs.length<4000)(hEl:E.length<=1000000)(hE:∀e∈E,e.ln.length<=1000000/\∀t∈e.ln,t.1∈xs/\t.2∈xs)
  (hmt:mh.length<top) (ht:top<=cn) (hcs:cn<sn) (hsr:sn<rn) (hjs:js.Pairwise (· < ·)) (hjm:∀y,y∈js↔∃e∈E,e.y=y) (hjl:js.length<4000) (gc:M[cn]? =some (.lst (js.map .int))) (gs:M[sn]? =some (.dic false [])) (gr:M[rn]? =some (.lst []))
  (nx:∀a5 a9 a10 M' (rows:List (List P2)),cH mh M' ->M'[cn]? =some (.lst (js.map .int))->M'[rn]? =some (.lst (rows.map i9))->rows.length=js.length->(∀(j:Nat) f,rows[j]? =some f->Sep f/\∀x,f7 f x↔1<=cnt (E.filter λe=>decide (e.y∈js.take (j+1))) x)->
   E'.nx [some (.ref n),some (.int 1),some (.ref mh.length),a3,a4,a5,some (.ref cn),some (.ref sn),some (.ref rn),a9,a10] M'):
  jF (cY (aB 6)) (gN 9) (jA D9 uB jI) E' [some (.ref n),some (.int 1),some (.ref mh.length),a3,a4,a5,some (.ref cn),some (.ref sn),some (.ref rn),a9,a10] M:=by
 have sz:=aH1;have e0:(E.filter λe=>decide (e.y∈js.take 0))=[]:=List.filter_eq_nil_iff.mpr λe _=>by simp
 simp;rw[bB gc];simp only[bY]
 refine b8 (λi ρ M' =>(∃a5 a9 a10,ρ=[some (.ref n),some (.int 1),some (.ref mh.length),a3,a4,a5,some (.ref cn),some (.ref sn),some (.ref rn),a9,a10])/\cH mh M' /\wJ mh.length top ys E kvs M' /\M'[cn]? =some (.lst (js.map .int))/\
  (∃skvs,M'[sn]? =some (.dic false skvs)/\kL xs skvs (λx=>cnt (E.filter λe=>decide (e.y∈js.take i)) x-cnt (E.filter λe=>decide (e.y∈js.take i)) (x-1)))/\
  ∃rows:List (List P2),M'[rn]? =some (.lst (rows.map i9))/\rows.length=i/\∀(j:Nat) f,rows[j]? =some f->Sep f/\∀x,f7 f x↔1<=cnt (E.filter λe=>decide (e.y∈js.take (j+1))) x) _ ?_ ?_ ?_
  ⟨⟨_,_,_,rfl⟩,px,C,gc,⟨[],gs,⟨by simp,by simp,λx=>by rw[e0];simp[bI,cnt]⟩⟩,[],by simpa using gr,rfl,by simp⟩
 ·rintro i ρ M' ⟨_,_,_,g,_⟩;exact bB g
 ·rintro i d ρ M' N hi ⟨⟨a5,a9,a10,rfl⟩,px1,C1,c1,⟨skvs,s1,st⟩,rows,r1,rl,hr⟩ nx2;obtain⟨y,hy,rfl⟩:=gE hi;have hil:i<js.length:=(aGc.mp hy).1;have hye:=(hjm y).mp (aGo hy)
  obtain⟨m,hv,m1,m2,m3⟩:∃m,bI kvs (.int y)=some (.ref m)/\mh.length<m/\m<top/\M'[m]? =some (.lst ((E.filter λe=>decide (e.y=y)).map Z8)):=by
   cases hv:bI kvs (.int y) with
   | none=>obtain⟨e,he,q⟩:=hye;exact absurd q (C1.b6 y hv e he)
   | some d=>
    obtain⟨m,rfl,b1,b2,b3,_⟩:=C1.VO y d hv;exact⟨m,rfl,b1,b2,b3⟩
  have hni:y∉js.take i:=λh=>by
   obtain⟨k,hk⟩:=aGt.mp h;have hkl:k<i:=by have:=(aGc.mp hk).1;rw[List.length_take]at this;lia
   rw[List.getElem?_take_of_lt hkl]at hk;have pw:=aHa.mp hjs;obtain⟨x1,e1⟩:=aGc.mp hk;obtain⟨x2,e2⟩:=aGc.mp hy;have:=pw k i x1 x2 hkl;lia
  generalize hEy:(E.filter λe=>decide (e.y=y))=Ey at m3;have hEyE:∀e∈Ey,e.ln.length<=1000000/\∀t∈e.ln,t.1∈xs/\t.2∈xs:=λe he=>hE e (by rw[<-hEy]at he;exact(aI5.mp he).1);simp[jA];refine⟨mh.length,kvs,.inl y,_,rfl,C1.at_,rfl,hv,?_⟩;simp only[bB m3,bY]
  refine b8 (λj ρ M2=>(∃a5 a10,ρ=[some (.ref n),some (.int 1),some (.ref mh.length),a3,a4,a5,some (.ref cn),some (.ref sn),some (.ref rn),some (.int y),a10])/\∃skvs2,M2=M'.set sn (.dic false skvs2)/\
   kL xs skvs2 (λx=>cnt ((E.filter λe=>decide (e.y∈js.take i))++Ey.take j) x-cnt ((E.filter λe=>decide (e.y∈js.take i))++Ey.take j) (x-1))) _ ?_ ?_ ?_ ⟨⟨_,_,rfl⟩,skvs,(oX s1).symm,by simpa using st⟩
  ·rintro j ρ M2 ⟨_,skvs2,rfl,_⟩;exact bB (get_set m3 (by lia))
  ·rintro j d ρ M2 N2 hj ⟨⟨a5,a10,rfl⟩,skvs2,rfl,st2⟩ nx3;obtain⟨e,he,rfl⟩:=gE hj;simp[oJ,Z8];have hee:=hEyE e (aGo he);refine ZO (b9 _ s1) st2 hxs hee.1 hee.2 λskvs3 st3=>?_;refine nx3 _ _ ⟨⟨_,_,rfl⟩,skvs3,by simp,?_⟩
   have e1:(λx=>cnt ((E.filter λe=>decide (e.y∈js.take i))++Ey.take (j+1)) x-cnt ((E.filter λe=>decide (e.y∈js.take i))++Ey.take (j+1)) (x-1))=λx=>cnt ((E.filter λe=>decide (e.y∈js.take i))++Ey.take j) x-cnt ((E.filter λe=>decide (e.y∈js.take i))++Ey.take j) (x-1)+e.m*(nJ e.ln x-nJ e.ln (x-1)):=by
    funext x;rw[take_snoc he];simp only[AL,cnt_cons];have:∀x,cnt ([]:List Ev) x=0:=λ_=>rfl;rw[this,this,Int.mul_sub];lia
   rw[e1];exact st3
  ·rintro ρ M2 ⟨⟨a5,a10,rfl⟩,skvs2,rfl,st2⟩;simp only[List.length_map,List.take_length]at st2
   have e1:(λx=>cnt ((E.filter λe=>decide (e.y∈js.take i))++Ey) x-cnt ((E.filter λe=>decide (e.y∈js.take i))++Ey) (x-1))=λx=>cnt (E.filter λe=>decide (e.y∈js.take (i+1))) x-cnt (E.filter λe=>decide (e.y∈js.take (i+1))) (x-1):=by
    funext x;rw[take_snoc hy,x9 hni,x9 hni,AL,AL,hEy]
   rw[e1]at st2;have r2:(M'.set sn (.dic false skvs2))[rn]? =some (.lst (rows.map i9)):=get_set r1 (by lia);simp[kN];refine⟨⟨rfl,_,r2⟩,S5 (b9 _ s1) st2 hxs (HH _) (OX _) λf f1 f2 _ _=>?_⟩;rw[eS r2];have hsl:=iQ s1;have hml:=px1.le;refine⟨by simp;lia,nx2 _ _ ⟨⟨_,_,_,rfl⟩,(px1.set (by lia) _).set (by lia) _,C1.keep hmt λj hj=>by rw[List.getElem?_set_ne (by lia),List.getElem?_set_ne (by lia)],get_set (get_set c1 (by lia)) (by lia),⟨skvs2,get_set (b9 _ s1) (by lia),st2⟩,rows++[f],by rw[b9 _ r2];simp,by simp[rl],λj g hg=>?_⟩⟩;by_cases hj:j<rows.length
   ·rw[List.getElem?_append_left hj]at hg;exact hr j g hg
   ·have hjl2:=(aGc.mp hg).1;simp at hjl2;have ej:j=rows.length:=by lia
    subst ej;simp at hg;subst hg;rw[rl];exact⟨f1,f2⟩
 ·rintro ρ M' ⟨⟨a5,a9,a10,rfl⟩,px1,C1,c1,_,rows,r1,rl,hr⟩;exact nx _ _ _ M' rows px1 c1 r1 (by simpa using rl) hr
theorem aCk(ds:List D)(mh:MH)(R:DK)(ok:kM mh)(hs:LU ds mh R):mE D9 uB jI (En mh R) (aJ ["bands","least","changes","y0","y1","stretches","cuts","steps","rows","y","more"] ds) mh:=by
 obtain⟨n,B,xs,ys,rfl,hn,hBl,hxs,hys,hB,q⟩:=hs;have sz:=aH1;have hnl:n<mh.length:=iQ hn
 have hB' :∀b∈B,b.lo<b.hi/\∀t∈b.ln,t.1<t.2:=λb hb=>⟨(hB b hb).1,λt ht=>((hB b hb).2.2.2.2 t ht).1⟩
 simp[mE,q5,aJ];rw[bB (bE hn)];simp only[bY];refine b8 (λi ρ M' =>(∃a3 a4 a5,ρ=[some (.ref n),some (.int 1),some (.ref mh.length),a3,a4,a5,none,none,none,none,none])/\cH mh M' /\∃kvs,wJ mh.length M'.length ys (CW (B.take i)) kvs M') _ ?_ ?_ ?_ ⟨⟨_,_,_,rfl⟩,⟨_,rfl⟩,[],⟨by simp,by simp,by simp,by simp[CW],by simp[bI],by simp[bI]⟩⟩
 ·rintro i ρ M' ⟨_,px,_⟩;exact bB (px.old hn)
 ·rintro i d ρ M' N hi ⟨⟨a3,a4,a5,rfl⟩,px,kvs,C⟩ nx;obtain⟨b,hb,rfl⟩:=gE hi;have hbm:=aGo hb;obtain⟨_,b2,b3,b4,b5⟩:=hB b hbm;have hil:i<B.length:=(aGc.mp hb).1;have el:=HD (B.take i);have tl:(B.take i).length<=i:=by simp;lia
  simp[bD];unfold oK;rw[UB];refine N0 px C b2 hys (by lia) rfl rfl rfl (λmh Q h=>by simpa using h) λM2 kvs2 px2 C2=>?_;show gK D9 uB jI _ _ _;unfold gK;refine N0 px2 C2 b3 hys (by simp;lia) rfl rfl rfl (λmh Q h=>by simpa using h) λM3 kvs3 px3 C3=>?_;refine nx _ _ ⟨⟨_,_,_,rfl⟩,px3,kvs3,?_⟩;rw[take_snoc hb,OJ];exact C3
 ·rintro ρ M ⟨⟨a3,a4,a5,rfl⟩,px,kvs,C⟩;simp only[List.length_map,List.take_length]at C;obtain⟨is,ek,nd,il,kl,hmem⟩:=C.len;simp[qZ];refine⟨mh.length,false,kvs,rfl,C.at_,by lia,by rw[ek];exact tM _,λfs p s=>?_⟩;rw[ek]at p;obtain⟨js,rfl,pj,srt⟩:=xG p s nd;have hjl:=pj.length_eq;simp[qY,qX];have el:=HD B;have hml:mh.length<M.length:=iQ C.at_;unfold qW;rw[UB];refine SS (top:=M.length) (E:=CW B) (xs:=xs) (ys:=ys) (js:=js) (px.app _) (C.keep hml λj hj=>by rw[List.getElem?_append_left hj]) hxs (by lia) (λe he=>?_) hml (aGi _) (by lia) (by lia) srt (λy=>by rw[pj.mem_iff];exact hmem y) (by lia) (by simp) (by simp) (by simp) λa5 a9 a10 M' rows px' gc gr rl hr=>?_
  ·obtain⟨b,hb,hbe⟩:=aIm.mp he;have:=hB b hb;simp at hbe;rcases hbe with rfl | rfl <;> exact⟨this.2.2.2.1,λt ht=>(this.2.2.2.2 t ht).2⟩
  ·obtain⟨can,cb⟩:=XB hB' srt (λy=>by rw[pj.mem_iff];exact hmem y) rl hr;have ml:=RL js rows;simp[qV];rw[UA gc,xY,<-List.map_tail];have hr2:(M' ++[MO.lst (js.tail.map D.int)])[M.length+2]? =some (.lst (rows.map i9)):=bE gr;have hc2:(M' ++[MO.lst (js.tail.map D.int)])[M.length]? =some (.lst (js.map .int)):=bE gc;refine⟨[js.map .int,js.tail.map .int,rows.map i9],?_,?_,?_⟩
   ·simp only[kB,bB hc2,bB hr2,bB (eR M' _)]
   ·have:=aHk List.length (GX js rows);simp only[List.length_map]at this
    lia
   ·rw[GX];refine JF (eR _ _) (by lia) ?_;exact((px'.push _).push _).out ok (pG _ _) (q _ can cb)
def bOf(r:R4):Bd:=⟨r.y0,r.y1,[(r.x0,r.x1)]⟩
theorem OV{rs:List R4}{x y:Int}:cB (rs.map bOf) x y↔∃r∈rs,r.has x y:=by
 unfold cB;constructor
 ·rintro⟨b,hb,h1,h2,h3⟩;obtain⟨r,hr,rfl⟩:=aGm.mp hb;have h3:=iJ.mp h3;exact⟨r,hr,h3.1,h3.2,h1,h2⟩
 ·rintro⟨r,hr,h1,h2,h3,h4⟩;exact⟨bOf r,aGy hr,h3,h4,iJ.mpr ⟨h1,h2⟩⟩
theorem VL{mh:MH}{n:Nat}{B:List Bd}{Q:DK}(xs ys:List Int)(h1:mh[n]? =some (.lst (B.map bD)))(h2:B.length<=400000)(h3:xs.length<4000)(h4:ys.length<4000)(h5:∀b∈B,b.lo<b.hi/\b.lo∈ys/\b.hi∈ys/\b.ln.length<=1000000/\∀t∈b.ln,t.1<t.2/\t.1∈xs/\t.2∈xs)
  (q:∀g:List Bd,qU g->(∀x y,cB g x y↔cB B x y)->Q (gD g) mh):dfl 1 LU [.ref n] mh Q:=⟨n,B,xs,ys,rfl,h1,h2,h3,h4,h5,q⟩
theorem LX{rs:List R4}:∀b∈cC rs,b.lo∈dF rs/\b.hi∈dF rs/\∀t∈b.ln,t.1∈rs.map (·.x0)++rs.map (·.x1)/\t.2∈rs.map (·.x0)++rs.map (·.x1):=by
 have shr:∀lo hi,∀t∈bW (aQ rs lo hi),t.1∈rs.map (·.x0)++rs.map (·.x1)/\t.2∈rs.map (·.x0)++rs.map (·.x1):=λlo hi=>
  E1 (P:=λx=>x∈rs.map (·.x0)++rs.map (·.x1)) (D7 (λr hr=>⟨aHj _ (aGy hr),aGs _ (aGy hr)⟩) lo hi)
 have step:∀(f:List Bd) (p:P2),p.1∈dF rs->p.2∈dF rs->(∀b∈f,b.lo∈dF rs/\b.hi∈dF rs/\∀t∈b.ln,t.1∈rs.map (·.x0)++rs.map (·.x1)/\t.2∈rs.map (·.x0)++rs.map (·.x1))->
   ∀b∈aZ rs f p,b.lo∈dF rs/\b.hi∈dF rs/\∀t∈b.ln,t.1∈rs.map (·.x0)++rs.map (·.x1)/\t.2∈rs.map (·.x0)++rs.map (·.x1):=λf p h1 h2 hf b hb=>by
  rcases aH4 f with rfl | ⟨g,t,rfl⟩
  ·rw[fJ]at hb;split at hb
   ·cases hb
   ·rw[List.mem_singleton.mp hb];exact⟨h1,h2,shr _ _⟩
  ·rw[List.concat_eq_append]at*;rw[eF]at hb;split at hb
   ·exact hf b hb
   ·split at hb
    ·rcases aGh.mp hb with z | z
     ·exact hf b (by simp[z])
     ·rw[List.mem_singleton.mp z];exact⟨(hf t (by simp)).1,h2,shr _ _⟩
    ·rcases aGh.mp hb with z | z
     ·exact hf b z
     ·rw[List.mem_singleton.mp z];exact⟨h1,h2,shr _ _⟩
 have go:∀(l:List P2) (f:List Bd),(∀p∈l,p.1∈dF rs/\p.2∈dF rs)->(∀b∈f,b.lo∈dF rs/\b.hi∈dF rs/\∀t∈b.ln,t.1∈rs.map (·.x0)++rs.map (·.x1)/\t.2∈rs.map (·.x0)++rs.map (·.x1))->
   ∀b∈l.foldl (aZ rs) f,b.lo∈dF rs/\b.hi∈dF rs/\∀t∈b.ln,t.1∈rs.map (·.x0)++rs.map (·.x1)/\t.2∈rs.map (·.x0)++rs.map (·.x1):=by
  intro l
  induction l with
  | nil=>intro f _ hf;exact hf
  | cons p l ih=>
   intro f hl hf;exact ih _ (λq hq=>hl q (aGg _ hq)) (step f p (hl p aGf).1 (hl p aGf).2 hf)
 refine go _ [] (λp hp=>?_) (by simp);obtain⟨h1,h2⟩:=List.of_mem_zip (show (p.1,p.2)∈_ from hp);exact⟨h1,List.mem_of_mem_tail h2⟩
def iW:WS:=(bS (dH (aA (rE fK (aB 7)) (aA (aB 4) (aA (rE fK (aB 5)) (aA (aB 6) aF))))) (gT 4 (aH (gN 4) (aH (gN 5) (aH (gN 6) (aH (gN 7) cR))))))
def jW:WS:=(dW (dH (aA (bA fL (aB 4) (aB 2)) (aA (bA fL (aB 5) (aB 3)) (aA (bA fL (aB 6) (aB 2)) (aA (bA fL (aB 7) (aB 3)) aF))))))
def fS:WS:=(aW (jF (kA (aA (bA RJ (aB 1) (wC (.int 3))) aF)) (gN 8) (iW)) (jW))
def jX:WS:=(aW (gC (r8 (bA RJ (aB 1) (wC (.int 4)))) (bS (dH (aA (rE fK (aB 6)) (aA (rE fK (aB 4)) aF))) (gT 2 (aH (gN 4) (aH (gN 6) cR)))) dI) (fS))
def eX:WS:=(aW (bS (aB 0) (gT 4 (aH (gN 4) (aH (gN 5) (aH (gN 6) (aH (gN 7) cR)))))) (jX))
def sT(s0 s1 s2:OA):WS:=(dW (aG (dfl 1 s2) (aA (A9 ["x0","y0","x1","y1"] [] (cY (aB 4)) (gT 4 (aH (gN 0) (aH (gN 1) (aH (gN 2) (aH (gN 3) cR))))) kJ (dH (aA (aB 1) (aA (aB 3) (aA (dH (aA (dH (aA (aB 0) (aA (aB 2) aF))) aF)) aF))))) aF)))
def oI(s0 s1 s2:OA):WS:=(aW (bS (A9 ["rect"] [1,2,3] (cY (aG s0 (aA (aB 0) aF))) (gN 0) kJ (aG s1 (aA (aB 0) (aA (aB 1) (aA (aB 2) (aA (aB 3) aF)))))) (gN 4)) (sT s0 s1 s2))
def vT(r:R4):R4:=⟨-r.x1,r.y0,-r.x0,r.y1⟩
def uF(r:R4):R4:=⟨-r.y1,r.x0,-r.y0,r.x1⟩
def cQ:Nat->R4->R4
 | 0,r=>r
 | n+1,r=>uF (cQ n r)
def move(dx dy:Int)(r:R4):R4:=⟨r.x0+dx,r.y0+dy,r.x1+dx,r.y1+dy⟩
def fY(t:Nat)(r:R4):R4:=cQ (t % 4) (if t<4 then r else vT r)
theorem aCx:∀t:Fin 8,Builtin.bitAnd (t.val:Int) 4=if t.val<4 then 0 else 4:=by decide
theorem aCy:∀t:Fin 8,Builtin.bitAnd (t.val:Int) 3=((t.val % 4:Nat):Int):=by decide
theorem aG3{t:Nat}(h:t<8):Builtin.bitAnd (t:Int) 4=if t<4 then 0 else 4:=aCx ⟨t,h⟩
theorem aG4{t:Nat}(h:t<8):Builtin.bitAnd (t:Int) 3=((t % 4:Nat):Int):=aCy ⟨t,h⟩
def vM(T:R4->R4):Prop:=∀x y,∃x' y',∀r:R4,(T r).has x y↔r.has x' y'
theorem QR:vM λr=>r:=λx y=>⟨x,y,λr=>Iff.rfl⟩
theorem qG{S T:R4->R4}(h1:vM S)(h2:vM T):vM λr=>S (T r):=λx y=>by
 obtain⟨x1,y1,h1⟩:=h1 x y;obtain⟨x2,y2,h2⟩:=h2 x1 y1;exact⟨x2,y2,λr=>(h1 _).trans (h2 r)⟩
theorem EG:vM uF:=λx y=>⟨y,-1-x,λr=>by simp only[uF,R4.has];lia⟩
theorem IH:vM vT:=λx y=>⟨-1-x,y,λr=>by simp only[vT,R4.has];lia⟩
theorem IG(dx dy:Int):vM (move dx dy):=λx y=>⟨x-dx,y-dy,λr=>by simp only[move,R4.has];lia⟩
theorem lM:∀n,vM (cQ n)
 | 0=>QR
 | n+1=>qG (S:=uF) EG (lM n)
theorem IF(t:Nat):vM (fY t):=by
 by_cases h:t<4
 ·have e:fY t=cQ (t % 4):=by funext r;simp[fY,h]
  rw[e];exact lM _
 ·have e:fY t=λr=>cQ (t % 4) (vT r):=by funext r;simp[fY,h]
  rw[e];exact qG (lM _) IH
abbrev tm(t:Nat)(dx dy:Int)(r:R4):R4:=move dx dy (fY t r)
theorem y4(t:Nat)(dx dy:Int):vM (tm t dx dy):=qG (S:=move dx dy) (IG dx dy) (IF t)
def Good(r:R4):Prop:=r.x0<r.x1/\r.y0<r.y1
theorem FA{r:R4}(h:Good r):Good (uF r):=by simp only[Good,uF]at*;lia
theorem JN{r:R4}(h:Good r):Good (vT r):=by simp only[Good,vT]at*;lia
theorem lU:∀(n:Nat) {r:R4},Good r->Good (cQ n r)
 | 0,_,h=>h
 | n+1,_,h=>FA (lU n h)
theorem JM(t:Nat){r:R4}(h:Good r):Good (fY t r):=by
 unfold fY;split
 ·exact lU _ h
 ·exact lU _ (JN h)
theorem jO(t:Nat)(dx dy:Int){r:R4}(h:Good r):Good (tm t dx dy r):=by
 have:=JM t h;simp only[Good,tm,move]at*;lia
def Nums(xs ys:List Int)(r:R4):Prop:=r.x0∈xs/\r.x1∈xs/\r.y0∈ys/\r.y1∈ys
def neg(xs:List Int):List Int:=xs.map λx=>-x
theorem zI{xs:List Int}{x:Int}(h:x∈xs): -x∈neg xs:=aGy (f:=λx=>-x) h
theorem EM{xs ys:List Int}{r:R4}(h:Nums xs ys r):Nums (neg ys) xs (uF r):=⟨zI h.2.2.2,zI h.2.2.1,h.1,h.2.1⟩
theorem IS{xs ys:List Int}{r:R4}(h:Nums xs ys r):Nums (neg xs) ys (vT r):=⟨zI h.2.1,zI h.1,h.2.2⟩
theorem lP:∀(n:Nat) {xs ys:List Int} {N:Nat},xs.length<N->ys.length<N->∃xs' ys',xs'.length<N/\ys'.length<N/\∀r,Nums xs ys r->Nums xs' ys' (cQ n r)
 | 0,xs,ys,N,h1,h2=>⟨xs,ys,h1,h2,λ_ h=>h⟩
 | n+1,xs,ys,N,h1,h2=>by
  obtain⟨xs',ys',h3,h4,h5⟩:=lP n h1 h2;exact⟨neg ys',xs',by simpa[neg] using h4,h3,λr h=>EM (h5 r h)⟩
theorem IQ(t:Nat){xs ys:List Int}{N:Nat}(h1:xs.length<N)(h2:ys.length<N):∃xs' ys',xs'.length<N/\ys'.length<N/\∀r,Nums xs ys r->Nums xs' ys' (fY t r):=by
 by_cases h:t<4
 ·obtain⟨a,b,h3,h4,h5⟩:=lP (t % 4) h1 h2;exact⟨a,b,h3,h4,λr hr=>by simp only[fY,h,if_true];exact h5 r hr⟩
 ·obtain⟨a,b,h3,h4,h5⟩:=lP (t % 4) (xs:=neg xs) (ys:=ys) (by simpa[neg] using h1) h2;exact⟨a,b,h3,h4,λr hr=>by simp only[fY,h,if_false];exact h5 _ (IS hr)⟩
theorem GV(t:Nat)(dx dy:Int){xs ys:List Int}{N:Nat}(h1:xs.length<N)(h2:ys.length<N):∃xs' ys',xs'.length<N/\ys'.length<N/\∀r,Nums xs ys r->Nums xs' ys' (tm t dx dy r):=by
 obtain⟨a,b,h3,h4,h5⟩:=IQ t h1 h2;refine⟨a.map (· +dx),b.map (· +dy),by simpa using h3,by simpa using h4,λr hr=>?_⟩;obtain⟨q1,q2,q3,q4⟩:=h5 r hr;exact⟨aGy (f:=(· +dx)) q1,aGy (f:=(· +dx)) q2,aGy (f:=(· +dy)) q3,aGy (f:=(· +dy)) q4⟩
def sTR:OA:=λds mh Q=>∃(r:R4) (t:Nat) (dx dy:Int),ds=[rD r,.int t,.int dx,.int dy]/\t<8/\Q (rD (tm t dx dy r)) mh
theorem UQ{mh:MH}{R:DK}{t:Nat}{dx dy:Int}{a b:Option D}{r:R4}(ht:t<8)(q:R (rD (move dx dy (cQ (t % 4) r))) mh):
  fS (En mh R) [a,some (.int t),some (.int dx),some (.int dy),some (.int r.x0),some (.int r.y0),some (.int r.x1),some (.int r.y1),b] mh:=by
 have sz:=aH1;simp[fS,aG4 ht];refine⟨by lia,by rw[sz];lia,?_⟩;have e:((t:Int) % 4).toNat=t % 4:=by lia
 rw[e];refine b8 (λi ρ mh' =>mh' =mh/\∃b,ρ=[a,some (.int t),some (.int dx),some (.int dy),some (.int (cQ i r).x0),some (.int (cQ i r).y0),some (.int (cQ i r).x1),some (.int (cQ i r).y1),b]) _ (λ_ _ _ _=>trivial) ?_ ?_ ⟨rfl,_,rfl⟩
 ·rintro i d ρ mh' N hi ⟨rfl,b,rfl⟩ nx;simp[iW];refine⟨by lia,nx _ _ ⟨rfl,_,rfl⟩⟩
 ·rintro ρ mh' ⟨rfl,b,rfl⟩;simp[jW];refine⟨by lia,cJ ?_⟩;simpa[rD,move] using q
theorem aFr(ds:List D)(mh:MH)(R:DK)(ok:kM mh)(hs:sTR ds mh R):eX (En mh R) (aJ ["rect","turn","dx","dy","x0","y0","x1","y1","quarter"] ds) mh:=by
 obtain⟨r,t,dx,dy,rfl,ht,q⟩:=hs;have sz:=aH1;simp[eX,jX,aJ,rD,aG3 ht];by_cases h:t<4
 ·simp[h,iO];exact UQ ht (by simpa[tm,fY,h] using q)
 ·simp[h,iO];refine⟨by lia,?_⟩;exact UQ (r:=vT r) ht (by simpa[tm,fY,h] using q)
def iF:OA:=λds mh Q=>∃(g:List Bd) (t:Nat) (dx dy:Int) (xs ys:List Int),ds=[gD g,.int t,.int dx,.int dy]/\t<8/\(LS.aO g).length<=400000/\xs.length<4000/\ys.length<4000/\(∀r∈LS.aO g,Good r/\Nums xs ys r)/\
 ∀g' :List Bd,qU g' ->(∀x y,cB g' x y↔∃r∈LS.aO g,(tm t dx dy r).has x y)->Q (gD g') mh
theorem aB7{g:List Bd}{mh:MH}{Q:DK}(hl:(LS.aO g).length<=1000000)(q:Q (.ref mh.length) (mh++[.lst ((LS.aO g).map rD)])):LS.Z3 [gD g] mh Q:=⟨g,rfl,hl,q⟩
theorem aAm{r:R4}{t:Nat}{dx dy:Int}{mh:MH}{Q:DK}(ht:t<8)(q:Q (rD (tm t dx dy r)) mh):sTR [rD r,.int t,.int dx,.int dy] mh Q:=⟨r,t,dx,dy,rfl,ht,q⟩
theorem NZ(ds:List D)(mh:MH)(R:DK)(ok:kM mh)(hs:iF ds mh R):oI LS.Z3 sTR LU (En mh R) (aJ ["region","turn","dx","dy","rects"] ds) mh:=by
 obtain⟨g,t,dx,dy,xs,ys,rfl,ht,hl,hx,hy,hr,q⟩:=hs;have sz:=aH1;simp[oI,aJ];refine aB7 (by lia) ?_;have hn:=eR mh (.lst ((LS.aO g).map rD));have px:cH mh (mh++[.lst ((LS.aO g).map rD)]):=cH.refl.push _;generalize mh++[.lst ((LS.aO g).map rD)]=M at hn px⊢;rw[bB hn];simp only[bY];refine gJ rD (tm t dx dy) rD (LS.aO g) (bB hn) (λr _ N hN=>?_) ?_
 ·simp[fW];exact aAm ht hN
 ·have hn2:=eR M (.lst (((LS.aO g).map (tm t dx dy)).map rD));have px2:=px.push (.lst (((LS.aO g).map (tm t dx dy)).map rD));simp only[sT];generalize M++[.lst (((LS.aO g).map (tm t dx dy)).map rD)]=M2 at hn2 px2⊢;generalize hrs:(LS.aO g).map (tm t dx dy)=rs at hn2⊢;obtain⟨xs',ys',hx',hy',hnum⟩:=GV t dx dy hx hy;have hrl:rs.length<=400000:=by rw[<-hrs];simpa using hl
  simp;rw[bB hn2];simp only[bY];refine gJ rD bOf bD rs (bB hn2) (λr _ N hN=>?_) ?_
  ·simp[fW,rD];refine⟨by lia,by lia,by lia,?_⟩;exact hN
  ·refine VL xs' ys' (eR _ _) (by simpa using hrl) hx' hy' (λb hb=>?_) λg' can hc=>?_
   ·obtain⟨r,hrm,rfl⟩:=aGm.mp hb;rw[<-hrs]at hrm;obtain⟨r0,hr0,rfl⟩:=aGm.mp hrm;obtain⟨a1,a2⟩:=hr r0 hr0;obtain⟨c1,c2,c3,c4⟩:=hnum r0 a2;have c0:=jO t dx dy a1;refine⟨c0.2,c3,c4,by simp[bOf],λt ht=>?_⟩;simp[bOf]at ht;subst ht;exact⟨c0.1,c1,c2⟩
   ·refine(px2.push _).out ok (by simp[gD,dN,pG]) (q g' can λx y=>?_);rw[hc,OV,<-hrs];constructor
    ·rintro⟨r,hr,h⟩;obtain⟨r0,hr0,rfl⟩:=aGm.mp hr;exact⟨r0,hr0,h⟩
    ·rintro⟨r0,hr0,h⟩;exact⟨_,aGy hr0,h⟩
theorem rM{rs:List R4}:∀b∈cC rs,b.ln.length<=rs.length:=by
 have shr:∀lo hi,(bW (aQ rs lo hi)).length<=rs.length:=λlo hi=>aH5 (EZ _) (tW _ _ _)
 have step:∀(f:List Bd) (p:P2),(∀b∈f,b.ln.length<=rs.length)->∀b∈aZ rs f p,b.ln.length<=rs.length:=λf p hf b hb=>by
  rcases aH4 f with rfl | ⟨g,t,rfl⟩
  ·rw[fJ]at hb;split at hb
   ·cases hb
   ·rw[List.mem_singleton.mp hb];exact shr _ _
  ·rw[List.concat_eq_append]at*;rw[eF]at hb;split at hb
   ·exact hf b hb
   ·split at hb
    ·rcases aGh.mp hb with z | z
     ·exact hf b (by simp[z])
     ·rw[List.mem_singleton.mp z];exact shr _ _
    ·rcases aGh.mp hb with z | z
     ·exact hf b z
     ·rw[List.mem_singleton.mp z];exact shr _ _
 have go:∀(l:List P2) (f:List Bd),(∀b∈f,b.ln.length<=rs.length)->∀b∈l.foldl (aZ rs) f,b.ln.length<=rs.length:=by
  intro l
  induction l with
  | nil=>intro f hf;exact hf
  | cons p l ih=>intro f hf;exact ih _ (step f p hf)
 exact go _ [] (by simp)
theorem jJ{g:List Bd}{x y:Int}:cB g x y↔∃r∈LS.aO g,r.has x y:=by
 unfold cB LS.aO;constructor
 ·rintro⟨b,hb,h1,h2,t,ht,h3,h4⟩;exact⟨⟨t.1,b.lo,t.2,b.hi⟩,aIm.mpr ⟨b,hb,aGm.mpr ⟨t,ht,rfl⟩⟩,h3,h4,h1,h2⟩
 ·rintro⟨r,hr,h1,h2,h3,h4⟩;obtain⟨b,hb,hr⟩:=aIm.mp hr;obtain⟨t,ht,rfl⟩:=aGm.mp hr;exact⟨b,hb,h3,h4,t,ht,h1,h2⟩
theorem mJ{rs:List R4}{r:R4}(good:∀r∈rs,Good r)(h:r∈LS.aO (cC rs)):Good r/\Nums (rs.map (·.x0)++rs.map (·.x1)) (dF rs) r:=by
 obtain⟨can,_⟩:=gQ (rs:=rs) good;obtain⟨b,hb,h⟩:=aIm.mp h;obtain⟨t,ht,rfl⟩:=aGm.mp h;obtain⟨k1,k2,k3⟩:=LX b hb;exact⟨⟨(can.sep b hb).1 t ht,can.lt b hb⟩,(k3 t ht).1,(k3 t ht).2,k1,k2⟩
theorem uD{rs:List R4}(hl:rs.length<=400):(LS.aO (cC rs)).length<=320000:=by
 have h1:=LS.EF (g:=cC rs) (n:=400) λb hb=>by have:=rM b hb;lia
 have:=w9 rs
 lia
theorem mI{rs:List R4}{t:Nat}{dx dy:Int}{mh:MH}{Q:DK}(ht:t<8)(hl:rs.length<=400)(good:∀r∈rs,Good r)(q:Q (gD (cC (rs.map (tm t dx dy)))) mh):iF [gD (cC rs),.int t,.int dx,.int dy] mh Q:=by
 have:=uD hl;have yl:=sS rs;refine⟨cC rs,t,dx,dy,rs.map (·.x0)++rs.map (·.x1),dF rs,rfl,ht,by lia,by simp;lia,by lia,λr hr=>mJ good hr,λg' can hc=>?_⟩;obtain⟨can1,hc1⟩:=gQ (rs:=rs) good
 obtain⟨can2,hc2⟩:=gQ (rs:=rs.map (tm t dx dy)) λr hr=>by
  obtain⟨r0,hr0,rfl⟩:=aGm.mp hr;exact jO t dx dy (good r0 hr0)
 have:g' =cC (rs.map (tm t dx dy)):=vC can can2 λx y=>by
  obtain⟨x',y',hp⟩:=y4 t dx dy x y;rw[hc,hc2];constructor
  ·rintro⟨r,hr,h⟩;obtain⟨r0,hr0,h0⟩:=(hc1 x' y').mp (jJ.mpr ⟨r,hr,(hp r).mp h⟩);exact⟨_,aGy hr0,(hp r0).mpr h0⟩
  ·rintro⟨r,hr,h⟩;obtain⟨r0,hr0,rfl⟩:=aGm.mp hr;obtain⟨r1,hr1,h1⟩:=jJ.mp ((hc1 x' y').mpr ⟨r0,hr0,(hp r0).mp h⟩);exact⟨r1,hr1,(hp r1).mpr h1⟩
 rw[this];exact q
end LR
namespace LT
open PySem PyProof.Rows L2 D3
open LR
def eY(s:OA):WS:=(aW (bS (iD (bA fL (A9 ["_law_rect"] [] (cY (aB 0)) (gN 0) kJ (bA gV (aB 0) (wC (.int 1)))) (A9 ["_law_rect"] [] (cY (aB 0)) (gN 0) kJ (bA gV (aB 0) (wC (.int 3)))))) (gN 1)) (LR.j4 s))
def fI:OA:=λds mh Q=>∃n rs,∃yy:List Int,ds=[.ref n]/\mh[n]? =some (.lst (rs.map rD))/\rs.length<=1000000/\(∀r∈rs,r.y0∈yy/\r.y1∈yy)/\yy.length<4000/\(∀lo hi,lo<hi->(aQ rs lo hi).length<4000)/\Q (gD (cC rs)) mh
theorem KQ:∀{l:List Int} {i:Nat} {p:P2},l.Pairwise (· < ·)->(l.zip l.tail)[i]? =some p->p.1<p.2
 | [],i,p,_,h=>by simp at h
 | [a],i,p,_,h=>by simp at h
 | a::b::l,0,p,hp,h=>by
  simp at h;subst h;exact(aGx.mp hp).1 b aGf
 | a::b::l,i+1,p,hp,h=>KQ (l:=b::l) (aGx.mp hp).2 (by simpa using h)
theorem JJ(ds:List D)(mh:MH)(R:DK)(ok:kM mh)(hs:fI ds mh R):eY uA (En mh R) (aJ ["_law_rects_here","_law_ys","_law_found","_law_low","_law_high","_law_line_here"] ds) mh:=by
 obtain⟨n,rs,yy,rfl,hn,hr,hyy,hy4,hsh,q⟩:=hs;have sz:=aH1;have hnl:n<mh.length:=iQ hn;simp[eY,aJ];rw[bB hn];simp;refine gJ rD (·.y0) .int rs (bB hn) (λr _ N hN=>by simpa[fW,rD,mX] using hN) ?_;rw[bB (bE hn)];simp only[bY];refine gJ rD (·.y1) .int rs (bB (bE hn)) (λr _ N hN=>by simpa[fW,rD,ZN] using hN) ?_;rw[LP (i:=(rs.map (·.y0)).map .int) (j:=(rs.map (·.y1)).map .int) (by simp) (by simp)];refine⟨by simp;lia,(rs.map (·.y0)++rs.map (·.y1)).map Sum.inl,?_,yy.map Sum.inl,λk hk=>?_,by simpa using hy4,by rw[<-xJ];exact tM _,λks hm nd hkl srt=>?_⟩
 ·rw[EX (eR _ _),<-xJ];simp
 ·obtain⟨y,hy,rfl⟩:=aGm.mp hk;refine aGy ?_;rcases aGh.mp hy with z | z <;> obtain⟨r,hr0,rfl⟩:=aGm.mp z
  ·exact(hyy r hr0).1
  ·exact(hyy r hr0).2
 have ey:ks.map bC=(dF rs).map .int:=HW hm nd srt;rw[ey];have hyl:(dF rs).length<4000:=by have:=aHk List.length ey;simp at this hkl;lia
 have hst:=d9 (rs.map (·.y0)++rs.map (·.y1));change (dF rs).Pairwise _ at hst;generalize hys:dF rs=ys at*;have px:cH mh (((mh++[MO.lst ((rs.map (·.y0)).map .int)])++[MO.lst ((rs.map (·.y1)).map .int)])++[MO.lst (((rs.map (·.y0)).map .int)++((rs.map (·.y1)).map .int))]):=((cH.refl.push _).push _).push _;generalize ((mh++[MO.lst ((rs.map (·.y0)).map .int)])++[MO.lst ((rs.map (·.y1)).map .int)])++[MO.lst (((rs.map (·.y0)).map .int)++((rs.map (·.y1)).map .int))]=M at px⊢;simp[j4,jZ];rw[UA (ds:=ys.map .int) (by simp),xY,<-List.map_tail];have hml:=px.le;have g1:(M++[MO.lst (ys.map .int),.lst []]++[.lst (ys.tail.map .int)])[M.length]? =some (.lst (ys.map .int)):=by simp
 have g2:(M++[MO.lst (ys.map .int),.lst []]++[.lst (ys.tail.map .int)])[M.length+1]? =some (.lst []):=by simp
 have g3:(M++[MO.lst (ys.map .int),.lst []]++[.lst (ys.tail.map .int)])[M.length+2]? =some (.lst (ys.tail.map .int)):=by simp
 have px2:cH mh (M++[MO.lst (ys.map .int),.lst []]++[.lst (ys.tail.map .int)]):=(px.app _).app _;have e3:(M++[MO.lst (ys.map .int),MO.lst []]).length=M.length+2:=by simp
 rw[e3];generalize M++[MO.lst (ys.map .int),.lst []]++[.lst (ys.tail.map .int)]=M2 at g1 g2 g3 px2⊢;rw[bB g1,bB g3];simp only[bY];refine⟨by simp;lia,?_⟩;rw[zip_map];refine b8 (λi ρ mh' =>(∃a b c,ρ=[some (.ref n),some (.ref M.length),some (.ref (M.length+1)),a,b,c])/\cH mh mh' /\mh'[M.length]? =some (.lst (ys.map .int))/\mh'[M.length+2]? =some (.lst (ys.tail.map .int))/\mh'[M.length+1]? =some (.lst ((((ys.zip ys.tail).take i).foldl (aZ rs) []).map bD))) _ ?_ ?_ ?_ ⟨⟨_,_,_,rfl⟩,px2,g1,g3,by simpa using g2⟩
 ·rintro i ρ mh' ⟨_,_,a1,a2,_⟩;exact⟨bB a1,bB a2⟩
 ·rintro i d ρ mh' N hi ⟨⟨a,b,c,rfl⟩,px3,a1,a2,a3⟩ nx;obtain⟨p,hp,rfl⟩:=gE hi;have hil:i<(ys.zip ys.tail).length:=(aGc.mp hp).1;have hfl:=iR rs ((ys.zip ys.tail).take i) [];simp;refine YS px3 (px3.old hn) (hsh _ _ (KQ hst hp)) a3 (by lia) (by simp at hil hfl⊢;lia) λa T px4=>nx _ _ ⟨⟨_,_,_,rfl⟩,px4,get_set (pP a1) (by lia),get_set (pP a2) (by lia),?_⟩;rw[b9 _ (pP a3),take_snoc hp];simp
 ·rintro ρ mh' ⟨⟨a,b,c,rfl⟩,px3,a1,a2,a3⟩;simp only[jY];simp[bG];rw[a3];simp;have e:(ys.zip ys.tail).take (ys.length-1)=ys.zip ys.tail:=aJf (by simp);refine px3.out ok (by simp[dN,pG]) ?_;rw[e];have:cC rs=(ys.zip ys.tail).foldl (aZ rs) []:=by rw[<-hys];rfl
  rw[<-this];exact q
def Apart(a b:R4):Prop:=∀x y,a.has x y->¬b.has x y
theorem J8{T:R4->R4}(hp:vM T){rs:List R4}(h:rs.Pairwise Apart):(rs.map T).Pairwise Apart:=by
 rw[List.pairwise_map];refine h.imp λ{a b} hab x y ha hb=>?_;obtain⟨x',y',e⟩:=hp x y;exact hab x' y' ((e a).mp ha) ((e b).mp hb)
theorem HZ:∀{l:List P2} {lo hi:Int},Sep l->(l.map λs=>(⟨s.1,lo,s.2,hi⟩:R4)).Pairwise Apart:=λ{l lo hi} h=>by
 rw[List.pairwise_map];refine h.2.imp λ{a b} hab x y ha hb=>?_;simp only[R4.has]at ha hb
 lia
theorem yZ{g:List Bd}(can:qU g):(LS.aO g).Pairwise Apart:=by
 have up:=can.up;have sp:=can.sep;clear can
 induction g with
 | nil=>simp[LS.aO]
 | cons b g ih=>
  have c:=aGx.mp up;have:=ih c.2 λd hd=>sp d (aGg _ hd);unfold LS.aO at*;rw[List.flatMap_cons,List.pairwise_append];refine⟨HZ (sp b aGf),this,λr hr r' hr' x y h1 h2=>?_⟩;obtain⟨s,_,rfl⟩:=aGm.mp hr;obtain⟨d,hd,hr'⟩:=aIm.mp hr';obtain⟨s',_,rfl⟩:=aGm.mp hr';have:=c.1 d hd;simp only[R4.has]at h1 h2
  lia
theorem D6{rs:List R4}{xs:List Int}{lo hi:Int}(good:∀r∈rs,Good r)(hx:∀r∈rs,r.x0∈xs)(ap:rs.Pairwise Apart)(hlt:lo<hi):(aQ rs lo hi).length<=xs.length:=by
 have e:(aQ rs lo hi).length=((aQ rs lo hi).map (·.1)).length:=by simp
 rw[e];refine zJ _ _ ?_ ?_
 ·unfold aQ;rw[List.nodup_iff_pairwise_ne,List.pairwise_map,List.pairwise_map];have ap2:=List.Pairwise.filter (λr:R4=>decide (r.y0<=lo) && decide (hi<=r.y1)) ap;refine ap2.imp_of_mem λ{a b} ha hb hab he=>?_;have h1:=aI5.mp ha;have h2:=aI5.mp hb;have g1:=good a h1.1;have g2:=good b h2.1;have p1:=h1.2;have p2:=h2.2;simp only[Bool.and_eq_true,decide_eq_true_eq]at p1 p2;simp only[LR.Good]at g1 g2;have he:a.x0=b.x0:=he;exact hab a.x0 lo ⟨by lia,by lia,by lia,by lia⟩ ⟨by lia,by lia,by lia,by lia⟩
 ·intro x hx';obtain⟨s,hs,rfl⟩:=aGm.mp hx';unfold aQ at hs;obtain⟨r,hr,rfl⟩:=aGm.mp hs;exact hx r (aI5.mp hr).1
theorem EC{mh:MH}{n:Nat}{rs:List R4}{Q:DK}(xs ys:List Int)(hn:mh[n]? =some (.lst (rs.map rD)))(hl:rs.length<=1000000)(hx:xs.length<4000)(hy:ys.length<4000)(good:∀r∈rs,Good r)(num:∀r∈rs,Nums xs ys r)(ap:rs.Pairwise Apart)
  (q:Q (gD (cC rs)) mh):fI [.ref n] mh Q:=
 ⟨n,rs,ys,rfl,hn,hl,λr h=>⟨(num r h).2.2.1,(num r h).2.2.2⟩,hy,λlo hi h=>aK1 (D6 good (λr h=>(num r h).1) ap h) hx,q⟩
end LT
namespace K10
open PySem PyProof.Rows L2 D3
def top(i:Nat):Stmt:=PySem.Challenge.pw_maskwright_k10_regions_turned.main.body.getD i (.Pass ⟨0,0,0,0⟩)
set_option hygiene false
local macro_rules | `(tactic| walk_at "t")=>`(tactic| repeat' first | ((with_reducible show jV _ _ (gN _));exact zW _) | ((with_reducible show jV _ _ _);refine' YW ?_) | ((with_reducible show yK _ _ (aH _ _));refine' N8 ?_ ?_) | ((with_reducible show yK _ _ _);exact SY) | exact JK (by decide) | exact FC | refine' N9 ?_ | refine' JL ?_ ?_ ?_ ?_ | exact OB | refine' gmono_tup ?_ | refine' FD ?_ ?_ | exact JO | exact OD (by decide) (by decide) | refine' S0 ?_ | refine' OE ?_ ?_ ?_ ?_ | exact S1)
local macro_rules | `(tactic| walk_at "g")=>`(tactic| first | ((with_reducible show List.Nodup _);assumption) | ((with_reducible show LA _ _ _);first | ((with_reducible show LA _ (_::_) _);refine' aFm ?_ ?_) | ((with_reducible show LA _ [] _);exact YA)) | ((with_reducible show LE _ _ _);first | ((with_reducible show LE _ _ (A9 _ _ _ _ _ _));refine' X3 _ _ ?a ?b ?r ?s ?_ ?g ?u ?v;(case a=>decide+kernel);(case b=>decide+kernel);(case r=>walk_at "t");(case s=>walk_at "t");(case g=>intro _ _ _ _ _ _;repeat' walk_at "g");(case u=>intro _ _ _ _ _;repeat' walk_at "g");(case v=>intro _ _ _ _ _;repeat' walk_at "g")) | ((with_reducible show LE _ _ (HU _ _ _ _ _ _ _ _ _));refine' SE (o1:=3) _ _ ?a ?b ?r ?s ?c ?t ?e ?_ ?g ?u ?v ?w ?x ?y;(case a=>decide+kernel);(case b=>decide+kernel);(case r=>walk_at "t");(case s=>walk_at "t");(case c=>decide);(case t=>walk_at "t");(case e=>walk_at "t");(case g=>intro _ _ _ _ _ _;repeat' walk_at "g");(case u=>intro _ _ _ _ _;repeat' walk_at "g");(case v=>intro _ _ _ _ _;repeat' walk_at "g");(case w=>intro _ _ _ _ _ _;repeat' walk_at "g");(case x=>intro _ _ _ _ _;repeat' walk_at "g");(case y=>intro _ _ _ _ _;repeat' walk_at "g")) | ((with_reducible show LE _ (.Name _ _) (aB _));exact XX _) | ((with_reducible show LE _ (.Constant (.int _) _ _) _);exact le_int) | ((with_reducible show LE _ (.BinOp _ _ _ _) _);refine' aC5 ?_ ?_ ?_) | ((with_reducible show LE _ _ (bA gV _ _));refine' UK ?a ?_ ?_ ?b;(case a=>exact ixl);(case b=>exact λ_ _=>rfl)) | ((with_reducible show LE _ (.Tuple _ _ _) _);refine' XY ?_) | ((with_reducible show LE _ (.UnaryOp .USub _ _) _);refine' aC3 ?_ ?_) | ((with_reducible show LE _ (.List _ _) _);refine' X2 ?_) | ((with_reducible show LE _ (.Call (.Name "len" _) _ _ _) _);refine' E2 ?a ?b ?c ?_;(case a=>exact Y6);(case b=>exact B.len);(case c=>exact ZG)) | ((with_reducible show LE _ (.Call (.Name "isinstance" _) _ _ _) _);refine' E2 ?a ?b ?c ?_;(case a=>exact Y7);(case b=>exact B.isinstance);(case c=>exact wG)) | ((with_reducible show LE _ _ (GC _ dD _ _));refine' UL ?a ?b ?c ?d ?_ ?_;(case a=>exact PySem.F.plainAttrs_list);(case b=>exact PySem.F.slot_list_append);(case c=>exact PySem.F.type_list_append);(case d=>exact IV)) | ((with_reducible show LE _ (.Compare _ [_] [_] _) _);refine' X5 ?_ ?_ ?_ ?a;(case a=>exact aBv _)) | ((with_reducible show LE _ (.Constant (.bool _) _ _) _);exact aCc) | ((with_reducible show LE _ (.Call (.Name "tuple" _) _ _ _) _);refine' aFl ?a ?b ?c ?_;(case a=>exact OY);(case b=>exact B.tuple);(case c=>exact vG)) | ((with_reducible show LE _ _ (bA MM _ _));refine' UK ?a ?_ ?_ ?b;(case a=>exact ixD hr.units);(case b=>exact λ_ _=>rfl)) | ((with_reducible show LE _ (.Call (.Name "min" _) _ _ _) _);refine' E2 ?a ?b ?c ?_;(case a=>exact S8 rfl);(case b=>exact B.min);(case c=>exact ZD)) | ((with_reducible show LE _ (.Name "tuple" _) (wC _));refine' B9 ?a ?b;(case a=>exact B.tuple);(case b=>exact vG)) | ((with_reducible show LE _ (.Name "list" _) (wC _));refine' B9 ?a ?b;(case a=>exact B.list);(case b=>exact HK)) | ((with_reducible show LE _ (.BoolOp .And (_::_::_) _) _);refine' X6 ?_ ?_) | ((with_reducible show LE _ _ (K3 _ _ _ _));refine' XZ ?_ ?_ ?_ ?_) | ((with_reducible show LE _ (.Call (.Name "sorted" _) _ _ _) _);refine' E2 ?a ?b ?c ?_;(case a=>exact FP hr.units rfl);(case b=>exact B.sorted);(case c=>exact qP)) | ((with_reducible show LE _ _ (K6 false));exact SH) | ((with_reducible show LE _ _ (wL _ _ _));refine' SG ?_ ?_ ?_) | ((with_reducible show LE _ _ (wSl Z4 _ _ _));refine' ND ?a ?_ ?_ ?_;(case a=>exact sll)) | ((with_reducible show LE _ (.Call (.Name "max" _) _ _ _) _);refine' E2 ?a ?b ?c ?_;(case a=>exact S9 rfl);(case b=>exact B.max);(case c=>exact ZE)) | ((with_reducible show LE _ (.Name "str" _) (wC _));refine' B9 ?a ?b;(case a=>exact B.str);(case b=>exact Y9)) | ((with_reducible show LE _ (.BoolOp _ [_] _) _);refine' X0 ?_) | ((with_reducible show LE _ _ (wTZ 2 _));refine' aC4 ?a ?b ?c ?d ?e ?_;(case a=>exact TZ);(case b=>exact show 0<2/\2<=1000 by decide);(case c=>exact rfl);(case d=>exact B.tuple);(case e=>exact B.zip)) | ((with_reducible show LE _ _ (GD _ _ _));refine' SI ?a ?_ ?_ ?_;(case a=>exact hr.units)) | ((with_reducible show LE _ _ (wLZ 3 _));refine' aC6 ?a ?b ?c ?d ?e ?_;(case a=>exact aA5);(case b=>exact show 0<3/\3<=1000 by decide);(case c=>exact rfl);(case d=>exact B.list);(case e=>exact B.zip)) | ((with_reducible show LE _ _ (aG (dfl _ _) _));refine' NH ?a ?b ?_;(case a=>assumption);(case b=>exact hr)) | ((with_reducible show LE _ (.Call (.Name "abs" _) _ _ _) _);refine' E2 ?a ?b ?c ?_;(case a=>exact Y8);(case b=>exact B.abs);(case c=>exact ZI)) | ((with_reducible show LE _ (.IfExp _ _ _ _) _);refine' NF ?_ ?_ ?_) | ((with_reducible show LE _ (.Call (.Name "sorted" _) _ _ _) _);refine' E2 ?a ?b ?c ?_;(case a=>exact JZ hr.units);(case b=>exact B.sorted);(case c=>exact qP)) | ((with_reducible show LE _ _ (iD _));refine' vU ?a ?b ?c ?d ?_;(case a=>exact hr.units);(case b=>exact rfl);(case c=>exact B.set);(case d=>exact B.sorted)) | ((with_reducible show LE _ (.Name "int" _) (wC _));refine' B9 ?a ?b;(case a=>exact B.int);(case b=>exact ZH)) | ((with_reducible show LE _ (.Name "bool" _) (wC _));refine' B9 ?a ?b;(case a=>exact B.bool);(case b=>exact TC)) | ((with_reducible show LE _ (.UnaryOp .Not _ _) _);refine' X1 ?_) | ((with_reducible show LE _ _ (GC _ uO _ _));refine' UL ?a ?b ?c ?d ?_ ?_;(case a=>exact PySem.F.plainAttrs_list);(case b=>exact aJ5);(case c=>exact PySem.F.type_list_extend);(case d=>exact ES)) | ((with_reducible show LE _ (.Call (.Name _ _) _ _ _) (aG _ _));refine' aCa ?a ?b ?_;(case a=>assumption);(case b=>exact hr)) | ((with_reducible show LE _ (.Name _ _) (wC _));refine' aC8 ?a;(case a=>assumption))) | ((with_reducible show LS _ _ _);first | ((with_reducible show LS _ (.Assign [.Name _ _] (.ListComp _ _ _ _) _) _);refine' IW _ _ ?a ?b ?r ?s ?n ?_ ?g ?u ?v;(case a=>decide+kernel);(case b=>decide+kernel);(case r=>walk_at "t");(case s=>walk_at "t");(case n=>assumption);(case g=>intro _ _ _ _ _ _;repeat' walk_at "g");(case u=>intro _ _ _ _ _;repeat' walk_at "g");(case v=>intro _ _ _ _ _;repeat' walk_at "g")) | ((with_reducible show LS _ (.Return (some _) _) _);refine' XN ?_) | ((with_reducible show LS _ (.If _ _ _ _) _);refine' aBy ?_ ?_ ?_) | ((with_reducible show LS _ (.For _ _ _ _ _) _);refine' XS ?a ?b ?_ ?_ ?r ?_;(case a=>exact PassesOwn.never);(case b=>exact rfl);(case r=>walk_at "t")) | ((with_reducible show LS _ (.Expr _ _) _);refine' aFg ?_) | ((with_reducible show LS _ (.Assign [.Tuple _ _ _] (.Tuple _ _ _) _) _);refine' XO _ _ ?a ?b ?_;(case a=>exact rfl);(case b=>assumption)) | ((with_reducible show LS _ (.Continue _) _);exact B5) | ((with_reducible show LS _ (.Delete _ _) _);refine' RX ?_ ?_) | ((with_reducible show LS _ (.AugAssign _ _ _ _) _);refine' XT _ ?a ?b ?_;(case a=>assumption);(case b=>exact RG)) | ((with_reducible show LS _ (.While _ _ _ _) _);refine' M9 ?a ?_ ?_;(case a=>exact PassesOwn.never)) | ((with_reducible show LS _ (.Assign [.Name _ _] _ _) _);refine' aFf _ ?_ ?_) | ((with_reducible show LS _ (.Assign [.Subscript _ _ _] _ _) _);refine' RU ?_ ?_ ?_) | ((with_reducible show LS _ (.Assign [.Tuple _ _ _] _ _) _);refine' XU ?_ ?_ ?r;(case r=>walk_at "t")) | ((with_reducible show LS _ (.Assign [.Subscript _ _ _] _ _) _);refine' RV ?a ?_ ?_ ?_;(case a=>exact hr.units))) | ((with_reducible show LI _ _ _ _);first | ((with_reducible show LI _ _ _ (kA _));refine' IY ?a ?b ?_;(case a=>exact rfl);(case b=>exact B.range)) | ((with_reducible show LI _ _ _ (A8 _));refine' SA ?a ?b ?_;(case a=>exact rfl);(case b=>exact B.zip)) | ((with_reducible show LI _ _ _ (cY _));refine' XW ?_)) | ((with_reducible show PG _ _ _);first | ((with_reducible show PG _ (.Name _ _) _);exact PZ _ (by assumption)) | ((with_reducible show PG _ (.Tuple _ _ _) _);refine' V5 rfl ?_)) | ((with_reducible show ZT _ _ _);first | ((with_reducible show ZT _ (_::_) _);refine' MD ?_ ?_) | ((with_reducible show ZT _ [] _);exact Q3)) | ((with_reducible show LT _ _ _);first | ((with_reducible show LT _ (.Compare _ [_] [_] _) _);refine' XI ?_ ?_ ?_ ?a;(case a=>exact aBv _)) | ((with_reducible show LT _ (.UnaryOp .Not _ _) _);refine' XH ?_) | ((with_reducible show LT _ (.BoolOp .And _ _) _);refine' LW.lt (M6 ?_ ?_)) | ((with_reducible show LT _ (.BoolOp .Or _ _) _);refine' LW.lt (aBx ?_ ?_)) | ((with_reducible show LT _ _ _);refine' M7 ?_)) | ((with_reducible show mC _ _ _);first | ((with_reducible show mC _ [_] _);refine' XQ ?_) | ((with_reducible show mC _ [] _);exact XR) | ((with_reducible show mC _ (_::_) _);refine' RY ?_ ?_)) | ((with_reducible show d8 _ _ _);first | ((with_reducible show d8 _ _ (bP _ fL));exact W6) | ((with_reducible show d8 _ _ (bP _ oEq));exact aBu hr.units) | ((with_reducible show d8 _ _ (bP _ pH));exact WZ) | ((with_reducible show d8 _ _ (bP _ oMod));exact W4) | ((with_reducible show d8 _ _ (bP _ O9));exact aBs hr.units) | ((with_reducible show d8 _ _ (bP _ zD));exact WX) | ((with_reducible show d8 _ _ (bP _ oLt));exact aBq hr.units) | ((with_reducible show d8 _ _ (bP _ O8));exact aBp hr.units) | ((with_reducible show d8 _ _ (bP _ ML));exact WY) | ((with_reducible show d8 _ _ (bP _ RJ));exact W5) | ((with_reducible show d8 _ _ (bP _ GU));exact RH) | ((with_reducible show d8 _ _ (bP _ oLe));exact aBr hr.units) | ((with_reducible show d8 _ _ (bP _ oGe));exact aBt hr.units)) | ((with_reducible show UnR _ _ _);exact U9) | ((with_reducible show LW _ _ _);first | ((with_reducible show LW _ (.BoolOp .And [_] _) _);refine' RQ ?_) | ((with_reducible show LW _ (.BoolOp .And _ _) _);refine' M6 ?_ ?_) | ((with_reducible show LW _ (.BoolOp .Or [_] _) _);refine' XF ?_)) | ((with_reducible show LO _ _ _);first | ((with_reducible show LO _ none _);exact R0) | ((with_reducible show LO _ (some _) _);refine' RZ ?_)) | ((with_reducible show KG _ _ _);first | ((with_reducible show KG _ [] _);exact RT) | ((with_reducible show KG _ [_] _);refine' RS ?_)))
set_option hygiene true
section
variable {P:Program}{w:World}{K:aKd}{mg:aKg}{base:Heap}{k:Nat}
abbrev i5:Stmt:=top 1
theorem w4:aU ["bands","kept","y0","y1","stretches"] ["bands"] (aC i5):=⟨rfl,rfl,rfl,by decide+kernel,rfl,by decide+kernel,by decide+kernel⟩
theorem NO(B:Bl mg):vN P w K mg base k "joined" ["bands","kept","y0","y1","stretches"] i5 (LR.oN):=by
 intro f cdv A outer s H E hr;have nd:=w4.nd;show mC _ (_::_) _
 repeat' walk_at "g"
abbrev i4:Stmt:=top 2
theorem wZ:aU ["edges"] ["edges"] (aC i4):=⟨rfl,rfl,rfl,by decide+kernel,rfl,by decide+kernel,by decide+kernel⟩
theorem NM(B:Bl mg):vN P w K mg base k "paired" ["edges"] i4 (LR.oM):=by
 intro f cdv A outer s H E hr;have nd:=wZ.nd;show mC _ (_::_) _
 repeat' walk_at "g"
abbrev eA:Stmt:=top 3
theorem oZ:aU ["steps","stretches","more","x0","x1","x","change"] ["steps","stretches","more"] (aC eA):=⟨rfl,rfl,rfl,by decide+kernel,rfl,by decide+kernel,by decide+kernel⟩
theorem CB(B:Bl mg):vN P w K mg base k "add_steps" ["steps","stretches","more","x0","x1","x","change"] eA (LR.hX):=by
 intro f cdv A outer s H E hr;have nd:=oZ.nd;show mC _ (_::_) _
 repeat' walk_at "g"
abbrev gP:Stmt:=top 4
theorem t8:aU ["steps","least","edges","deep","x","ahead"] ["steps","least"] (aC gP):=⟨rfl,rfl,rfl,by decide+kernel,rfl,by decide+kernel,by decide+kernel⟩
theorem JB(B:Bl mg){s0:OA}(CS:Fn P w K mg base k "paired" ["edges"] s0):vN P w K mg base k "covered" ["steps","least","edges","deep","x","ahead"] gP (LR.mF s0):=by
 intro f cdv A outer s H E hr;have nd:=t8.nd;show mC _ (_::_) _
 repeat' walk_at "g"
abbrev gO:Stmt:=top 5
theorem tZ:aU ["bands","least","changes","y0","y1","stretches","cuts","steps","rows","y","more"] ["bands","least"] (aC gO):=⟨rfl,rfl,rfl,by decide+kernel,rfl,by decide+kernel,by decide+kernel⟩
theorem JA(B:Bl mg){s0:OA}(rS:Fn P w K mg base k "add_steps" ["steps","stretches","more"] s0){s1:OA}(xW:Fn P w K mg base k "covered" ["steps","least"] s1){s2:OA}(CT:Fn P w K mg base k "joined" ["bands"] s2):vN P w K mg base k "stacked" ["bands","least","changes","y0","y1","stretches","cuts","steps","rows","y","more"] gO (LR.mE s0 s1 s2):=by
 intro f cdv A outer s H E hr;have nd:=tZ.nd;show mC _ (_::_) _
 repeat' walk_at "g"
abbrev fF:Stmt:=top 6
theorem rK:aU ["region"] ["region"] (aC fF):=⟨rfl,rfl,rfl,by decide+kernel,rfl,by decide+kernel,by decide+kernel⟩
theorem E3(B:Bl mg):vN P w K mg base k "rects_of" ["region"] fF (LS.jB):=by
 intro f cdv A outer s H E hr;have nd:=rK.nd;show mC _ (_::_) _
 repeat' walk_at "g"
abbrev cZ:Stmt:=top 10
theorem lH:aU ["rect","turn","dx","dy","x0","y0","x1","y1","quarter"] ["rect","turn","dx","dy"] (aC cZ):=⟨rfl,rfl,rfl,by decide+kernel,rfl,by decide+kernel,by decide+kernel⟩
theorem vV(B:Bl mg)(DH:yL K mg "MIRROR" (.int 4))(vF:yL K mg "QUARTERS" (.int 3)):vN P w K mg base k "turned_rect" ["rect","turn","dx","dy","x0","y0","x1","y1","quarter"] cZ (LR.eX):=by
 intro f cdv A outer s H E hr;have nd:=lH.nd;show mC _ (_::_) _
 repeat' walk_at "g"
abbrev i3:Stmt:=top 11
theorem wY:aU ["region","turn","dx","dy","rects"] ["region","turn","dx","dy"] (aC i3):=⟨rfl,rfl,rfl,by decide+kernel,rfl,by decide+kernel,by decide+kernel⟩
theorem NL(B:Bl mg){s0:OA}(uY:Fn P w K mg base k "rects_of" ["region"] s0){s1:OA}(nN:Fn P w K mg base k "turned_rect" ["rect","turn","dx","dy"] s1){s2:OA}(xV:ZU P w K mg base k "stacked" ["bands","least"] 1 s2):vN P w K mg base k "turned" ["region","turn","dx","dy","rects"] i3 (LR.oI s0 s1 s2):=by
 intro f cdv A outer s H E hr;have nd:=wY.nd;show mC _ (_::_) _
 repeat' walk_at "g"
abbrev fG:Stmt:=top 13
theorem rL:aU ["_law_script","_law_at","_law_cell","_law_mix","_law_k"] ["_law_script","_law_at"] (aC fG):=⟨rfl,rfl,rfl,by decide+kernel,rfl,by decide+kernel,by decide+kernel⟩
def nD:WS:=(bS (bA oMod (bA ML (bA fL (bA fL (bA pH (aB 3) (wC (.int 48271))) (bA oMod (bA gV (aB 0) (aB 4)) (wC (.int 2147483647)))) (bA pH (aB 4) (aB 4))) (wC (.int 5))) (wC (.int 2147483629))) (gN 3))
def oP:WS:=(dW (nW (aA (aB 2) (aA (aB 3) aF))))
def jC:WS:=(aW (gC (dU (bA oLt (aB 2) (bA ML (wC (.int 10)) (wC (.int 18))))) (bS (wC (.int 0)) (gN 2)) dI) (oP))
def oQ:WS:=(aW (jF (kA (aA (aG yJ (aA (aG gH (aA (aB 0) aF)) (aA (wC (.int 60)) aF))) aF)) (gN 4) (nD)) (jC))
def jD:WS:=(aW (bS (bA fL (bA fL (bA pH (bA pH (wC (.int 7919)) (aB 1)) (aB 1)) (bA pH (wC (.int 104729)) (aB 1))) (wC (.int 17))) (gN 3)) (oQ))
def oR:WS:=(aW (gC (dU (bA oLt (aB 1) (aG gH (aA (aB 0) aF)))) (bS (aG TM (aA (bA gV (aB 0) (aB 1)) aF)) (gN 2)) dI) (jD))
def jE:WS:=(aW (bS (wC (.int 0)) (gN 2)) (oR))
theorem E4(B:Bl mg):vN P w K mg base k "_law_bag" ["_law_script","_law_at","_law_cell","_law_mix","_law_k"] fG (jE):=by
 intro f cdv A outer s H E hr;have nd:=rL.nd;show mC _ (_::_) _
 repeat' walk_at "g"
abbrev eB:Stmt:=top 14
theorem o7:aU ["_law_bag_here","_law_many","_law_digit","_law_number_here","_law_room"] ["_law_bag_here","_law_many"] (aC eB):=⟨rfl,rfl,rfl,by decide+kernel,rfl,by decide+kernel,by decide+kernel⟩
def iY:WS:=(bS (bA pH (aB 4) (wC (.int 1073741789))) (gN 4))
def iZ:WS:=(aW (bS (bA fL (bA pH (aB 3) (wC (.int 1073741789))) (bA oMod (bA pH (bA GU (bA gV (aB 0) (wC (.int 1))) (wC (.int 8))) (wC (.int 69621))) (wC (.int 1073741789)))) (gN 3)) (iY))
def kS:WS:=(aW (tF (bA oMod (bA ML (bA fL (bA pH (bA gV (aB 0) (wC (.int 1))) (wC (.int 48271))) (wC (.int 7919))) (wC (.int 3))) (wC (.int 2147483629))) (aB 0) (wC (.int 1))) (iZ))
def iL:WS:=(dW (bA oMod (aB 3) (aB 1)))
def m5:WS:=(aW (DW (dU (bA oLt (aB 4) (aB 1))) (kS)) (iL))
def m6:WS:=(aW (bS (wC (.int 1)) (gN 4)) (m5))
def m7:WS:=(aW (bS (wC (.int 0)) (gN 3)) (m6))
def hZ:WS:=(aW (gC (dU (bA O9 (bA gV (aB 0) (wC (.int 0))) (wC (.int 0)))) (aW (bS (bA oMod (bA gV (aB 0) (wC (.int 0))) (aB 1)) (gN 2)) (aW (tF (bA GU (bA gV (aB 0) (wC (.int 0))) (aB 1)) (aB 0) (wC (.int 0))) (dW (aB 2)))) dI) (m7))
theorem CC(B:Bl mg):vN P w K mg base k "_law_take" ["_law_bag_here","_law_many","_law_digit","_law_number_here","_law_room"] eB (hZ):=by
 intro f cdv A outer s H E hr;have nd:=o7.nd;show mC _ (_::_) _
 repeat' walk_at "g"
abbrev c7:Stmt:=top 15
theorem lJ:aU ["_law_bag_here","_law_sort","_law_some"] ["_law_bag_here","_law_sort","_law_some"] (aC c7):=⟨rfl,rfl,rfl,by decide+kernel,rfl,by decide+kernel,by decide+kernel⟩
theorem vX(B:Bl mg){s0:OA}(d4:Fn P w K mg base k "_law_take" ["_law_bag_here","_law_many"] s0):vN P w K mg base k "_law_number" ["_law_bag_here","_law_sort","_law_some"] c7 (LR.eZ s0):=by
 intro f cdv A outer s H E hr;have nd:=lJ.nd;show mC _ (_::_) _
 repeat' walk_at "g"
abbrev eC:Stmt:=top 16
theorem o8:aU ["_law_bag_here","_law_sort","_law_some","_law_one","_law_other"] ["_law_bag_here","_law_sort","_law_some"] (aC eC):=⟨rfl,rfl,rfl,by decide+kernel,rfl,by decide+kernel,by decide+kernel⟩
theorem CD(B:Bl mg){s0:OA}(nP:Fn P w K mg base k "_law_number" ["_law_bag_here","_law_sort","_law_some"] s0):vN P w K mg base k "_law_side" ["_law_bag_here","_law_sort","_law_some","_law_one","_law_other"] eC (LR.h9 s0):=by
 intro f cdv A outer s H E hr;have nd:=o8.nd;show mC _ (_::_) _
 repeat' walk_at "g"
abbrev dJ:Stmt:=top 17
theorem nE:aU ["_law_bag_here","_law_most","_law_sort","_law_many","_law_some","_law_found","_law_k","_law_left","_law_right","_law_low","_law_high"] ["_law_bag_here","_law_most"] (aC dJ):=⟨rfl,rfl,rfl,by decide+kernel,rfl,by decide+kernel,by decide+kernel⟩
theorem zO(B:Bl mg){s0:OA}(d4:Fn P w K mg base k "_law_take" ["_law_bag_here","_law_many"] s0){s1:OA}(rT:Fn P w K mg base k "_law_side" ["_law_bag_here","_law_sort","_law_some"] s1):vN P w K mg base k "_law_rects" ["_law_bag_here","_law_most","_law_sort","_law_many","_law_some","_law_found","_law_k","_law_left","_law_right","_law_low","_law_high"] dJ (LR.gA s0 s1):=by
 intro f cdv A outer s H E hr;have nd:=nE.nd;show mC _ (_::_) _
 repeat' walk_at "g"
abbrev eE:Stmt:=top 18
theorem pA:aU ["_law_shreds","_law_found","_law_start","_law_end"] ["_law_shreds"] (aC eE):=⟨rfl,rfl,rfl,by decide+kernel,rfl,by decide+kernel,by decide+kernel⟩
theorem CG(B:Bl mg):vN P w K mg base k "_law_line" ["_law_shreds","_law_found","_law_start","_law_end"] eE (LR.iC):=by
 intro f cdv A outer s H E hr;have nd:=pA.nd;show mC _ (_::_) _
 repeat' walk_at "g"
abbrev c6:Stmt:=top 19
theorem lI:aU ["_law_rects_here","_law_ys","_law_found","_law_low","_law_high","_law_line_here"] ["_law_rects_here"] (aC c6):=⟨rfl,rfl,rfl,by decide+kernel,rfl,by decide+kernel,by decide+kernel⟩
theorem vW(B:Bl mg){s0:OA}(rV:Fn P w K mg base k "_law_line" ["_law_shreds"] s0):vN P w K mg base k "_law_region" ["_law_rects_here","_law_ys","_law_found","_law_low","_law_high","_law_line_here"] c6 (LT.eY s0):=by
 intro f cdv A outer s H E hr;have nd:=lI.nd;show mC _ (_::_) _
 repeat' walk_at "g"
abbrev eD:Stmt:=top 20
theorem o9:aU ["_law_found","_law_due"] ["_law_found","_law_due"] (aC eD):=⟨rfl,rfl,rfl,by decide+kernel,rfl,by decide+kernel,by decide+kernel⟩
theorem CF(B:Bl mg){s0:OA}(iI:Fn P w K mg base k "_law_same" ["_law_found","_law_due"] s0):vN P w K mg base k "_law_same" ["_law_found","_law_due"] eD (LS.cX s0):=by
 intro f cdv A outer s H E hr;have nd:=o9.nd;show mC _ (_::_) _
 repeat' walk_at "g"
abbrev dM:Stmt:=top 21
theorem nF:aU ["_law_some","_law_found","_law_low","_law_high","_law_line_here"] ["_law_some"] (aC dM):=⟨rfl,rfl,rfl,by decide+kernel,rfl,by decide+kernel,by decide+kernel⟩
theorem zP(B:Bl mg):vN P w K mg base k "_law_lined" ["_law_some","_law_found","_law_low","_law_high","_law_line_here"] dM (LS.gB):=by
 intro f cdv A outer s H E hr;have nd:=nF.nd;show mC _ (_::_) _
 repeat' walk_at "g"
abbrev bX:Stmt:=top 22
theorem fZ:aU ["_law_rect","_law_turn","_law_dx","_law_dy","_law_x0","_law_y0","_law_x1","_law_y1","_law_k"] ["_law_rect","_law_turn","_law_dx","_law_dy"] (aC bX):=⟨rfl,rfl,rfl,by decide+kernel,rfl,by decide+kernel,by decide+kernel⟩
def eM:WS:=(bS (dH (aA (rE fK (aB 7)) (aA (aB 4) (aA (rE fK (aB 5)) (aA (aB 6) aF))))) (gT 4 (aH (gN 4) (aH (gN 5) (aH (gN 6) (aH (gN 7) cR))))))
def fD:WS:=(dW (dH (aA (bA fL (aB 4) (aB 2)) (aA (bA fL (aB 5) (aB 3)) (aA (bA fL (aB 6) (aB 2)) (aA (bA fL (aB 7) (aB 3)) aF))))))
def cW:WS:=(aW (jF (kA (aA (bA oMod (aB 1) (wC (.int 4))) aF)) (gN 8) (eM)) (fD))
def fE:WS:=(aW (gC (dU (bA O9 (aB 1) (wC (.int 3)))) (bS (dH (aA (rE fK (aB 6)) (aA (rE fK (aB 4)) aF))) (gT 2 (aH (gN 4) (aH (gN 6) cR)))) dI) (cW))
def cK:WS:=(aW (bS (aB 0) (gT 4 (aH (gN 4) (aH (gN 5) (aH (gN 6) (aH (gN 7) cR)))))) (fE))
theorem n5(B:Bl mg):vN P w K mg base k "_law_turned_rect" ["_law_rect","_law_turn","_law_dx","_law_dy","_law_x0","_law_y0","_law_x1","_law_y1","_law_k"] bX (cK):=by
 intro f cdv A outer s H E hr;have nd:=fZ.nd;show mC _ (_::_) _
 repeat' walk_at "g"
abbrev tQ:Stmt:=top 23
theorem LK:aU ["_law_script","_law_at","_law_bag_here","_law_still","_law_dx","_law_dy","_law_some","_law_turn","_law_due"] ["_law_script"] (aC tQ):=⟨rfl,rfl,rfl,by decide+kernel,rfl,by decide+kernel,by decide+kernel⟩
def sU(s0 s1 s2 s3 s4 s5 s6 s7:OA):WS:=(gC (K5 (tG (r8 (aG s6 (aA (aG s7 (aA (aB 6) (aA (aB 7) (aA (aB 4) (aA (aB 5) aF))))) (aA (aB 8) aF))))) (tG (r8 (aG s6 (aA (aG s7 (aA (aB 6) (aA (aB 7) (aA (aB 4) (aA (aB 5) aF))))) (aA (aB 8) aF)))))) (dW (wC (.bl false))) dI)
def sV(s0 s1 s2 s3 s4 s5 s6 s7:OA):WS:=(aW (bS (aG s2 (aA (A9 ["_law_rect"] [7,4,5] (cY (aG s4 (aA (aB 6) aF))) (gN 0) kJ (aG s5 (aA (aB 0) (aA (aB 1) (aA (aB 2) (aA (aB 3) aF)))))) aF)) (gN 8)) (sU s0 s1 s2 s3 s4 s5 s6 s7))
def sW(s0 s1 s2 s3 s4 s5 s6 s7:OA):WS:=(jF (kA (aA (wC (.int 8)) aF)) (gN 7) (sV s0 s1 s2 s3 s4 s5 s6 s7))
def sX(s0 s1 s2 s3 s4 s5 s6 s7:OA):WS:=(aW (bS (aG s2 (aA (aG s3 (aA (aB 2) (aA (wC (.int 60)) aF))) aF)) (gN 6)) (sW s0 s1 s2 s3 s4 s5 s6 s7))
def sY(s0 s1 s2 s3 s4 s5 s6 s7:OA):WS:=(aW (bS (bA pH (bA zD (aG s1 (aA (aB 2) (aA (wC (.int 1048577)) aF))) (wC (.int 524288))) (aB 3)) (gN 5)) (sX s0 s1 s2 s3 s4 s5 s6 s7))
def sZ(s0 s1 s2 s3 s4 s5 s6 s7:OA):WS:=(aW (bS (bA pH (bA zD (aG s1 (aA (aB 2) (aA (wC (.int 1048577)) aF))) (wC (.int 524288))) (aB 3)) (gN 4)) (sY s0 s1 s2 s3 s4 s5 s6 s7))
def tB(s0 s1 s2 s3 s4 s5 s6 s7:OA):WS:=(aW (bS (aG s1 (aA (aB 2) (aA (wC (.int 2)) aF))) (gN 3)) (sZ s0 s1 s2 s3 s4 s5 s6 s7))
def A7(s0 s1 s2 s3 s4 s5 s6 s7:OA):WS:=(aW (bS (aG s0 (aA (aB 0) (aA (aB 1) aF))) (gN 2)) (tB s0 s1 s2 s3 s4 s5 s6 s7))
def F9(s0 s1 s2 s3 s4 s5 s6 s7:OA):WS:=(dW (wC (.bl true)))
def GA(s0 s1 s2 s3 s4 s5 s6 s7:OA):WS:=(aW (jF (kA (aA (aG DO (aA (wC (.int 1)) (aA (aG yJ (aA (wC (.int 3)) (aA (aG gH (aA (aB 0) aF)) aF))) aF))) aF)) (gN 1) (A7 s0 s1 s2 s3 s4 s5 s6 s7)) (F9 s0 s1 s2 s3 s4 s5 s6 s7))
theorem aCd(B:Bl mg){s0:OA}(uZ:Fn P w K mg base k "_law_bag" ["_law_script","_law_at"] s0){s1:OA}(d4:Fn P w K mg base k "_law_take" ["_law_bag_here","_law_many"] s1){s2:OA}(nO:Fn P w K mg base k "_law_region" ["_law_rects_here"] s2){s3:OA}(pT:Fn P w K mg base k "_law_rects" ["_law_bag_here","_law_most"] s3){s4:OA}(pU:Fn P w K mg base k "_law_lined" ["_law_some"] s4){s5:OA}(gY:Fn P w K mg base k "_law_turned_rect" ["_law_rect","_law_turn","_law_dx","_law_dy"] s5){s6:OA}(iI:Fn P w K mg base k "_law_same" ["_law_found","_law_due"] s6){s7:OA}(CQ:Fn P w K mg base k "turned" ["region","turn","dx","dy"] s7):vN P w K mg base k "law" ["_law_script","_law_at","_law_bag_here","_law_still","_law_dx","_law_dy","_law_some","_law_turn","_law_due"] tQ (GA s0 s1 s2 s3 s4 s5 s6 s7):=by
 intro f cdv A outer s H E hr;have nd:=LK.nd;show mC _ (_::_) _
 repeat' walk_at "g"
end
theorem aCf:E5 2 0=some 0:=by decide
theorem aCe:E5 2 1=some 1:=by decide
theorem mX(d e:D)(ds:List D):nR (d::e::ds) 1=some e:=by
 have:=iK (xs:=d::e::ds) (j:=1) (v:=e) rfl;simpa using this
theorem pZ{i j:Int}(h1: -18446744073709551616<j)(h2:j<18446744073709551616):KL i j:= .inr ⟨h1,h2⟩
theorem UU{i j:Int}(h1: -18446744073709551616<i)(h2:i<18446744073709551616):KL i j:= .inl ⟨h1,h2⟩
theorem Y5{i:Int}{j:Int}(h0:0<=j)(h1:j<=1000000)(h2: -18446744073709551616<i)(h3:i<18446744073709551616):ZW i j:=⟨h0,h1,by lia⟩
abbrev En(mh:MH)(R:DK):eO:={nx:=λ_ mh1=>Out mh.length .b6 mh1 R,rt:=λd mh1=>Out mh.length d mh1 R}
theorem YO(ds:List D)(mh:MH)(R:DK)(ok:kM mh)(hs:lL ds mh R):hZ (En mh R) (aJ ["_law_bag_here","_law_many","_law_digit","_law_number_here","_law_room"] ds) mh:=by
 obtain⟨b,many,rfl,h1,h2,⟨c,m,hb,hc,hm0,hm1⟩,q⟩:=hs;have hbl:b<mh.length:=(aGc.mp hb).1
 have fin:∀(r c' m' :Int),0<=r->r<many->0<=c' ->0<=m' ->m'<2147483629->Out mh.length (.int r) (mh.set b (.lst [.int c',.int m'])) R:=λr c' m' a1 a2 a3 a4 a5=>
  cJ (q r _ a1 a2 ⟨⟨c',m',by simp[hbl],a3,a4,a5⟩,_,rfl⟩)
 simp[hZ,m7,m6,m5,aJ,fH hb,t9 hb,aCf];by_cases h0:0<c
 ·rw[if_pos h0];exact⟨by lia,⟨by lia,by lia⟩,fin _ _ _ (aJ6 _ (by lia)) (aIp _ (by lia)) (Int.ediv_nonneg (by lia) (by lia)) hm0 hm1⟩
 ·rw[if_neg h0];refine DV 2 ?_;by_cases hmany:1<many
  ·have b0:0<=(m*48271+7919)^3 % 2147483629:=aJ6 _ (by lia);have b1:(m*48271+7919)^3 % 2147483629<2147483629:=aIp _ (by lia);simp[nV,kS,iZ,iY,iL,hmany,fH hb,t9 hb,aCe,mX];refine⟨pZ (by lia) (by lia),Y5 (by lia) (by lia) (by lia) (by lia),?_⟩;have hb2:(mh.set b (.lst [.int c,.int ((m*48271+7919)^3 % 2147483629)]))[b]? =some (.lst [.int c,.int ((m*48271+7919)^3 % 2147483629)]):=by simp[hbl]
   simp only[fH hb2,mX,bY,LM,LQ];refine⟨pZ (by lia) (by lia),⟨by lia,by lia⟩,pZ (by lia) (by lia),by lia,pZ (by lia) (by lia),?_⟩;simp;rw[if_neg (by lia)];exact⟨by lia,fin _ _ _ (aJ6 _ (by lia)) (aIp _ (by lia)) hc b0 b1⟩
  ·simp[nV,hmany,iL];have e:many=1:=by lia
   subst e;refine⟨by lia,?_⟩
   have e2:mh.set b (.lst [.int c,.int m])=mh:=by
    apply aJg;intro i;by_cases hi:i=b
    ·subst hi;rw[List.getElem?_set_self hbl,hb]
    ·rw[List.getElem?_set_ne (Ne.symm hi)]
   have:=fin 0 c m (by lia) (by lia) hc hm0 hm1;rw[e2]at this;exact this
theorem DM{ns:List Int}{i:Int}(h0:0<=i)(h1:i<ns.length):∃v,nR (ns.map D.int) i=some (.int v):=by
 refine⟨ns[i.toNat]'(by lia),?_⟩;have e:i=((i.toNat:Nat):Int):=by lia
 have:=iK (xs:=ns.map D.int) (j:=i.toNat) (v:= .int (ns[i.toNat]'(by lia))) (by rw[List.getElem?_map,List.getElem?_eq_getElem (by lia)];rfl);rw[<-e]at this;exact this
theorem YV{mh:MH}{R:DK}{ns:List Int}{a c m:Int}{k:Option D}(q:∀mh',(∃o,mh' =mh++[o])->yM mh' mh.length->R (.ref mh.length) mh')(h1:0<=c)(h2:0<=m)(h3:m<2147483629):
  jC (En mh R) [some (.fl (ns.map .int)),some (.int a),some (.int c),some (.int m),k] mh:=by
 have fin:∀c,0<=c->Out mh.length (.ref mh.length) (mh++[.lst [.int c,.int m]]) R:=λc hc=>cJ (q _ ⟨_,rfl⟩ ⟨c,m,by simp,hc,h2,h3⟩);simp[jC,oP];refine⟨Y5 (by lia) (by lia) (by lia) (by lia),?_⟩;split
 ·exact⟨by rw[sizeLine_eq];lia,fin 0 (by lia)⟩
 ·exact⟨by rw[sizeLine_eq];lia,fin c h1⟩
theorem N6{mh:MH}{R:DK}{ns:List Int}{a c:Int}(hl:ns.length<=63)(ha0:0<=a)(ha1:a<=100)(q:∀mh',(∃o,mh' =mh++[o])->yM mh' mh.length->R (.ref mh.length) mh')(h1:0<=c):
  jD (En mh R) [some (.fl (ns.map .int)),some (.int a),some (.int c),none,none] mh:=by
 have sq1:7919*a*a<=79190000:=by
  have:a*a<=100*100:=Int.mul_le_mul ha1 ha1 ha0 (by lia);have e:7919*a*a=7919*(a*a):=Int.mul_assoc _ _ _
  lia
 have sq0:0<=7919*a*a:=Int.mul_nonneg (by lia) ha0;simp[jD,oQ];refine⟨UU (by lia) (by lia),pZ (by lia) (by lia),UU (by lia) (by lia),?_,?_,?_⟩
 ·split <;> lia
 ·split <;> (rw[sizeLine_eq];lia)
 ·refine b8 (λi ρ mh' =>mh' =mh/\∃m k,ρ=[some (.fl (ns.map .int)),some (.int a),some (.int c),some (.int m),k]/\0<=m/\m<2147483629) _ (λ_ _ _ _=>trivial) ?_ ?_ ⟨rfl,_,_,rfl,by lia,by lia⟩
  ·rintro i d ρ mh' N hi ⟨rfl,m,k,rfl,m0,m1⟩ nx;obtain⟨hi,rfl⟩:=sL hi
   have hil:i<ns.length:=by
    revert hi;split <;> intro hi <;> lia
   have hi60:i<60:=by
    revert hi;split <;> intro hi <;> lia
   obtain⟨v,hv⟩:=DM (ns:=ns) (i:=0+(i:Int)) (by lia) (by lia);have v0:0<=v % 2147483647:=aJ6 _ (by lia);have v1:v % 2147483647<2147483647:=aIp _ (by lia);have k0:0<=(0+(i:Int))*(0+(i:Int)):=Int.mul_nonneg (by lia) (by lia);have k1:(0+(i:Int))*(0+(i:Int))<=60*60:=Int.mul_le_mul (by lia) (by lia) (by lia) (by lia);simp only[aEv,nD,aB3,aEk,s_c,aAy,List.set_cons_succ,List.set_cons_zero,List.getElem?_cons_succ,List.getElem?_cons_zero,Option.join_some,bY,LM,LQ,aB0,hv];refine⟨pZ (by lia) (by lia),by lia,pZ (by lia) (by lia),Y5 (by lia) (by lia) (by lia) (by lia),by lia,nx _ _ ⟨rfl,_,_,rfl,aJ6 _ (by lia),aIp _ (by lia)⟩⟩
  ·rintro ρ mh' ⟨rfl,m,k,rfl,m0,m1⟩;exact YV q h1 m0 m1
theorem aCn(ds:List D)(mh:MH)(R:DK)(ok:kM mh)(hs:IC ds mh R):jE (En mh R) (aJ ["_law_script","_law_at","_law_cell","_law_mix","_law_k"] ds) mh:=by
 obtain⟨ns,a,rfl,hl,ha0,ha1,q⟩:=hs;simp[jE,oR,aJ];split
 ·rename_i hlt;obtain⟨v,hv⟩:=DM (ns:=ns) (i:=a) ha0 hlt;simp[hv];exact N6 hl ha0 ha1 q (by split <;> lia)
 ·exact N6 hl ha0 ha1 q (by lia)
open LR (P2 R4 Bd sD rD bD i9 gD cC dF tm cQ vT move fY iF mI Good jO)
open LS
def IB:OA:=λds mh Q=>∃(r:R4) (t:Nat) (dx dy:Int),ds=[rD r,.int t,.int dx,.int dy]/\t<8/\Q (rD (tm t dx dy r)) mh
theorem N4{mh:MH}{R:DK}{t:Nat}{dx dy:Int}{a b:Option D}{r:R4}(ht:t<8)(q:R (rD (move dx dy (cQ (t % 4) r))) mh):
  cW (En mh R) [a,some (.int t),some (.int dx),some (.int dy),some (.int r.x0),some (.int r.y0),some (.int r.x1),some (.int r.y1),b] mh:=by
 have sz:=aH1;simp[cW];refine⟨by lia,by rw[sz];lia,?_⟩;have e:((t:Int) % 4).toNat=t % 4:=by lia
 rw[e];refine b8 (λi ρ mh' =>mh' =mh/\∃b,ρ=[a,some (.int t),some (.int dx),some (.int dy),some (.int (cQ i r).x0),some (.int (cQ i r).y0),some (.int (cQ i r).x1),some (.int (cQ i r).y1),b]) _ (λ_ _ _ _=>trivial) ?_ ?_ ⟨rfl,_,rfl⟩
 ·rintro i d ρ mh' N hi ⟨rfl,b,rfl⟩ nx;simp[eM];refine⟨by lia,nx _ _ ⟨rfl,_,rfl⟩⟩
 ·rintro ρ mh' ⟨rfl,b,rfl⟩;simp[fD];refine⟨by lia,cJ ?_⟩;simpa[rD,move] using q
theorem aCl(ds:List D)(mh:MH)(R:DK)(ok:kM mh)(hs:IB ds mh R):cK (En mh R) (aJ ["_law_rect","_law_turn","_law_dx","_law_dy","_law_x0","_law_y0","_law_x1","_law_y1","_law_k"] ds) mh:=by
 obtain⟨r,t,dx,dy,rfl,ht,q⟩:=hs;have sz:=aH1;simp[cK,fE,aJ,rD];by_cases h:t<4
 ·have h2:¬(3:Int)<t:=by lia
  simp[h2];exact N4 ht (by simpa[tm,fY,h] using q)
 ·have h2:(3:Int)<t:=by lia
  simp[h2];refine⟨by lia,?_⟩;exact N4 (r:=vT r) ht (by simpa[tm,fY,h] using q)
theorem XG{r:R4}{t:Nat}{dx dy:Int}{mh:MH}{Q:DK}(ht:t<8)(q:Q (rD (tm t dx dy r)) mh):IB [rD r,.int t,.int dx,.int dy] mh Q:=⟨r,t,dx,dy,rfl,ht,q⟩
theorem BQ:∀l:List P2,dX (l.map sD)=true/\c9 (l.map sD)<=1
 | []=>by simp[dX,c9]
 | r::l=>by
  have:=BQ l;simp only[List.map_cons,dX,c9,this.1,Bool.and_true];simp only[sD,LS.plain,dX,deep,c9];refine⟨rfl,by lia⟩
theorem BR:∀l:List Bd,(∀b∈l,b.ln.length<=1000000)->dX (l.map bD)=true/\c9 (l.map bD)<=3
 | [],_=>by simp[dX,c9]
 | b::l,h=>by
  have:=BR l λc hc=>h c (aGg _ hc);have s:=BQ b.ln;have hb:=h b aGf;simp only[List.map_cons,dX,c9,this.1,Bool.and_true];simp only[bD,i9,LS.plain,dX,deep,c9,s.1,Bool.true_and,Bool.and_true];refine⟨by simpa using hb,by lia⟩
theorem MA{g:List Bd}(hl:g.length<=1000000)(h:∀b∈g,b.ln.length<=1000000):LS.plain (gD g)=true/\deep (gD g)<=4:=by
 have:=BR g h;simp only[gD,LS.plain,deep,this.1,Bool.true_and];exact⟨by simpa using hl,by lia⟩
theorem NB{g:List Bd}{mh:MH}{Q:DK}(hl:(aO g).length<=1000000)(q:Q (.ref mh.length) (mh++[.lst ((aO g).map rD)])):qF [gD g] mh Q:=⟨g,rfl,hl,q⟩
theorem ED{rs:List R4}(t:Nat)(dx dy:Int)(good:∀r∈rs,Good r):cC ((aO (cC rs)).map (tm t dx dy))=cC (rs.map (tm t dx dy)):=by
 obtain⟨can1,hc1⟩:=LR.gQ (rs:=rs) good
 obtain⟨can2,hc2⟩:=LR.gQ (rs:=rs.map (tm t dx dy)) λr hr=>by
  obtain⟨r0,hr0,rfl⟩:=aGm.mp hr;exact jO t dx dy (good r0 hr0)
 obtain⟨can3,hc3⟩:=LR.gQ (rs:=(aO (cC rs)).map (tm t dx dy)) λr hr=>by
  obtain⟨r0,hr0,rfl⟩:=aGm.mp hr;exact jO t dx dy (LR.mJ good hr0).1
 refine LR.vC can3 can2 λx y=>?_;obtain⟨x',y',hp⟩:=LR.y4 t dx dy x y;rw[hc3,hc2];constructor
 ·rintro⟨r,hr,h⟩;obtain⟨r1,hr1,rfl⟩:=aGm.mp hr;obtain⟨r0,hr0,h0⟩:=(hc1 x' y').mp (LR.jJ.mpr ⟨r1,hr1,(hp r1).mp h⟩);exact⟨_,aGy hr0,(hp r0).mpr h0⟩
 ·rintro⟨r,hr,h⟩;obtain⟨r0,hr0,rfl⟩:=aGm.mp hr;obtain⟨r1,hr1,h1⟩:=LR.jJ.mp ((hc1 x' y').mpr ⟨r0,hr0,(hp r0).mp h⟩);exact⟨_,aGy hr1,(hp r1).mpr h1⟩
open LR (P2 R4 Bd sD rD bD i9 gD cC dF tm iF mI Good jO)
theorem SX{E:eO}{ns:List Int}{a1 a2 a3 a8:Option D}{dx dy:Int}{rs:List R4}{t:Nat}{M:MH}(ht:t<8)(hrs:rs.length<=60)(good:∀r∈rs,Good r)
  (nx:∀a8 M',E.nx [some (.fl (ns.map .int)),a1,a2,a3,some (.int dx),some (.int dy),some (gD (cC rs)),some (.int t),a8] M'):
  sV IC lL LT.fI LR.qE qF IB (pB 6) iF E [some (.fl (ns.map .int)),a1,a2,a3,some (.int dx),some (.int dy),some (gD (cC rs)),some (.int t),a8] M:=by
 have sz:=aH1;have PF:=LR.uD (rs:=rs) (by lia);have yl:=LR.sS rs;obtain⟨can,hcov⟩:=LR.gQ (rs:=rs) good;simp[sV];refine NB (by lia) ?_;have hn:=eR M (.lst ((aO (cC rs)).map rD));generalize M++[.lst ((aO (cC rs)).map rD)]=M1 at hn⊢;rw[bB hn];simp only[bY];refine gJ rD (tm t dx dy) rD (aO (cC rs)) (bB hn) (λr _ N hN=>?_) ?_
 ·simp[fW];exact XG ht hN
 obtain⟨xs',ys',hx',hy',hnum⟩:=LR.GV t dx dy (xs:=rs.map (·.x0)++rs.map (·.x1)) (ys:=dF rs) (N:=4000) (by simp;lia) (by lia);refine LT.EC xs' ys' (eR _ _) (by simp;lia) hx' hy' (λr hr=>?_) (λr hr=>?_) (LT.J8 (LR.y4 t dx dy) (LT.yZ can)) ?_
 ·obtain⟨r0,h0,rfl⟩:=aGm.mp hr;exact jO t dx dy (LR.mJ good h0).1
 ·obtain⟨r0,h0,rfl⟩:=aGm.mp hr;exact hnum r0 (LR.mJ good h0).2
 rw[ED t dx dy good];have gl:=LR.w9 (rs.map (tm t dx dy));obtain⟨pg,dg⟩:=MA (g:=cC (rs.map (tm t dx dy))) (by simp at gl;lia) λb hb=>by have:=LR.rM b hb;simp at this;lia
 simp[sU];refine mI ht (by lia) good ?_;refine yW pg (by lia) ?_;simp[iO];refine mI ht (by lia) good ?_;refine yW pg (by lia) ?_;simp[iO];exact nx _ _
theorem aCm(ds:List D)(mh:MH)(R:DK)(ok:kM mh)(hs:vS ds mh R):GA IC lL LT.fI LR.qE qF IB (pB 6) iF (En mh R) (aJ ["_law_script","_law_at","_law_bag_here","_law_still","_law_dx","_law_dy","_law_some","_law_turn","_law_due"] ds) mh:=by
 obtain⟨ns,rfl,hl,q⟩:=hs;have sz:=aH1;simp[GA,aJ];refine⟨by split <;> (try split) <;> lia,by split <;> (try split) <;> lia,?_⟩;refine b8 (λi ρ _=>∃a b c d e f g h,ρ=[some (.fl (ns.map .int)),a,b,c,d,e,f,g,h]) _ (λ_ _ _ _=>trivial) ?_ ?_ ⟨_,_,_,_,_,_,_,_,rfl⟩
 ·rintro i d ρ mh1 N hi ⟨a,b,c,d',e,f,g,h,rfl⟩ nx;obtain⟨hil,rfl⟩:=sL hi
  have hi6:i<8:=by
   revert hil;split <;> (try split) <;> intro hil <;> lia
  simp[A7];refine TJ hl (by lia) (by lia) λmh2 ho b2=>?_;obtain⟨o,rfl⟩:=ho;simp[tB];refine tO (eW.refl b2) (by lia) (by lia) λst M1 s0 s1 x1 _ _=>?_;simp[sZ];refine tO x1 (by lia) (by lia) λdx M2 d0 d1 x2 _ _=>?_;simp;refine⟨pZ (by lia) (by lia),?_⟩;simp[sY];refine tO x2 (by lia) (by lia) λdy M3 e0 e1 x3 _ _=>?_;simp;refine⟨pZ (by lia) (by lia),?_⟩;simp[sX];refine LR.LY (by lia) (by lia) x3.bag λrs M4 rl rok t4=>?_;have rl:rs.length<=60:=rl
  have good:∀r∈rs,Good r:=λr h=>⟨(rok r h).2.2.2.2.1,(rok r h).2.2.2.2.2⟩
  have gr:LT.fI [.ref M4.length] (M4++[.lst (rs.map rD)])=LT.fI [.ref M4.length] (M4++[.lst (rs.map rD)]):=rfl;refine⟨M4.length,rs,rs.map (·.y0)++rs.map (·.y1),rfl,eR _ _,by lia,λr h=>⟨aHj _ (aGy h),aGs _ (aGy h)⟩,by simp;lia,λlo hi _=>by have:=LR.tW rs lo hi;lia,?_⟩;simp[sW];refine⟨by rw[sz];lia,?_⟩;refine b8 (λj ρ _=>∃g h,ρ=[some (.fl (ns.map .int)),some (.int i),some (.ref mh1.length),some (.int st),some (.int ((dx-524288)*st)),some (.int ((dy-524288)*st)),some (gD (cC rs)),g,h]) _ (λ_ _ _ _=>trivial) ?_ ?_ ⟨_,_,rfl⟩
  ·rintro j d ρ M5 N2 hj ⟨g,h,rfl⟩ nx2;obtain⟨hj8,rfl⟩:=sL hj;simp;exact SX hj8 rl good λ_ _=>nx2 _ _ ⟨_,_,rfl⟩
  ·rintro ρ M5 ⟨g,h,rfl⟩;exact nx _ _ ⟨_,_,_,_,_,_,_,_,rfl⟩
 ·rintro ρ mh1 ⟨a,b,c,d,e,f,g,h,rfl⟩;simp[F9];exact cJ (q _)
theorem aFi{P:List Value->Prop}(us:List Value)(hl:us.length=0)(h:P []):P us:=by
 cases us with
 | nil=>exact h
 | cons a us=>cases hl
theorem aC1{P:List Value->Prop}(us:List Value)(hl:us.length=1)(h:∀a0,P [a0]):P us:=by
 cases us with
 | nil=>cases hl
 | cons a us=>exact aFi (P:=λus=>P (a::us)) us (aKb hl) (h a)
theorem aC0{P:List Value->Prop}(us:List Value)(hl:us.length=2)(h:∀a0 a1,P [a0,a1]):P us:=by
 cases us with
 | nil=>cases hl
 | cons a us=>exact aC1 (P:=λus=>P (a::us)) us (aKb hl) (h a)
theorem aBz{P:List Value->Prop}(us:List Value)(hl:us.length=3)(h:∀a0 a1 a2,P [a0,a1,a2]):P us:=by
 cases us with
 | nil=>cases hl
 | cons a us=>exact aC0 (P:=λus=>P (a::us)) us (aKb hl) (h a)
theorem aFh{P:List Value->Prop}(us:List Value)(hl:us.length=4)(h:∀a0 a1 a2 a3,P [a0,a1,a2,a3]):P us:=by
 cases us with
 | nil=>cases hl
 | cons a us=>exact aBz (P:=λus=>P (a::us)) us (aKb hl) (h a)
theorem FU{x:Str}{st:Stmt}{ps:List Str}(h:∀kV doc pm an cdv ct a0,bindArgs (PySem.W.fnOf x x (cM st) (bU st) (aC st) .none kV doc pm an cdv ct) ⟨[a0],[]⟩=pure (ps.zip [a0]))(hp:ps.length=1:=by rfl):cI x st ps:=λa b c d e f us hl=>aC1 (P:=λus=>bindArgs _ ⟨us,[]⟩=pure (List.zip _ us)) us (hl.trans hp) (h a b c d e f)
theorem O3{x:Str}{st:Stmt}{ps:List Str}(h:∀kV doc pm an cdv ct a0 a1,bindArgs (PySem.W.fnOf x x (cM st) (bU st) (aC st) .none kV doc pm an cdv ct) ⟨[a0,a1],[]⟩=pure (ps.zip [a0,a1]))(hp:ps.length=2:=by rfl):cI x st ps:=λa b c d e f us hl=>aC0 (P:=λus=>bindArgs _ ⟨us,[]⟩=pure (List.zip _ us)) us (hl.trans hp) (h a b c d e f)
theorem ZL{x:Str}{st:Stmt}{ps:List Str}(h:∀kV doc pm an cdv ct a0 a1 a2,bindArgs (PySem.W.fnOf x x (cM st) (bU st) (aC st) .none kV doc pm an cdv ct) ⟨[a0,a1,a2],[]⟩=pure (ps.zip [a0,a1,a2]))(hp:ps.length=3:=by rfl):cI x st ps:=λa b c d e f us hl=>aBz (P:=λus=>bindArgs _ ⟨us,[]⟩=pure (List.zip _ us)) us (hl.trans hp) (h a b c d e f)
theorem ZK{x:Str}{st:Stmt}{ps:List Str}(h:∀kV doc pm an cdv ct a0 a1 a2 a3,bindArgs (PySem.W.fnOf x x (cM st) (bU st) (aC st) .none kV doc pm an cdv ct) ⟨[a0,a1,a2,a3],[]⟩=pure (ps.zip [a0,a1,a2,a3]))(hp:ps.length=4:=by rfl):cI x st ps:=λa b c d e f us hl=>aFh (P:=λus=>bindArgs _ ⟨us,[]⟩=pure (List.zip _ us)) us (hl.trans hp) (h a b c d e f)
theorem J7:cI "joined" i5 ["bands"]:=FU λ_ _ _ _ _ _ _=>rfl
theorem J6:cI "paired" i4 ["edges"]:=FU λ_ _ _ _ _ _ _=>rfl
theorem AO:cI "add_steps" eA ["steps","stretches","more"]:=ZL λ_ _ _ _ _ _ _ _ _=>rfl
theorem FW:cI "covered" gP ["steps","least"]:=O3 λ_ _ _ _ _ _ _ _=>rfl
theorem FV:UY "stacked" gO ["bands","least"]:=λ_ _ _ _ _ _ us _ _ _ _ _ hl ho hs=>match us,hl with | [_],_=>.of_defaults rfl ho hs rfl rfl
theorem DI:cI "rects_of" fF ["region"]:=FU λ_ _ _ _ _ _ _=>rfl
theorem vH:cI "turned_rect" cZ ["rect","turn","dx","dy"]:=ZK λ_ _ _ _ _ _ _ _ _ _=>rfl
theorem J5:cI "turned" i3 ["region","turn","dx","dy"]:=ZK λ_ _ _ _ _ _ _ _ _ _=>rfl
theorem DJ:cI "_law_bag" fG ["_law_script","_law_at"]:=O3 λ_ _ _ _ _ _ _ _=>rfl
theorem AQ:cI "_law_take" eB ["_law_bag_here","_law_many"]:=O3 λ_ _ _ _ _ _ _ _=>rfl
theorem vJ:cI "_law_number" c7 ["_law_bag_here","_law_sort","_law_some"]:=ZL λ_ _ _ _ _ _ _ _ _=>rfl
theorem AR:cI "_law_side" eC ["_law_bag_here","_law_sort","_law_some"]:=ZL λ_ _ _ _ _ _ _ _ _=>rfl
theorem wH:cI "_law_rects" dJ ["_law_bag_here","_law_most"]:=O3 λ_ _ _ _ _ _ _ _=>rfl
theorem AS:cI "_law_line" eE ["_law_shreds"]:=FU λ_ _ _ _ _ _ _=>rfl
theorem vI:cI "_law_region" c6 ["_law_rects_here"]:=FU λ_ _ _ _ _ _ _=>rfl
theorem p6:cI "_law_same" eD ["_law_found","_law_due"]:=O3 λ_ _ _ _ _ _ _ _=>rfl
theorem wI:cI "_law_lined" dM ["_law_some"]:=FU λ_ _ _ _ _ _ _=>rfl
theorem mW:cI "_law_turned_rect" bX ["_law_rect","_law_turn","_law_dx","_law_dy"]:=ZK λ_ _ _ _ _ _ _ _ _ _=>rfl
theorem ZM:cI "law" tQ ["_law_script"]:=FU λ_ _ _ _ _ _ _=>rfl
structure Al(w:World)(K:aKd)(mg:aKg):Prop where
 OU:fX K "joined" i5
 OT:fX K "paired" i4
 C8:fX K "add_steps" eA
 JX:fX K "covered" gP
 JT:ZV K "stacked" gO 1
 FN:fX K "rects_of" fF
 v5:fX K "turned_rect" cZ
 OR:fX K "turned" i3
 FO:fX K "_law_bag" fG
 C9:fX K "_law_take" eB
 v8:fX K "_law_number" c7
 DA:fX K "_law_side" eC
 AF:fX K "_law_rects" dJ
 DB:fX K "_law_line" eE
 v7:fX K "_law_region" c6
 rW:fX K "_law_same" eD
 AG:fX K "_law_lined" dM
 oE:fX K "_law_turned_rect" bX
 aCs:fX K "law" tQ
 DH:yL K mg "MIRROR" (.int 4)
 vF:yL K mg "QUARTERS" (.int 3)
section
variable {P:Program}{w:World}{K:aKd}{mg:aKg}{base h:Heap}(KX:K.In h)(G:h.Ns mainGlobals mg)(B:Bl mg)(A:Al w K mg)
include KX G B A
theorem CT :Fn P w K mg base 1 "joined" ["bands"] (LR.jI):=
 fP (wB:=LR.oN) (k:=0) A.OU KX G J7 w4 (by with_reducible exact NO B) (λds mh R h=>by obtain⟨_,_,rfl,_⟩:=h;rfl) LR.N5
theorem CS :Fn P w K mg base 1 "paired" ["edges"] (LR.pC):=
 fP (wB:=LR.oM) (k:=0) A.OT KX G J6 wZ (by with_reducible exact NM B) (λds mh R h=>by obtain⟨_,_,rfl,_⟩:=h;rfl) LR.N1
theorem rS :Fn P w K mg base 1 "add_steps" ["steps","stretches","more"] (LR.D9):=
 fP (wB:=LR.hX) (k:=0) A.C8 KX G AO oZ (by with_reducible exact CB B) (λds mh R h=>by obtain⟨_,_,_,_,_,_,rfl,_⟩:=h;rfl) LR.aCo
theorem xW :Fn P w K mg base 2 "covered" ["steps","least"] (LR.uB):=
 fP (wB:=LR.mF (LR.pC)) (k:=1) A.JX KX G FW t8 (by with_reducible exact JB B ((CS KX G B A).mono (by omega))) (λds mh R h=>by obtain⟨_,_,_,_,rfl,_⟩:=h;rfl) LR.YU
theorem xV :ZU P w K mg base 3 "stacked" ["bands","least"] 1 (LR.LU):=
 Y0 (wB:=LR.mE (LR.D9) (LR.uB) (LR.jI)) (k:=2) A.JT KX G FV tZ (by with_reducible exact JA B ((rS KX G B A).mono (by omega)) ((xW KX G B A).mono (by omega)) ((CT KX G B A).mono (by omega))) (λds mh R h=>by obtain⟨_,_,_,_,rfl,_⟩:=h;rfl) LR.aCk
theorem uY :Fn P w K mg base 1 "rects_of" ["region"] (LS.Z3):=
 fP (wB:=LS.jB) (k:=0) A.FN KX G DI rK (by with_reducible exact E3 B) (λds mh R h=>by obtain⟨_,rfl,_⟩:=h;rfl) LS.aFs
theorem nN :Fn P w K mg base 1 "turned_rect" ["rect","turn","dx","dy"] (LR.sTR):=
 fP (wB:=LR.eX) (k:=0) A.v5 KX G vH lH (by with_reducible exact vV B  A.DH A.vF) (by
  intro ds mh R h
  first | (obtain⟨rfl,_⟩:=h;rfl) | (obtain⟨_,rfl,_⟩:=h;rfl) | (obtain⟨_,_,rfl,_⟩:=h;rfl) | (obtain⟨_,_,_,rfl,_⟩:=h;rfl) | (obtain⟨_,_,_,_,rfl,_⟩:=h;rfl) | (obtain⟨_,_,_,_,_,rfl,_⟩:=h;rfl) | (obtain⟨_,_,_,_,_,_,rfl,_⟩:=h;rfl) | (obtain⟨_,_,_,_,_,_,_,rfl,_⟩:=h;rfl)) LR.aFr
theorem CQ :Fn P w K mg base 4 "turned" ["region","turn","dx","dy"] (LR.iF):=
 fP (wB:=LR.oI (LS.Z3) (LR.sTR) (LR.LU)) (k:=3) A.OR KX G J5 wY (by with_reducible exact NL B ((uY KX G B A).mono (by omega)) ((nN KX G B A).mono (by omega)) ((xV KX G B A).mono (by omega))) (by
  intro ds mh R h
  first | (obtain⟨rfl,_⟩:=h;rfl) | (obtain⟨_,rfl,_⟩:=h;rfl) | (obtain⟨_,_,rfl,_⟩:=h;rfl) | (obtain⟨_,_,_,rfl,_⟩:=h;rfl) | (obtain⟨_,_,_,_,rfl,_⟩:=h;rfl) | (obtain⟨_,_,_,_,_,rfl,_⟩:=h;rfl) | (obtain⟨_,_,_,_,_,_,rfl,_⟩:=h;rfl) | (obtain⟨_,_,_,_,_,_,_,rfl,_⟩:=h;rfl)) LR.NZ
theorem uZ :Fn P w K mg base 1 "_law_bag" ["_law_script","_law_at"] (IC):=
 fP (wB:=jE) (k:=0) A.FO KX G DJ rL (by with_reducible exact E4 B) (λds mh R h=>by obtain⟨_,_,rfl,_⟩:=h;rfl) aCn
theorem d4 :Fn P w K mg base 1 "_law_take" ["_law_bag_here","_law_many"] (lL):=
 fP (wB:=hZ) (k:=0) A.C9 KX G AQ o7 (by with_reducible exact CC B) (λds mh R h=>by obtain⟨_,_,rfl,_⟩:=h;rfl) YO
theorem nP :Fn P w K mg base 2 "_law_number" ["_law_bag_here","_law_sort","_law_some"] (LR.pD):=
 fP (wB:=LR.eZ (lL)) (k:=1) A.v8 KX G vJ lJ (by with_reducible exact vX B ((d4 KX G B A).mono (by omega))) (λds mh R h=>by obtain⟨_,_,_,rfl,_⟩:=h;rfl) LR.N3
theorem rT :Fn P w K mg base 3 "_law_side" ["_law_bag_here","_law_sort","_law_some"] (LR.BI):=
 fP (wB:=LR.h9 (LR.pD)) (k:=2) A.DA KX G AR o8 (by with_reducible exact CD B ((nP KX G B A).mono (by omega))) (λds mh R h=>by obtain⟨_,_,_,rfl,_⟩:=h;rfl) LR.YQ
theorem pT :Fn P w K mg base 4 "_law_rects" ["_law_bag_here","_law_most"] (LR.qE):=
 fP (wB:=LR.gA (lL) (LR.BI)) (k:=3) A.AF KX G wH nE (by with_reducible exact zO B ((d4 KX G B A).mono (by omega)) ((rT KX G B A).mono (by omega))) (λds mh R h=>by obtain⟨_,_,rfl,_⟩:=h;rfl) LR.SU
theorem rV :Fn P w K mg base 1 "_law_line" ["_law_shreds"] (LR.uA):=
 fP (wB:=LR.iC) (k:=0) A.DB KX G AS pA (by with_reducible exact CG B) (λds mh R h=>by obtain⟨_,_,rfl,_⟩:=h;rfl) LR.YT
theorem nO :Fn P w K mg base 2 "_law_region" ["_law_rects_here"] (LT.fI):=
 fP (wB:=LT.eY (LR.uA)) (k:=1) A.v7 KX G vI lI (by with_reducible exact vW B ((rV KX G B A).mono (by omega))) (λds mh R h=>by obtain⟨_,_,_,rfl,_⟩:=h;rfl) LT.JJ
theorem iI :∀n:Nat,Fn P w K mg base (n+1) "_law_same" ["_law_found","_law_due"] (LS.pB n)
 | 0=>(OH A.rW KX G p6).imp λds mh R h=>by obtain⟨_,⟨_,_,_,h⟩ | ⟨_,_,_,_,_,_,_,h,_⟩⟩:=h <;> omega
 | n+1=>Y1 (wB:=LS.cX (LS.pB n)) (k:=n+1) (by omega) A.rW KX G p6 o9 (by with_reducible exact CF B (iI n)) (λds mh R h=>by obtain⟨_,⟨_,rfl,_⟩ | ⟨_,_,_,rfl,_⟩⟩:=h <;> rfl) (LS.YR n)
theorem pU :Fn P w K mg base 1 "_law_lined" ["_law_some"] (LS.qF):=
 fP (wB:=LS.gB) (k:=0) A.AG KX G wI nF (by with_reducible exact zP B) (λds mh R h=>by obtain⟨_,rfl,_⟩:=h;rfl) LS.SV
theorem gY :Fn P w K mg base 1 "_law_turned_rect" ["_law_rect","_law_turn","_law_dx","_law_dy"] (IB):=
 fP (wB:=cK) (k:=0) A.oE KX G mW fZ (by with_reducible exact n5 B) (λds mh R h=>by obtain⟨_,_,_,_,rfl,_⟩:=h;rfl) aCl
theorem SM{fa:Addr}  (hfa:mg "law"=some (.ref fa)):
  ∃fd:FuncData,(∀(s:Shared) (u:Value),BindsTo s fd ⟨[u],[]⟩ [("_law_script",u)])/\∀base:Heap,iU P w K mg base AY 8 fa fd ["_law_script"] (LD K vS):=
 X8 (wB:=GA (IC) (lL) (LT.fI) (LR.qE) (LS.qF) (IB) (LS.pB 6) (LR.iF)) (k:=7) KX G hfa A.aCs LK ZM (λbase=>by with_reducible exact aCd B ((uZ KX G B A).mono (by omega)) ((d4 KX G B A).mono (by omega)) ((nO KX G B A).mono (by omega)) ((pT KX G B A).mono (by omega)) ((pU KX G B A).mono (by omega)) ((gY KX G B A).mono (by omega)) ((iI KX G B A 6).mono (by omega)) ((CQ KX G B A).mono (by omega))) aCm
theorem aDg{l:PySem.W.OpenLaw}{fa:Addr}  (hfa:mg "law"=some (.ref fa)):
  ∃fd:FuncData,(∀(s:Shared) (u:Value),BindsTo s fd ⟨[u],[]⟩ [("_law_script",u)])/\∀base:Heap,K.In base->base.Ns mainGlobals mg->iU l.prog w K mg base AY 8 fa fd ["_law_script"] (LD K vS):=
 let ⟨fd,h1,h2⟩:=SM KX G B A hfa
 ⟨fd,h1,λbase _ _=>h2 base⟩
end
noncomputable def m0:Value:= .str "maskwright.regions" 187
noncomputable def m1:Value:= .str "maskwright.turning" 256
noncomputable def m2:Value:= .str "law_maskwright_k10_regions_turned" 283
noncomputable def kk:Params->W.Frag:=λP=>(nat_lit 3,⟨.type "dict",none,.dict #[kE P "__name__" 165 (.str "law_maskwright_k10_regions_turned" 283),kE P "__doc__" 166 .none,kE P "__package__" 167 .none,kE P "__loader__" 168 (.builtin "__main__.__loader__#opaque"),kE P "__spec__" 169 .none,kE P "__annotations__" 170 (.ref 6),kE P "__builtins__" 171 (.ref 4),kE P "__file__" 173 (.str "/claim/cut.py" 172),kE P "__cached__" 174 .none,kE P "joined" 199 (.ref 21),kE P "paired" 206 (.ref 28),kE P "add_steps" 219 (.ref 35),kE P "covered" 231 (.ref 42),kE P "stacked" 249 (.ref 50),kE P "rects_of" 255 (.ref 55),kE P "QUARTERS" 259 (.int 3 258),kE P "MIRROR" 261 (.int 4 260),kE P "turned_rect" 276 (.ref 62),kE P "turned" 282 (.ref 67),kE P "_law_bag" 295 (.ref 74),kE P "_law_take" 306 (.ref 81),kE P "_law_number" 315 (.ref 88),kE P "_law_side" 326 (.ref 95),kE P "_law_rects" 332 (.ref 100),kE P "_law_line" 342 (.ref 107),kE P "_law_region" 348 (.ref 112),kE P "_law_same" 354 (.ref 117),kE P "_law_lined" 360 (.ref 122),kE P "_law_turned_rect" 375 (.ref 129),kE P "law" 381 (.ref 134)] 30,#[]⟩)::(nat_lit 20,kD "joined" 189 2 1 197 20)::(nat_lit 21,kF "joined" i5 m0 20)::(nat_lit 27,kD "paired" 200 12 1 204 27)::(nat_lit 28,kF "paired" i4 m0 27)::(nat_lit 34,kD "add_steps" 207 14 3 217 34)::(nat_lit 35,kF "add_steps" eA m0 34)::(nat_lit 41,kD "covered" 220 20 2 229 41)::(nat_lit 42,kF "covered" gP m0 41)::(nat_lit 43,⟨.type "tuple",none,.seq #[.int 1 232] 0,#[]⟩)::(nat_lit 49,kD "stacked" 233 29 2 247 49)::(nat_lit 50,kF "stacked" gO m0 49 (.ref 43))::(nat_lit 54,kC "rects_of" 250 42 1 253 54)::(nat_lit 55,kF "rects_of" fF m0 54)::(nat_lit 61,kD "turned_rect" 262 47 4 274 61)::(nat_lit 62,kF "turned_rect" cZ m1 61)::(nat_lit 66,kC "turned" 277 54 4 280 66)::(nat_lit 67,kF "turned" i3 m1 66)::(nat_lit 73,kD "_law_bag" 285 58 2 293 73)::(nat_lit 74,kF "_law_bag" fG m2 73)::(nat_lit 80,kD "_law_take" 296 68 2 304 80)::(nat_lit 81,kF "_law_take" eB m2 80)::(nat_lit 87,kD "_law_number" 307 80 3 313 87)::(nat_lit 88,kF "_law_number" c7 m2 87)::(nat_lit 94,kD "_law_side" 316 88 3 324 94)::(nat_lit 95,kF "_law_side" eC m2 94)::(nat_lit 99,kC "_law_rects" 327 94 2 330 99)::(nat_lit 100,kF "_law_rects" dJ m2 99)::(nat_lit 106,kD "_law_line" 333 104 1 340 106)::(nat_lit 107,kF "_law_line" eE m2 106)::(nat_lit 111,kC "_law_region" 343 112 1 346 111)::(nat_lit 112,kF "_law_region" c6 m2 111)::(nat_lit 116,kC "_law_same" 349 122 2 352 116)::(nat_lit 117,kF "_law_same" eD m2 116)::(nat_lit 121,kC "_law_lined" 355 132 1 358 121)::(nat_lit 122,kF "_law_lined" dM m2 121)::(nat_lit 128,kD "_law_turned_rect" 361 137 4 373 128)::(nat_lit 129,kF "_law_turned_rect" bX m2 128)::(nat_lit 133,kC "law" 376 144 1 379 133)::(nat_lit 134,kF "law" tQ m2 133)::[]
end K10
open PySem PySem.W PyProof.Rows
set_option maxRecDepth 100000 in
set_option maxHeartbeats 0 in
theorem PySem.Challenge.cw_maskwright_k10_regions_turned_holds : PySem.Challenge.rw_maskwright_k10_regions_turned.Holds := by
  w_on; refine D3.aDh (q := D3.kQ PySem.Challenge.pw_maskwright_k10_regions_turned [1, 2, 3, 4, 6, 8, 9, 10, 11, 13, 14, 15, 16, 17, 18, 19, 20, 21, 22, 23]) (loose := ["stacked"]) (K := K10.kk) (as := [3, 20, 21, 27, 28, 34, 35, 41, 42, 43, 49, 50, 54, 55, 61, 62, 66, 67, 73, 74, 80, 81, 87, 88, 94, 95, 99, 100, 106, 107, 111, 112, 116, 117, 121, 122, 128, 129, 133, 134]) (N := 1396) (by kernel_rfl) (fun _ => rfl) (fun _ => by kernel_rfl) (by rfl) (by rfl) (by rfl) (by decide +kernel) ⟨rfl, rfl, rfl, rfl, rfl, by decide +kernel⟩ ?hw ?_; (case hw => w_witness2)
  k_fill
  refine D3.walkD (l := PySem.Challenge.rw_maskwright_k10_regions_turned) (k := 8) (x := "_law_script") rfl rfl ⟨rfl, by decide, by decide⟩ (fun _ _ Y => Y) ?F
  case F =>
    intro w mg fa h KX G hmg
    refine' K10.aDg KX G (D3.bl_mk KX G ?_ ?_ ?_ ?_ ?_ ?_ ?_ ?_ ?_ ?_ ?_ ?_ ?_ ?_ ?_ ?_ ?_ ?_ ?_) ⟨(D3.aDo ?_ ?_ ?_ ?_), (D3.aDo ?_ ?_ ?_ ?_), (D3.aDo ?_ ?_ ?_ ?_), (D3.aDo ?_ ?_ ?_ ?_), (D3.aDp ?_ ?_ ?_ ?_ ?_), (D3.aDo ?_ ?_ ?_ ?_), (D3.aDo ?_ ?_ ?_ ?_), (D3.aDo ?_ ?_ ?_ ?_), (D3.aDo ?_ ?_ ?_ ?_), (D3.aDo ?_ ?_ ?_ ?_), (D3.aDo ?_ ?_ ?_ ?_), (D3.aDo ?_ ?_ ?_ ?_), (D3.aDo ?_ ?_ ?_ ?_), (D3.aDo ?_ ?_ ?_ ?_), (D3.aDo ?_ ?_ ?_ ?_), (D3.aDo ?_ ?_ ?_ ?_), (D3.aDo ?_ ?_ ?_ ?_), (D3.aDo ?_ ?_ ?_ ?_), (D3.aDo ?_ ?_ ?_ ?_), (D3.Z6 KX G ?q0), (D3.Z6 KX G ?q1)⟩ hmg
    (case q0 => k_is)
    (case q1 => k_is)
    all_goals try k_is
