import PyProof.Rows.All
import Wide.All
import OpenK.AllK
import Wide.FinOn
import Lean
import PyProof.EqAt
import PyProof.EqKinds
import PyProof.TupleCall
import PyProof.NeKinds
import PySem.Challenge.RW_maskwright_k07_regions_grown
set_option Elab.async false
set_option linter.all false
set_option maxRecDepth 100000
set_option maxHeartbeats 4000000
abbrev aL1:=PySem.W.Frag
set_option compiler.extract_closed false
abbrev aGs:= @PySem.wpAny_bind
abbrev aGt:= @List.getElem?_eq_some_iff
abbrev aGu:= @PySem.wpAny_pure
abbrev aGv:= @PySem.Heap.get?_push_of_some
abbrev aGw:= @List.mem_cons_self
abbrev aGx:= @List.mem_cons_of_mem
abbrev aGy:= @Nat.le_refl
abbrev aGz:= @List.mem_append
abbrev aH0:= @PySem.Heap.get?_push_size
abbrev aH1:= @List.mem_of_getElem?
abbrev aH2:= @List.mem_cons
abbrev aH3:= @PyProof.Rows.wpS_bind
abbrev aH4:= @PySem.Heap.lt_size
abbrev aH5:= @List.mem_map
abbrev aH6:= @List.getElem?_eq_getElem
abbrev aH7:= @PyProof.Rows.wpS_pure
abbrev aH8:= @List.mem_map_of_mem
abbrev aH9:= @List.pairwise_append
abbrev aHa:= @List.mem_iff_getElem?
abbrev aHb:= @List.mem_append_right
abbrev aHc:= @Nat.ne_of_lt
abbrev aHd:= @Option.some.inj
abbrev aHe:= @PySem.wpAny_call_entry
abbrev aHf:= @Nat.lt_of_lt_of_le
abbrev aHg:= @List.pairwise_cons
abbrev aHh:= @PySem.sizeLine_eq
abbrev aHi:= @PySem.W.mg_none_of
abbrev aHj:= @PySem.wpAny_callSpecial?_slot
abbrev aHk:= @PySem.wpAny_newObj_type
abbrev aHl:= @List.eq_nil_or_concat
abbrev aHm:= @Nat.le_trans
abbrev aHn:= @List.mem_append_left
abbrev aHo:= @PySem.wpAny_holding
abbrev aHp:= @PySem.wpAny_setField_rec
abbrev aHq:= @PySem.Heap.get?_update_other
abbrev aHr:= @Option.map_eq_some_iff
abbrev aHs:= @PySem.Heap.get?_update_self
abbrev aHt:= @PySem.Heap.SameBut.update
abbrev aHu:= @congrArg
abbrev aHv:= @Ne.symm
abbrev aHw:= @List.pairwise_iff_getElem
abbrev aHx:= @PySem.wpAny_seqItems
abbrev aHy:= @PyProof.Rows.slot_tuple_getitem
abbrev aHz:= @PySem.wpAny_field
abbrev aI0:= @Nat.lt_succ_of_lt
abbrev aI1:= @PySem.mem_of_lookup
abbrev aI2:= @PySem.wpAny_rule
abbrev aI3:= @PySem.codeAny_builtin
abbrev aI4:= @bind_congr
abbrev aI5:= @PySem.wpAny_updateSeq
abbrev aI6:= @PySem.F.slot_zip_next
abbrev aI7:= @PySem.F.slot_dict_keyiterator_next
abbrev aI8:= @Nat.zero_le
abbrev aI9:= @List.length_eq_zero_iff
abbrev aIa:= @List.mem_of_mem_take
abbrev aIb:= @Int.le_refl
abbrev aIc:= @PyProof.Rows.callWith_type1
abbrev aIe:= @Nat.lt_irrefl
abbrev aIf:= @PySem.wpAny_attempt
abbrev aIg:= @PySem.wpAny_mono
abbrev aIh:= @PyProof.Rows.wpS_forRange
abbrev aIi:= @List.nodup_cons
abbrev aIj:= @List.getElem?_eq_none_iff
abbrev aIk:= @PySem.Calls.spliced_cons
abbrev aIl:= @Nat.lt_succ_self
abbrev aIm:= @List.mem_flatMap
abbrev aIn:= @PySem.plainId_quiet
abbrev aIo:= @List.getElem?_of_mem
abbrev aIp:= @PySem.wpAny_typeNameOfWhole_keyiter
abbrev aIq:= @PySem.wpAny_typeOf
abbrev aIr:= @PySem.wpAny_Call_Name_kw
abbrev aIs:= @PySem.tupleKind_room_in1
abbrev aIt:= @PySem.F.slot_tuple_iterator_next
abbrev aIu:= @PyProof.Rows.wpS_mono
abbrev aIv:= @Classical.byContradiction
abbrev aIw:= @decide_eq_false
abbrev aIx:= @List.mem_filter
abbrev aIy:= @PySem.wpAny_passesOwn
abbrev aIz:= @Nat.le_of_lt
abbrev aJ0:= @PySem.wpAny_setState_of
abbrev aJ1:= @PySem.wpAny_setEntries_of
abbrev aJ2:= @Nat.le_of_not_lt
abbrev aJ3:= @PySem.Calls.callWith_builtin
abbrev aJ4:= @List.Perm.append_right
abbrev aJ5:= @PySem.F.called_set
abbrev aJ6:= @Int.emod_lt_of_pos
abbrev aJ7:= @List.Perm.append_left
abbrev aJ8:= @List.perm_append_comm
abbrev aJ9:= @List.take_append_drop
abbrev aJa:= @PySem.W.Looks.of_pure
abbrev aJb:= @PySem.Calls.spliced_nil
abbrev aJc:= @PySem.wpAny_pyIter_slot
abbrev aJd:= @PySem.wpAny_dictEntries
abbrev aJe:= @PySem.Calls.evalArgs_plain
abbrev aJf:= @List.mem_iff_getElem
abbrev aJg:= @PySem.wpAny_fieldsOf
abbrev aJh:= @PySem.wpAny_newTuple
abbrev aJi:= @PySem.Heap.size_push
abbrev aJj:= @Nat.ne_of_gt
abbrev aJk:= @PySem.codeAny_mono
abbrev aJl:= @PySem.wpAny_isInstance
abbrev aJm:= @PySem.Calls.call_function_entry
abbrev aJn:= @List.getElem?_zip_eq_some
abbrev aJo:= @List.map_congr_left
abbrev aJp:= @PyProof.Rows.F.entry_set_update_loop
abbrev aJq:= @PySem.F.args_tuple_add_2
abbrev aJr:= @PySem.F.slot_list_extend
abbrev aJs:= @Int.emod_nonneg
abbrev aJt:= @Bool.false_ne_true
abbrev aJu:= @PySem.F.entry_tuple_add
abbrev aJv:= @PySem.F.plainAttrs_dict
abbrev aJw:= @PySem.wpAny_of_eq
abbrev aJx:= @ite_congr
abbrev aJy:= @PySem.wpAny_truthy_bool
abbrev aJz:= @PySem.F.slot_tuple_add
abbrev aK0:= @PySem.F.args_zip_next_1
abbrev aK1:= @List.take_of_length_le
abbrev aK2:= @List.ext_getElem?
abbrev aK3:= @List.length_pos_of_mem
abbrev aK4:= @List.append_inj_right'
abbrev aK5:= @List.length_filter_le
abbrev aK6:= @PySem.F.slot_dict_get
abbrev aK7:= @List.append_inj_left'
abbrev aK8:= @List.getElem_mem
abbrev aK9:= @PySem.wpAny_askSetting
abbrev aKa:= @PySem.F.entry_zip_next
abbrev aKb:= @PyProof.Rows.wpS_modify
abbrev aKc:= @List.mem_erase_of_ne
abbrev aKd:= @PySem.wpAny_execs_nil
abbrev aKe:= @PySem.codeAny_of_tree
abbrev aKf:= @PySem.wpAny_specialOf
abbrev aKg:= @PySem.wpAny_ite_split
abbrev aKh:= @PySem.F.slot_zip_iter
abbrev aKi:= @PySem.F.slot_dict_setdefault
abbrev aKj:= @beq_eq_false_iff_ne
abbrev aKk:= @List.getElem_of_mem
abbrev aKl:= @PySem.F.plain_extend_loop
abbrev aKm:= @PySem.call_meetsIn
abbrev aKn:= @PySem.wpAny_load
abbrev aKo:= @Nat.lt_or_eq_of_le
abbrev aKp:= @PySem.wpAny_setField
abbrev aKq:= @Int.mul_le_mul
abbrev aKr:= @Int.mul_nonneg
abbrev aKs:= @List.take_sublist
abbrev aKt:= @Nat.le_succ
abbrev aKu:= @Nat.lt_trichotomy
abbrev aKv:= @PySem.wpAny_newList
abbrev aKw:= @PySem.W.mg_of
abbrev aKx:= @Prod.ext
abbrev aKy:= @Nat.lt_of_not_le
abbrev aKz:= @Nat.succ.inj
abbrev aL0:= @Nat.min_eq_left
abbrev aL2:=PySem.Value->PySem.Shared->Prop
abbrev aL3:=PyProof.Rows.Keyed->PyProof.Rows.Keyed->Bool
abbrev aL4:=PySem.Str->Option PySem.Value
abbrev aL5:=Array PyProof.Rows.Keyed
namespace L2
open PySem PySem.Spec PyProof.Rows
abbrev Key:=Sum Int Str
def xX:Key->Value->Bool
 | .inl k,v=>Value.isInt k v
 | .inr x,v=>Value.isStrOf x v
def aG7(w:World):Key->Int
 | .inl k=>hashInt k
 | .inr x=>hashStr w x
theorem bU:∀{k:Key} {v:Value},xX k v=true->(∃i t,k=Sum.inl i/\v=Value.int i t)\/(∃x t,k=Sum.inr x/\v=Value.str x t)
 | .inl i,v,h=>by
  obtain⟨t,e⟩:=Value.isInt_shape (k:=i) (v:=v) h;exact .inl ⟨i,t,rfl,e⟩
 | .inr x,v,h=>by
  obtain⟨t,e⟩:=Value.isStrOf_shape (x:=x) (v:=v) h;exact .inr ⟨x,t,rfl,e⟩
theorem JU(i:Int)(t:Tok):xX (.inl i) (.int i t)=true:=by simp[xX,Value.isInt]
theorem JT(x:Str)(t:Tok):xX (.inr x) (.str x t)=true:=by simp[xX,Value.isStrOf]
theorem YT(a b:Int):decide ((Sum.inl a:Key)=Sum.inl b)=(a==b):=by
 by_cases e:a=b
 ·subst e;simp
 ·have h:¬(Sum.inl a:Key)=Sum.inl b:=λq=>e (Sum.inl.inj q);rw[decide_eq_false h];exact(aKj.mpr e).symm
theorem YQ(a b:Str):decide ((Sum.inr a:Key)=Sum.inr b)=decide (a=b):=by
 by_cases e:a=b
 ·subst e;simp
 ·have h:¬(Sum.inr a:Key)=Sum.inr b:=λq=>e (Sum.inr.inj q);rw[decide_eq_false h,decide_eq_false e]
theorem YS(a:Int)(b:Str):decide ((Sum.inl a:Key)=Sum.inr b)=false:=aIw (λq=>nomatch q)
theorem YR(a:Str)(b:Int):decide ((Sum.inr a:Key)=Sum.inl b)=false:=aIw (λq=>nomatch q)
def aS(prog:Program)(w:World):PySem.KeyKind prog w Key where
 is:=xX
 hash:=aG7 w
 inj:=λv a b ha hb=>by
  rcases bU ha with ⟨i,t,rfl,rfl⟩ | ⟨x,t,rfl,rfl⟩
  ·rcases bU hb with ⟨j,u,rfl,e⟩ | ⟨y,u,rfl,e⟩
   ·injection e with c _;rw[c]
   ·exact nomatch e
  ·rcases bU hb with ⟨j,u,rfl,e⟩ | ⟨y,u,rfl,e⟩
   ·exact nomatch e
   ·injection e with c _;rw[c]
 byValue:=λk v h=>by
  rcases bU h with ⟨i,t,rfl,rfl⟩ | ⟨x,t,rfl,rfl⟩ <;> rfl
 pyHash:=λd h=>by
  rcases bU d with ⟨i,t,rfl,rfl⟩ | ⟨x,t,rfl,rfl⟩
  ·exact wpAny_pyHash_int h
  ·exact wpAny_pyHash_str h
 eqBool:=λf d h=>by
  rcases bU f with ⟨i,t,rfl,rfl⟩ | ⟨x,t,rfl,rfl⟩
  ·rcases bU d with ⟨j,u,rfl,rfl⟩ | ⟨y,u,rfl,rfl⟩
   ·rw[YT]at h;exact wpAny_eqBool_int h
   ·rw[YS]at h;exact SeqAt.EqAt.int_str i t y u _ _ _ _ h
  ·rcases bU d with ⟨j,u,rfl,rfl⟩ | ⟨y,u,rfl,rfl⟩
   ·rw[YR]at h;exact SeqAt.EqAt.str_int x t j u _ _ _ _ h
   ·rw[YQ]at h;exact wpAny_eqBool_str h
 «strs»:=λk x t v h=>by
  rcases bU h with ⟨i,u,rfl,e⟩ | ⟨y,u,rfl,e⟩
  ·exact nomatch e
  ·injection e with c _;subst c;cases v <;> rfl
theorem CI(prog:Program)(w:World)(i:Int)(t:Tok):(aS prog w).is (.inl i) (.int i t)=true:=JU i t
theorem CH(prog:Program)(w:World)(x:Str)(t:Tok):(aS prog w).is (.inr x) (.str x t)=true:=JT x t
inductive V where
 | b9 | bl (b:Bool) | int (i:Int) | str (x:Str) | byt (b:Array UInt8) | flt (b:UInt64) | ref (a:Addr) | ty (n:String)
 deriving DecidableEq
def RelV:V->Value->Prop
 | .b9,u=>u=Value.none
 | .bl b,u=>u=Value.bool b
 | .int i,u=>∃t,u=Value.int i t
 | .str x,u=>∃t,u=Value.str x t
 | .byt b,u=>∃t,u=Value.bytes b t
 | .flt b,u=>∃t,u=Value.float b t
 | .ref a,u=>u=Value.ref a
 | .ty n,u=>u=Value.type n
abbrev Vals:List V->List Value->Prop:=Paired RelV
variable{us:List Value}
theorem Vals.length{xs:List V}(r:Vals xs us):xs.length=us.length:=Paired.length r
theorem Vals.get:∀{xs:List V} {us:List Value} {i:Nat} {x:V},Vals xs us->xs[i]? =some x->∃u,us[i]? =some u/\RelV x u
 | _,_,_,_,.nil,e=>by simp at e
 | _,_,0,_,.cons r _,e=>by simp at e;subst e;exact⟨_,rfl,r⟩
 | _,_,i+1,x,.cons _ t,e=>by
  obtain⟨u,a,b⟩:=Vals.get (i:=i) (x:=x) t (by simpa using e);exact⟨u,by simpa using a,b⟩
theorem Vals.set{x:V}{u:Value}(r:RelV x u):∀{xs:List V} {us:List Value} (i:Nat),Vals xs us->Vals (xs.set i x) (us.set i u)
 | _,_,_,.nil=>.nil
 | _,_,0,.cons _ t=>.cons r t
 | _,_,i+1,.cons q t=>.cons q (Vals.set r i t)
theorem Vals.append:∀{xs ys:List V} {us a:List Value},Vals xs us->Vals ys a->Vals (xs++ys) (us++a)
 | _,_,_,_,.nil,s=>s
 | _,_,_,_,.cons r t,s=>.cons r (Vals.append t s)
theorem Vals.take:∀{xs:List V} {us:List Value} (n:Nat),Vals xs us->Vals (xs.take n) (us.take n)
 | _,_,0,_=>.nil
 | _,_,_+1,.nil=>.nil
 | _,_,n+1,.cons r t=>.cons r (Vals.take n t)
theorem Vals.drop:∀{xs:List V} {us:List Value} (n:Nat),Vals xs us->Vals (xs.drop n) (us.drop n)
 | _,_,0,r=>r
 | _,_,_+1,.nil=>.nil
 | _,_,n+1,.cons _ t=>Vals.drop n t
theorem Vals.none_of:∀{xs:List V} {us:List Value} {i:Nat},Vals xs us->xs[i]? =none->us[i]? =none:=λ{xs us i} r e=>by
 have a:=r.length;have b:xs.length<=i:=aIj.mp e;exact aIj.mpr (by lia)
def qV:Option V->Option Value->Prop
 | some v,some u=>RelV v u
 | none,none=>True
 | _,_=>False
def KV{κ:Type}:List (κ×V)->List (κ×Value)->Prop:=Paired λ(p:κ×V) (q:κ×Value)=>p.1=q.1/\RelV p.2 q.2
def kV:Key->V
 | .inl i=>.int i
 | .inr x=>.str x
inductive HO where
 | lst (xs:List V)
 | tup (xs:List V)
 | dK (kvs:List (Key×V)) | dT (kvs:List (List Key×V))
 | set (S:Int->Bool) (n:Nat)
 | ins (C dx:Addr) (fs:List (Str×V))
 | own (x:Addr)
 | xd (fs:List (Str×V))
 | met (f x:Addr)
 | rng (lo hi:Int)
 | frz (o:Obj) (u:HO)
 | tbl (ps:Array Value)
 | ext (φ:Heap->Prop)
abbrev Hp:=Addr->Option HO
def upd(H:Hp)(a:Addr)(o:HO):Hp:=λb=>if b=a then some o else H b
variable{H:Hp}{a:Addr}
theorem bC{o:HO}:upd H a o a=some o:=by unfold upd;rw[if_pos rfl]
variable{b:Addr}
theorem aL{o:HO}(h:b≠a):upd H a o b=H b:=by unfold upd;rw[if_neg h]
theorem UY{o u:HO}(h:H a=some o)(h' :H b=some u)(d:o≠u):a≠b:=by
 intro e;subst e;rw[h]at h';exact d (aHd h')
theorem bP{o:HO}(h:H a=some o)(h' :H b=none):a≠b:=by
 intro e;subst e;rw[h]at h';cases h'
theorem y9(h:Heap)(items:Array Value):∀o,(h.push {cls:= .type "tuple",data:= .seq items}).get? h.objs.size=some o->o.dict=none:=λo e=>by rw[Heap.get?_push_size _ rfl]at e;cases e;rfl
section
variable (P:Program)(w:World)
def cH(H:Hp)(h:Heap)(a:Addr):HO->Prop
 | .lst xs=>xs.length<=sizeLine/\∃(aH:List Value) (n:Nat),Vals xs aH/\h.get? a=some {cls:= .type "list",data:= .seq aH.toArray n}
 | .tup xs=>xs.length<=sizeLine/\∃aH:List Value,Vals xs aH/\IsTup h a aH.toArray/\∀o,h.get? a=some o->o.dict=none
 | .dK kvs=>kvs.length<=sizeLine/\(a==sysModules)=false/\∃vs,KV kvs vs/\h.DictOf (aS P w) a vs
 | .dT kvs=>kvs.length<=sizeLine/\(a==sysModules)=false/\∃xs:List (List Key×Addr×Value),
   Paired (λ(p:List Key×V) (q:List Key×Addr×Value)=>p.1=q.1/\H q.2.1=some (.tup (p.1.map kV))/\RelV p.2 q.2.2) kvs xs/\
   ∃o c ep,h.get? a=some o/\o.ExactDict/\o.data= .dict c ep/\c.toList=xs.map (entryOfKey (tupleKind (aS P w)))/\(xs.map (·.1)).Nodup
 | .set S n=>h.SetOf (intKind P w) a S n
 | .ins C dx fs=>H dx=some (.own a)/\fs.length<=1000/\dx≠a/\h.get? a=some (PySem.W.instObj C dx)/\
   ∃b,h.Ns1 dx b/\(∀f,qV (fs.lookup f) (b f))/\PySem.Within b (fs.map (·.1))
 | .own _=>∃o,h.get? a=some o
 | .xd fs=>∃b,h.Ns1 a b/\∀f,qV (fs.lookup f) (b f)
 | .rng lo hi=>∃t u v,h.get? a=some {cls:= .type "range",data:= .fields #[.int lo t,.int hi u,.int 1 v]}
 | .frz o u=>h.get? a=some o/\cH H h a u
 | .tbl ps=>h.get? a=some {cls:= .none,data:= .fields ps}
 | .met f x=>h.get? a=some (PySem.W.methodObj (.ref f) (.ref x))
 | .ext φ=>φ h/\(∃o,h.get? a=some o)/\∀d e:Heap,φ d->(∀o,d.get? a=some o->e.get? a=some o)->φ e
def qE(H:Hp)(h:Heap):Prop:=∀a o,H a=some o->cH P w H h a o
end
section
variable {P:Program}{w:World}{H H' :Hp}{h h' :Heap}{a:Addr}{o:HO}
theorem cH.lt(x:cH P w H h a o):a<h.objs.size:=by
 cases o with
 | lst xs=>obtain⟨_,_,_,_,e⟩:=x;exact aH4 e
 | tup xs=>obtain⟨_,_,_,p,_⟩:=x;exact p.lt
 | dK kvs=>obtain⟨_,_,_,_,o,_,_,e,_⟩:=x;exact aH4 e
 | dT kvs=>obtain⟨_,_,_,_,o,_,_,e,_⟩:=x;exact aH4 e
 | set S n=>obtain⟨o,_,_,_,e,_⟩:=x;exact aH4 e
 | ins C dx fs=>obtain⟨_,_,_,e,_⟩:=x;exact aH4 e
 | own y=>obtain⟨_,e⟩:=x;exact aH4 e
 | xd fs=>obtain⟨_,⟨_,_,_,e,_⟩,_⟩:=x;exact aH4 e
 | rng lo hi=>obtain⟨_,_,_,e⟩:=x;exact aH4 e
 | frz ob u=>obtain⟨e,_⟩:=x;exact aH4 e
 | tbl ps=>exact aH4 (show h.get? a=some _ from x)
 | met f y=>exact aH4 (show h.get? a=some _ from x)
 | ext φ=>obtain⟨_,⟨_,e⟩,_⟩:=x;exact aH4 e
theorem Paired.XT{α e:Type}{F G:α->e->Prop}:∀{c:List α} {d:List e},Paired F c d->(∀a b,F a b->G a b)->Paired G c d
 | _,_,.nil,_=>.nil
 | _,_,.cons r t,f=>.cons (f _ _ r) (Paired.XT t f)
theorem cH.qI(x:cH P w H h a o)(k:∀b u,(b=a\/H b=some (.own a))->h.get? b=some u->h'.get? b=some u)
  (ho:∀b,H b=some (.own a)->H' b=some (.own a)) (ht:∀b xs,H b=some (.tup xs)->H' b=some (.tup xs)):cH P w H' h' a o:=by
 induction o with
 | lst xs=>obtain⟨z,aH,n,r,e⟩:=x;exact⟨z,aH,n,r,k _ _ (.inl rfl) e⟩
 | tup xs=>obtain⟨z,aH,r,⟨ob,e,c⟩,nd⟩:=x;exact⟨z,aH,r,⟨ob,k _ _ (.inl rfl) e,c⟩,λo' j =>by rw[k _ _ (.inl rfl) e]at j;cases j;exact nd _ e⟩
 | dK kvs=>obtain⟨z,y,vs,r,ob,g,ep,e,c⟩:=x;exact⟨z,y,vs,r,ob,g,ep,k _ _ (.inl rfl) e,c⟩
 | dT kvs=>
  obtain⟨z,y,xs,r,ob,g,ep,e,c⟩:=x;exact⟨z,y,xs,Paired.XT r λp q z=>⟨z.1,ht _ _ z.2.1,z.2.2⟩,ob,g,ep,k _ _ (.inl rfl) e,c⟩
 | set S n=>obtain⟨ob,g,ep,t,e,c⟩:=x;exact⟨ob,g,ep,t,k _ _ (.inl rfl) e,c⟩
 | ins C dx fs=>
  obtain⟨d,z,ne,e,i,⟨od,g,ep,l,c⟩,r⟩:=x;exact⟨ho _ d,z,ne,k _ _ (.inl rfl) e,i,⟨od,g,ep,k _ _ (.inr d) l,c⟩,r⟩
 | own y=>obtain⟨ob,e⟩:=x;exact⟨ob,k _ _ (.inl rfl) e⟩
 | xd fs=>obtain⟨i,⟨od,g,ep,e,c⟩,r⟩:=x;exact⟨i,⟨od,g,ep,k _ _ (.inl rfl) e,c⟩,r⟩
 | rng lo hi=>obtain⟨t,u,v,e⟩:=x;exact⟨t,u,v,k _ _ (.inl rfl) e⟩
 | frz ob u ih=>obtain⟨e,q⟩:=x;exact⟨k _ _ (.inl rfl) e,ih q⟩
 | tbl ps=>
  have e:h.get? a=some {cls:= .none,data:= .fields ps}:=x;show h'.get? a=some {cls:= .none,data:= .fields ps};exact k a _ (.inl rfl) e
 | met f y=>
  have e:h.get? a=some (PySem.W.methodObj (.ref f) (.ref y)):=x;show h'.get? a=some (PySem.W.methodObj (.ref f) (.ref y));exact k a _ (.inl rfl) e
 | ext φ=>obtain⟨p,⟨o,e⟩,st⟩:=x;exact⟨st _ _ p λo q=>k _ _ (.inl rfl) q,⟨o,k _ _ (.inl rfl) e⟩,st⟩
theorem qE.lt(x:qE P w H h)(e:H a=some o):a<h.objs.size:=(x a o e).lt
theorem qE.fresh(x:qE P w H h)(e:h.objs.size<=a):H a=none:=by
 cases q:H a with
 | none=>rfl
 | some u=>exact absurd (aHf (x.lt q) e) (aIe _)
theorem qE.kept(x:qE P w H h)(k:∀b u,h.get? b=some u->h'.get? b=some u):qE P w H h' :=λa o e=>
 (x a o e).qI (λb u _ q=>k b u q) (λ_ q=>q) λ_ _ q=>q
theorem qE.laid(x:qE P w H h)(k:∀b u,h.get? b=some u->h'.get? b=some u)(f:h.objs.size<=a)(new:cH P w (upd H a o) h' a o):qE P w (upd H a o) h' :=λb u e=>by
 have d:=x.fresh f;by_cases hb:b=a
 ·subst hb;rw[bC]at e;cases e;exact new
 ·rw[aL hb]at e;exact(x b u e).qI (λc v _ q=>k c v q) (λc q=>by rw[aL (bP q d)];exact q) λc xs q=>by rw[aL (bP q d)];exact q
end
def Rd(H:Hp)(a:Addr)(u:HO):Prop:=H a=some u\/∃o,H a=some (.frz o u)
variable{P:Program}{w:World}{h:Heap}
theorem Rd.ok{u:HO}(r:Rd H a u)(x:qE P w H h):cH P w H h a u:=by
 rcases r with r | ⟨o,r⟩
 ·exact x a u r
 ·obtain⟨_,q⟩:=x a _ r;exact q
def K3:Option HO->Prop
 | some (.lst _)=>True
 | some (.dK _)=>True
 | some (.dT _)=>True
 | some (.set _ _)=>True
 | some (.ins _ _ _)=>True
 | some (.ext _)=>True
 | _=>False
section
variable {P:Program}{w:World}{H:Hp}{h h' :Heap}{x e:Addr}{o' :HO}
theorem qE.write(ok:qE P w H h)(g:K3 (H x))(he:e=x\/H e=some (.own x))(k:∀b u,b≠e->h.get? b=some u->h'.get? b=some u)(i:∃u,h'.get? e=some u)
  (new:cH P w (upd H x o') h' x o'):qE P w (upd H x o') h' :=λb u q=>by
 have d:∀c y,H c=some (.own y)->c≠x:=λc y r z=>by subst z;rw[r]at g;exact g
 have f:∀c xs,H c=some (.tup xs)->c≠x:=λc xs r z=>by subst z;rw[r]at g;exact g
 by_cases hb:b=x
 ·subst hb;rw[bC]at q;cases q;exact new
 ·rw[aL hb]at q;by_cases a:b=e
  ·have j :H b=some (.own x):=by
    rcases he with z | z
    ·exact absurd (a.trans z) hb
    ·rw[a];exact z
   rw[q]at j;cases j;obtain⟨v,l⟩:=i;exact⟨v,by rw[a];exact l⟩
  ·refine(ok b u q).qI (λc v hc r=>k c v ?_ r) (λc r=>by rw[aL (d c b r)];exact r) λc xs r=>by rw[aL (f c xs r)];exact r
   rcases hc with rfl | hc
   ·exact a
   ·rintro rfl;rcases he with z | z
    ·exact d c b hc z
    ·rw[hc]at z;cases z;exact hb rfl
end
structure Un(fs ex:List Addr)(H H' :Hp)(h h' :Heap):Prop where
 keep:∀b o,h.get? b=some o->H b=none->b∉fs->b∉ex->h'.get? b=some o
 slot:∀b o,h.get? b=some o->H b=none->b∈fs->b∉ex->∃sl,h'.get? b=some {o with slots:=sl}
 free:∀b o,h.get? b=some o->H b=none->b∉ex->H' b=none
 there:∀b o,h.get? b=some o->b∉ex->∃o',h'.get? b=some o'
 BM:∀b xs,H b=some (.tup xs)->H' b=some (.tup xs)
 AG:∀b o u,H b=some (.frz o u)->H' b=some (.frz o u)
 BO:∀b ps,H b=some (.tbl ps)->∃more,H' b=some (.tbl (ps++more))
section
variable {fs fs' ex ex' :List Addr}{H H1 H2:Hp}{h h1 h2 h' :Heap}{a x e:Addr}{o:HO}
theorem Un.any(u:Un fs ex H H1 h h1){ob:Obj}(q:h.get? b=some ob)(n:H b=none)(a:b∉ex):∃sl,h1.get? b=some {ob with slots:=sl}:=by
 by_cases hb:b∈fs
 ·exact u.slot b ob q n hb a
 ·exact⟨ob.slots,u.keep b ob q n hb a⟩
theorem Un.kept(k:∀b u,h.get? b=some u->h'.get? b=some u):Un fs ex H H h h' :=
 ⟨λb ob q _ _ _=>k b ob q,λb ob q _ _ _=>⟨ob.slots,k b ob q⟩,λ_ _ _ n _=>n,λb ob q _=>⟨ob,k b ob q⟩,λ_ _ q=>q,λ_ _ _ q=>q,λ_ ps q=>⟨#[],by rw[q];simp⟩⟩
theorem Un.refl:Un fs ex H H h h:=Un.kept λ_ _ q=>q
theorem Un.laid(k:∀b u,h.get? b=some u->h'.get? b=some u)(d:h.objs.size<=a)(c:H a=none):Un fs ex H (upd H a o) h h' where
 keep:=λb u q _ _ _=>k b u q
 slot:=λb u q _ _ _=>⟨u.slots,k b u q⟩
 free:=λb u q n _=>by rw[aL (Nat.ne_of_lt (Nat.lt_of_lt_of_le (Heap.lt_size q) d))];exact n
 there:=λb u q _=>⟨u,k b u q⟩
 BM:=λb xs q=>by rw[aL (bP q c)];exact q
 AG:=λb u xs q=>by rw[aL (bP q c)];exact q
 BO:=λb ps q=>⟨#[],by rw[aL (bP q c),q];simp⟩
theorem Un.write(c:K3 (H x))(he:e=x\/H e=some (.own x))(k:∀b u,b≠e->h.get? b=some u->h'.get? b=some u)(d:∃u,h'.get? e=some u):Un fs ex H (upd H x o) h h' :=by
 have g:∀b,H b=none->b≠x:=λb n z=>by subst z;rw[n]at c;exact c
 have hb:∀b,H b=none->b≠e:=λb n z=>by
  subst z;rcases he with r | r
  ·exact g b n r
  ·rw[n]at r;cases r
 have f:∀b u,H b=some u->¬K3 (some u)->b≠x:=λb u q i z=>by subst z;rw[q]at c;exact i c
 refine⟨λb u q n _ _=>k b u (hb b n) q,λb u q n _ _=>⟨u.slots,k b u (hb b n) q⟩,λb u q n _=>by rw[aL (g b n)];exact n,λb u q _=>?_,
  λb xs q=>by rw[aL (f b _ q λz=>z)];exact q,λb u xs q=>by rw[aL (f b _ q λz=>z)];exact q,λb ps q=>⟨#[],by rw[aL (f b _ q λz=>z),q];simp⟩⟩
 by_cases a:b=e
 ·subst a;exact d
 ·exact⟨u,k b u a q⟩
end
def trk(h:Heap)(H:Hp):List Addr:=(List.range h.objs.size).filter λa=>(H a).isSome
def AE(h:Heap)(H:Hp):Heap:=PySem.W.hideAll h (trk h H)
theorem JZ(h:Heap)(H:Hp):(AE h H).objs.size=h.objs.size:=PySem.W.hideAll_size _ _
variable{o:Obj}
theorem OJ(e:h.get? b=some o)(n:H b=none):(AE h H).get? b=some o:=
 PySem.W.hideAll_get _ e λa=>by
  have q:(H b).isSome=true:=(aIx.mp a).2;rw[n]at q;simp at q
theorem RY(e:(AE h H).get? b=some o):h.get? b=some o/\H b=none:=by
 have a :h.get? b=some o:=PySem.W.of_hideAll (trk h H) e;refine⟨a,?_⟩
 cases q:H b with
 | none=>rfl
 | some x=>
  have c:b∈trk h H:=aIx.mpr ⟨List.mem_range.mpr (aH4 a),by simp[q]⟩;have z:(AE h H).get? b=none:=PySem.W.hideAll_none (trk h H) c;rw[z]at e;cases e
structure Mod(K:aL1)(mg:aL4)(base:Heap):Prop where
 kin:K.In base
 glob:base.Ns mainGlobals mg
 blt:∃mb,base.Ns builtinsNs mb/\∀x:Str,x≠ "__name__"->mb x=bootBuiltins x
 nolimit:base.NoLimit
structure Cx where
 prog:Program
 w:World
 K:aL1
 mg:aL4
 base:Heap
 A:Around
 N:List Str
 s₀:Shared
 H₀:Hp
 env:Env
 outer:List Env
 stack:List Env
 ex:List Addr
 fn:Str->Bool
 calm:Bool
 pn:List (Addr×Obj)
 xe:aL2
def OZ(l:List Env):List Addr:=l.filterMap (·.frame)
abbrev Cx.fs(X:Cx):List Addr:=OZ X.outer
def Vis(sc:Scope)(x:Str):Prop:=sc.names.lookup x=some .local\/sc.names.lookup x=some .cell\/sc.names.lookup x=some .free
def Loc(sc:Scope)(x:Str):Prop:=sc.names.lookup x=some .local\/sc.names.lookup x=some .cell
def Look(env:Env)(h:Heap)(m:aL4)(x:Str)(u:Value):Prop:=
 (env.kindOf x=some .local/\m x=some u)\/((env.kindOf x=some .cell\/env.kindOf x=some .free)/\∃c,env.cells.lookup x=some c/\h.IsCell c (some u))
structure Cx.Ok(X:Cx):Prop where
 mod:Mod X.K X.mg X.base
 kind:X.env.scope.kind= .function
 glob:X.env.globals=mainGlobals
 blt:X.env.builtins=builtinsNs
 above:X.s₀.heap.objs.size<=X.env.locals
 inj:∀x y c,X.env.cells.lookup x=some c->X.env.cells.lookup y=some c->x=y
 has:∀x,(X.env.kindOf x=some .cell\/X.env.kindOf x=some .free)->∃c,X.env.cells.lookup x=some c
 cab:∀x c,X.fn x=true->X.env.cells.lookup x=some c->X.s₀.heap.objs.size<=c
 hd:X.calm=true->X.A.handled=none
 frames:X.A.frames=some X.stack
 stk:X.stack=X.outer\/(X.stack=X.env::X.outer/\X.env.frame=some X.env.locals)
 exf:∀b∈X.ex,b≠X.env.locals/\∀x c,X.env.cells.lookup x=some c->c≠b
 bs:∀b o,X.base.get? b=some o->X.s₀.heap.get? b=some o/\X.H₀ b=none
 T5:X.base.objs.size<=X.s₀.heap.objs.size
 NA:∀b o,X.base.get? b=some o->b∉X.ex
 O3:∀b∈X.ex,b∉X.fs
 vH:X.s₀.heap.FunFrames X.base X.outer
 frf:∀b∈X.fs,X.H₀ b=none
structure Inv(X:Cx)(pins:List (Addr×Obj))(σ:List (Option V))(H:Hp)(s:Shared):Prop where
 ok:X.Ok
 os:s.os=X.s₀.os
 bare:AllBare s.gens
 base:Un X.fs X.ex X.H₀ H X.s₀.heap s.heap
 loc:∃m,s.heap.Ns X.env.locals m/\∀(i:Nat) (x:Str) (v:V),X.N[i]? =some x->σ[i]? =some (some v)->Vis X.env.scope x->∃u,RelV v u/\Look X.env s.heap m x u
 cell:∀x c,X.env.cells.lookup x=some c->∃v,s.heap.IsCell c v
 free:H X.env.locals=none
 lV:∀x c,X.env.cells.lookup x=some c->H c=none
 pin:∀p∈X.pn++pins,s.heap.get? p.1=some p.2/\H p.1=none/\p.1≠X.env.locals/\p.1∉X.fs/\∀v,p.2.data≠ .cell v
 bO:qE X.prog X.w H s.heap
 len:σ.length=X.N.length
section
variable {X:Cx}{pins:List (Addr×Obj)}{σ:List (Option V)}{H H' :Hp}{s:Shared}{h' :Heap}
theorem Cx.Ok.aFw(ok:X.Ok)(e:X.base.get? b=some o):b∉X.fs:=λhb=>by
 have:=(ok.vH.mem hb).1;rw[e]at this;cases this
theorem Inv.bs(I:Inv X pins σ H s):∀b o,X.base.get? b=some o->s.heap.get? b=some o/\H b=none:=λb o e=>
 ⟨I.base.keep b o (I.ok.bs b o e).1 (I.ok.bs b o e).2 (I.ok.aFw e) (I.ok.NA b o e),I.base.free b o (I.ok.bs b o e).1 (I.ok.bs b o e).2 (I.ok.NA b o e)⟩
theorem Inv.bk(I:Inv X pins σ H s):∀b o,X.base.get? b=some o->s.heap.get? b=some o:=λb o e=>(I.bs b o e).1
theorem Inv.mod(I:Inv X pins σ H s):Mod X.K X.mg X.base:=I.ok.mod
theorem Inv.YU(I:Inv X pins σ H s):X.K.In s.heap:=I.ok.mod.kin.keeps I.bk
theorem Inv.fr(I:Inv X pins σ H s):∃m,Fr X.base X.env.locals s.heap m:=
 let ⟨m,hn,_⟩:=I.loc
 ⟨m,hn,I.bk,aHm I.ok.T5 I.ok.above⟩
theorem Inv.lt(I:Inv X pins σ H s):X.env.locals<s.heap.objs.size:=let ⟨_,hn,_⟩:=I.loc;hn.lt
theorem Inv.sz(I:Inv X pins σ H s):X.s₀.heap.objs.size<=s.heap.objs.size:=aHm I.ok.above (aIz I.lt)
theorem Inv.aFv(I:Inv X pins σ H s)(h:s.heap.objs.size<=a):a∉X.fs:=λhb=>by
 obtain⟨_,o,ho,_⟩:=I.ok.vH.mem hb;exact absurd (aHf (aH4 ho) (aHm I.sz h)) (aIe _)
theorem Inv.TX(I:Inv X pins σ H s):∀x c,X.env.cells.lookup x=some c->c≠X.env.locals:=λx c e z=>by
 obtain⟨v,o,ho,hd⟩:=I.cell x c e;obtain⟨m,⟨o',d,ep,a,b,_⟩,_⟩:=I.loc;rw[z,a]at ho;cases ho;rw[b]at hd;cases hd
theorem Inv.vH(I:Inv X pins σ H s):s.heap.FunFrames X.base X.outer:=by
 have all:∀(l:List Env),(∀b∈OZ l,b∈X.fs)->X.s₀.heap.FunFrames X.base l->s.heap.FunFrames X.base l:=by
  intro l
  induction l with
  | nil=>intro _ _;trivial
  | cons env r ih=>
   intro d f;obtain⟨g,⟨L,o,a,h,ho,hd⟩,i⟩:=f;have c:L∈X.fs:=d L (by unfold OZ;rw[List.filterMap_cons,a];exact aGw);obtain⟨sl,e⟩:=I.base.slot L o ho (I.ok.frf L c) c λz=>I.ok.O3 L z c;exact⟨g,⟨L,_,a,h,e,hd⟩,ih (λb hb=>d b (by unfold OZ;rw[List.filterMap_cons,a];exact aGx _ hb)) i⟩
 exact all X.outer (λ_ hb=>hb) I.ok.vH
theorem Inv.stack(I:Inv X pins σ H s):s.heap.FunFrames X.base X.stack:=by
 rcases I.ok.stk with e | ⟨e,a⟩
 ·rw[e];exact I.vH
 ·rw[e];obtain⟨m,b,_⟩:=I.loc;refine .cons (by rw[I.ok.kind];decide) a b ?_ I.vH;exact Heap.get?_none_of_le (aHm I.ok.T5 I.ok.above)
theorem Inv.EO(I:Inv X pins σ H s):∀b∈OZ X.stack,b∈X.env.locals::X.fs:=λb hb=>by
 rcases I.ok.stk with e | ⟨e,a⟩
 ·rw[e]at hb;exact aGx _ hb
 ·rw[e]at hb;unfold OZ at hb;rw[List.filterMap_cons,a]at hb;exact hb
theorem Inv.G3(I:Inv X pins σ H s):∀b∈OZ X.stack,H b=none:=λb hb=>by
 rcases aH2.mp (I.EO b hb) with e | hb
 ·rw[e];exact I.free
 ·obtain⟨_,o,ho,_⟩:=I.ok.vH.mem hb;exact I.base.free b o ho (I.ok.frf b hb) λz=>I.ok.O3 b z hb
variable{g':Array GenState}{t':Nat}{ch:List Addr}
theorem Inv.step{d' :Drawn}(I:Inv X pins σ H s)
  (f:∀b∈ch,(b∈X.ex\/X.s₀.heap.objs.size<=b)/\b≠X.env.locals/\(∀x c,X.env.cells.lookup x=some c->c≠b)/\∀p∈X.pn++pins,p.1≠b)
  (keep:∀b o,b≠X.env.locals->b∉X.fs->b∉ch->s.heap.get? b=some o->H b=none->h'.get? b=some o)
  (slot:∀b o,b≠X.env.locals->b∈X.fs->b∉ch->s.heap.get? b=some o->H b=none->∃sl,h'.get? b=some {o with slots:=sl}) (free:∀b o,b∉ch->s.heap.get? b=some o->H b=none->H' b=none)
  (there:∀b o,b∉ch->s.heap.get? b=some o->∃o',h'.get? b=some o')
  (BM:∀b xs,H b=some (.tup xs)->H' b=some (.tup xs)) (AG:∀b o u,H b=some (.frz o u)->H' b=some (.frz o u)) (BO:∀b ps,H b=some (.tbl ps)->∃more,H' b=some (.tbl (ps++more)))
  (ns:∀m,s.heap.Ns X.env.locals m->h'.Ns X.env.locals m) (bO:qE X.prog X.w H' h') (hg:AllBare g'):
  Inv X pins σ H' {s with heap:=h',gens:=g',drawn:=d',toks:=t'}:=by
 have y:∀b o,X.s₀.heap.get? b=some o->b≠X.env.locals:=λb o e=>aHc (aHf (aH4 e) I.ok.above)
 have j:∀b o,X.s₀.heap.get? b=some o->b∉X.ex->b∉ch:=λb o e a hb=>by
  rcases(f b hb).1 with z | z
  ·exact a z
  ·exact absurd (aHf (aH4 e) z) (aIe _)
 have g:∀x c,X.env.cells.lookup x=some c->∀v,s.heap.IsCell c v->h'.IsCell c v:=λx c e v B=>by
  obtain⟨o,ho,hd⟩:=B;have h:c∉ch:=λz=>(f c z).2.2.1 x c e rfl;by_cases D:c∈X.fs
  ·obtain⟨sl,q⟩:=slot c o (I.TX x c e) D h ho (I.lV x c e);exact⟨_,q,hd⟩
  ·exact⟨o,keep c o (I.TX x c e) D h ho (I.lV x c e),hd⟩
 refine⟨I.ok,I.os,hg,⟨λb o e n hb a=>?_,λb o e n hb a=>?_,λb o e n a=>?_,λb o e a=>?_,λb xs e=>BM b xs (I.base.BM b xs e),λb o xs e=>AG b o xs (I.base.AG b o xs e),λb ps e=>?_⟩,?_,λx c e=>?_,?_,λx c e=>?_,λp E=>?_,bO,I.len⟩
 ·exact keep b o (y b o e) hb (j b o e a) (I.base.keep b o e n hb a) (I.base.free b o e n a)
 ·obtain⟨sl,t⟩:=I.base.slot b o e n hb a;obtain⟨C,A⟩:=slot b _ (y b o e) hb (j b o e a) t (I.base.free b o e n a);exact⟨C,A⟩
 ·obtain⟨o',t⟩:=I.base.there b o e a;exact free b o' (j b o e a) t (I.base.free b o e n a)
 ·obtain⟨o',t⟩:=I.base.there b o e a;exact there b o' (j b o e a) t
 ·obtain⟨m1,t⟩:=I.base.BO b ps e;obtain⟨m2,A⟩:=BO b _ t;exact⟨m1++m2,by rw[A,Array.append_assoc]⟩
 ·obtain⟨m,G,J⟩:=I.loc;refine⟨m,ns m G,λi x v t A K=>?_⟩;obtain⟨u,r,l⟩:=J i x v t A K;refine⟨u,r,?_⟩;rcases l with l | ⟨k,c,e,z⟩
  ·exact .inl l
  ·exact .inr ⟨k,c,e,g x c e _ z⟩
 ·obtain⟨v,z⟩:=I.cell x c e;exact⟨v,g x c e v z⟩
 ·obtain⟨m,⟨o,_,_,ho,_⟩,_⟩:=I.loc;exact free _ o (λz=>(f _ z).2.1 rfl) ho I.free
 ·obtain⟨v,o,ho,hd⟩:=I.cell x c e;exact free c o (λz=>(f c z).2.2.1 x c e rfl) ho (I.lV x c e)
 ·obtain⟨e,n,ne,F,d⟩:=I.pin p E;have h:p.1∉ch:=λz=>(f p.1 z).2.2.2 p E rfl;exact⟨keep p.1 p.2 ne F h e n,free p.1 p.2 h e n,ne,F,d⟩
theorem Inv.un(I:Inv X pins σ H s)(u:Un X.fs [] H H' s.heap h')(bO:qE X.prog X.w H' h'):Inv X pins σ H' {s with heap:=h',toks:=t'}:=by
 obtain⟨m,⟨o,i,ep,ho,r⟩,_⟩:=id I.loc;obtain⟨sl,f⟩:=u.any ho I.free (by simp)
 exact I.step (g' :=s.gens) (d' :=s.drawn) (ch:=[]) (λ_ z=>nomatch z) (λb o _ hb _ e n=>u.keep b o e n hb (by simp)) (λb o _ hb _ e n=>u.slot b o e n hb (by simp)) (λb o _ e n=>u.free b o e n (by simp)) (λb o _ e=>u.there b o e (by simp)) u.BM u.AG u.BO (λj g=>by
  obtain⟨o',c,d,a,h⟩:=g;rw[ho]at a;cases a
  exact⟨_,c,d,f,h⟩) bO I.bare
theorem Inv.call{d' :Drawn}(I:Inv X pins σ H s)(u:Un (OZ X.stack) ch H H' s.heap h')(bO:qE X.prog X.w H' h')(hg:AllBare g')
  (d:∀b∈ch,(b∈X.ex\/X.s₀.heap.objs.size<=b)/\b≠X.env.locals/\(∀x c,X.env.cells.lookup x=some c->c≠b)/\∀p∈X.pn++pins,p.1≠b):
  Inv X pins σ H' {s with heap:=h',gens:=g',drawn:=d',toks:=t'}:=by
 obtain⟨m,⟨o,l,ep,ho,r⟩,_⟩:=id I.loc;obtain⟨sl,g⟩:=u.any ho I.free λz=>(d _ z).2.1 rfl
 exact I.step (ch:=ch) d (λb o g hb a e n=>u.keep b o e n (λz=>(aH2.mp (I.EO b z)).elim g hb) a) (λb o _ _ a e n=>u.any e n a) (λb o a e n=>u.free b o e n a) (λb o a e=>u.there b o e a) u.BM u.AG u.BO (λq j=>by
  obtain⟨o',h,i,f,k⟩:=j;rw[ho]at f;cases f
  exact⟨_,h,i,g,k⟩) bO hg
theorem Inv.turned{it:Addr}(I:Inv X pins σ H s)(k:∀b o,b≠it->s.heap.get? b=some o->h'.get? b=some o)(g:H it=none)(f:it≠X.env.locals)
  (h:it∈X.ex\/X.s₀.heap.objs.size<=it) (i:∀x c,X.env.cells.lookup x=some c->c≠it) (j:∀p∈X.pn++pins,p.1≠it):Inv X pins σ H {s with heap:=h',toks:=t'}:=by
 have d:∀b u,H b=some u->b≠it:=λb u e z=>by rw[z,g]at e;cases e
 refine I.step (g' :=s.gens) (d' :=s.drawn) (ch:=[it]) (λb hb=>?_) (λb o _ _ a e _=>k b o (λz=>a (by simp[z])) e) (λb o _ _ a e _=>⟨o.slots,k b o (λz=>a (by simp[z])) e⟩) (λ_ _ _ _ n=>n)
  (λb o a e=>⟨o,k b o (λz=>a (by simp[z])) e⟩) (λ_ _ e=>e) (λ_ _ _ e=>e) (λb ps e=>⟨#[],by rw[e];simp⟩) (λm l=>?_) (λb u e=>?_) I.bare
 ·have e:b=it:=by simpa using hb
  subst e;exact⟨h,f,i,j⟩
 ·obtain⟨o,t,ep,ho,r⟩:=l;exact⟨o,t,ep,k _ o (aHv f) ho,r⟩
 ·refine(I.bO b u e).qI (λc v a q=>k c v ?_ q) (λ_ q=>q) λ_ _ q=>q;rcases a with z | z
  ·rw[z];exact d b u e
  ·exact d c _ z
theorem Inv.tok(I:Inv X pins σ H s)(t:Nat):Inv X pins σ H {s with toks:=t}:=I.un (h' :=s.heap) (t' :=t) Un.refl I.bO
theorem Inv.kept(I:Inv X pins σ H s)(k:∀b u,s.heap.get? b=some u->h'.get? b=some u):Inv X pins σ H {s with heap:=h',toks:=t'}:=I.un (Un.kept k) (I.bO.kept k)
theorem Inv.laid{o:HO}(I:Inv X pins σ H s)(k:∀b u,s.heap.get? b=some u->h'.get? b=some u)(c:s.heap.objs.size<=a)(new:cH X.prog X.w (upd H a o) h' a o):
  Inv X pins σ (upd H a o) {s with heap:=h',toks:=t'}:=I.un (Un.laid k c (I.bO.fresh c)) (I.bO.laid k c new)
theorem Inv.write{x e:Addr}{o:HO}(I:Inv X pins σ H s)(c:K3 (H x))(he:e=x\/H e=some (.own x))(k:∀b u,b≠e->s.heap.get? b=some u->h'.get? b=some u)(a:∃u,h'.get? e=some u)
  (new:cH X.prog X.w (upd H x o) h' x o):Inv X pins σ (upd H x o) {s with heap:=h',toks:=t'}:=I.un (Un.write c he k a) (I.bO.write c he k a new)
theorem Inv.weak{a :List (Option V)}(I:Inv X pins σ H s)(b:a.length=σ.length)(w:∀(i:Nat) v,a[i]? =some (some v)->σ[i]? =some (some v)):Inv X pins a H s:=
 ⟨I.ok,I.os,I.bare,I.base,let ⟨m,hn,hl'⟩:=I.loc;⟨m,hn,λi x v c d e=>hl' i x v c (w i v d) e⟩,I.cell,I.free,I.lV,I.pin,I.bO,b.trans I.len⟩
theorem Inv.HC{a :List (Addr×Obj)}(I:Inv X pins σ H s)(h:∀p∈a,s.heap.get? p.1=some p.2/\H p.1=none/\p.1≠X.env.locals/\p.1∉X.fs/\∀v,p.2.data≠ .cell v):Inv X a σ H s:=
 ⟨I.ok,I.os,I.bare,I.base,I.loc,I.cell,I.free,I.lV,λp b=>(aGz.mp b).elim (λz=>I.pin p (aHn _ z)) (h p),I.bO,I.len⟩
theorem CF{N:List Str}(hN:N.Nodup){i j:Nat}{x:Str}(a:N[i]? =some x)(b:N[j]? =some x):i=j:=by
 obtain⟨e,c⟩:=aGt.mp a;obtain⟨f,d⟩:=aGt.mp b;exact(List.getElem_inj hN).mp (c.trans d.symm)
variable{Q:Unit->Shared->Prop}
theorem IW{M:Model}{A:Around}{E:aL2}{i:Nat}{x:Str}{v:V}{u:Value}(I:Inv X pins σ H s)(hN:X.N.Nodup)(hi:X.N[i]? =some x)(t:Loc X.env.scope x)(r:RelV v u)
  (h:∀T,Inv X pins (σ.set i (some v)) H T ->(∃a,Heap.SameBut a s.heap T.heap/\(a=X.env.locals\/X.env.cells.lookup x=some a))->Q () T) (hf:X.fn x=true\/X.env.scope.names.lookup x=some .local:=by first | exact .inl rfl | exact .inr rfl | assumption):wpAny M A (storeName X.env x u) Q E s:=by
 obtain⟨m,U,hl⟩:=id I.loc;have J:(X.env.scope.kind== .class || (X.env.scope.kind== .module && X.env.locals !=X.env.globals))=false:=by rw[I.ok.kind];rfl
 have D:i<σ.length:=by rw[I.len];exact(aGt.mp hi).1
 have TX:=I.TX
 have g:∀{a:Addr} {h' :Heap},(∃o,s.heap.get? a=some o/\H a=none)->Heap.SameBut a s.heap h' ->qE X.prog X.w H h' :=λ{a h'} ha f b ob e=>by
  obtain⟨_,_,B⟩:=ha;refine(I.bO b ob e).qI (λc R hc q=>(f.2 c ?_).trans q) (λ_ q=>q) λ_ _ q=>q;rintro rfl;rcases hc with rfl | hc
  ·rw[B]at e;cases e
  ·rw[B]at hc;cases hc
 rcases t with hk | hk
 ·refine wpAny_storeName_local hk U (λh' W f=>?_) J;obtain⟨oL,_,_,Y,_⟩:=id U;refine h _ ⟨I.ok,I.os,I.bare,⟨λb o e n hb t=>?_,λb o e n hb t=>?_,I.base.free,λb o e t=>?_,I.base.BM,I.base.AG,I.base.BO⟩,⟨_,W,λj y Z l C e3=>?_⟩,λy c e=>?_,I.free,I.lV,λp hp=>?_,g ⟨oL,Y,I.free⟩ f,by simpa using I.len⟩ ⟨_,f,.inl rfl⟩
  ·exact(f.2 b (aHc (aHf (aH4 e) I.ok.above))).trans (I.base.keep b o e n hb t)
  ·obtain⟨sl,l⟩:=I.base.slot b o e n hb t;exact⟨sl,(f.2 b (aHc (aHf (aH4 e) I.ok.above))).trans l⟩
  ·obtain⟨o',l⟩:=I.base.there b o e t;exact⟨o',(f.2 b (aHc (aHf (aH4 e) I.ok.above))).trans l⟩
  ·by_cases F:j=i
   ·subst F;rw[hi]at l;cases l;rw[List.getElem?_set_self D]at C;cases C;exact⟨u,r,.inl ⟨hk,by simp⟩⟩
   ·rw[List.getElem?_set_ne (Ne.symm F)]at C;obtain⟨u',r',q⟩:=hl j y Z l C e3;refine⟨u',r',?_⟩
    rcases q with ⟨k,e⟩ | ⟨k,c,e,z⟩
    ·refine .inl ⟨k,?_⟩;have:y≠x:=λe=>F (CF hN l (e▸hi));simp[this,e]
    ·exact .inr ⟨k,c,e,z.sameBut f (TX y c e)⟩
  ·obtain⟨R,z⟩:=I.cell y c e;exact⟨R,z.sameBut f (TX y c e)⟩
  ·obtain⟨e,n,ne,nf,d⟩:=I.pin p hp;exact⟨(f.2 p.1 ne).trans e,n,ne,nf,d⟩
 ·have G:X.fn x=true:=by
   rcases hf with z | z
   ·exact z
   ·rw[z]at hk;cases hk
  obtain⟨c,hc⟩:=I.ok.has x (.inl hk);obtain⟨R,z⟩:=I.cell x c hc;refine wpAny_storeName_cell I.ok.kind hk hc z (λh' K f=>?_);obtain⟨oc,L,O⟩:=id z;refine h {s with heap:=h'} ⟨I.ok,I.os,I.bare,⟨λb o e n hb t=>?_,λb o e n hb t=>?_,I.base.free,λb o e t=>?_,I.base.BM,I.base.AG,I.base.BO⟩,⟨m,U.sameBut f (aHv (TX x c hc)),λj y Z l C e3=>?_⟩,λy S e=>?_,I.free,I.lV,λp hp=>?_,g ⟨oc,L,I.lV x c hc⟩ f,by simpa using I.len⟩ ⟨c,f,.inr hc⟩
  ·exact(f.2 b (aHc (aHf (aH4 e) (I.ok.cab x c G hc)))).trans (I.base.keep b o e n hb t)
  ·obtain⟨sl,l⟩:=I.base.slot b o e n hb t;exact⟨sl,(f.2 b (aHc (aHf (aH4 e) (I.ok.cab x c G hc)))).trans l⟩
  ·obtain⟨o',l⟩:=I.base.there b o e t;exact⟨o',(f.2 b (aHc (aHf (aH4 e) (I.ok.cab x c G hc)))).trans l⟩
  ·by_cases F:j=i
   ·subst F;rw[hi]at l;cases l;rw[List.getElem?_set_self D]at C;cases C;exact⟨u,r,.inr ⟨.inl hk,c,hc,K⟩⟩
   ·rw[List.getElem?_set_ne (Ne.symm F)]at C;obtain⟨u',r',q⟩:=hl j y Z l C e3;refine⟨u',r',?_⟩;rcases q with q | ⟨k,S,e,z'⟩
    ·exact .inl q
    ·refine .inr ⟨k,S,e,z'.sameBut f ?_⟩;rintro rfl;exact F (CF hN l (I.ok.inj _ _ _ e hc▸hi))
  ·by_cases P:S =c
   ·subst P;exact⟨_,K⟩
   ·obtain⟨w2,z2⟩:=I.cell y S e;exact⟨w2,z2.sameBut f P⟩
  ·obtain⟨e,n,ne,nf,d⟩:=I.pin p hp;refine⟨(f.2 p.1 ?_).trans e,n,ne,nf,d⟩;intro q;rw[q,L]at e;have q' :oc=p.2:=aHd e;exact d R (by rw[<-q'];exact O)
theorem tY{M:Model}{A:Around}{E:aL2}{i:Nat}{x:Str}{v:V}{u:Value}(I:Inv X pins σ H s)(hN:X.N.Nodup)(hi:X.N[i]? =some x)(b:Loc X.env.scope x)(r:RelV v u)
  (h:∀a,Inv X pins (σ.set i (some v)) H a ->Q () a) (c:X.fn x=true\/X.env.scope.names.lookup x=some .local:=by first | exact .inl rfl | exact .inr rfl | assumption):wpAny M A (storeName X.env x u) Q E s:=
 IW I hN hi b r (λa d _=>h a d) c
theorem Inv.aD7{a :Shared}(I:Inv X pins σ H s)(ho:a.os=s.os)(u:Un (OZ X.stack) ch H H' s.heap a.heap)(bO:qE X.prog X.w H' a.heap)(hg:AllBare a.gens)
  (d:∀b∈ch,(b∈X.ex\/X.s₀.heap.objs.size<=b)/\b≠X.env.locals/\(∀x c,X.env.cells.lookup x=some c->c≠b)/\∀p∈X.pn++pins,p.1≠b):Inv X pins σ H' a :=by
 obtain⟨h',g',d',t',o'⟩:=a;have e:o' =s.os:=ho;subst e;exact I.call (g' :=g') (t' :=t') (d' :=d') u bO hg d
end
abbrev XK:=Value->Option Addr->Hp->Prop
abbrev St:=List (Option V)
abbrev VK:=V->Hp->Prop
abbrev TE:=St->Hp->VK->Prop
abbrev TT:=St->Hp->(Bool->Hp->Prop)->Prop
abbrev TA:=St->Hp->(List V->Hp->Prop)->Prop
structure Ends where
 nx:St->Hp->Prop
 rt:VK
 bk:St->Hp->Prop:=λ_ _=>False
 ct:St->Hp->Prop:=λ_ _=>False
abbrev TS:=Ends->St->Hp->Prop
def EP(X:Cx)(pins:List (Addr×Obj))(σ:St)(Q:VK)(u:Value)(a :Shared):Prop:=∃v H',Inv X pins σ H' a /\RelV v u/\Q v H'
def TP(X:Cx)(pins:List (Addr×Obj))(σ:St)(Q:Bool->Hp->Prop)(b:Bool)(a :Shared):Prop:=∃H',Inv X pins σ H' a /\Q b H'
def AP(X:Cx)(pins:List (Addr×Obj))(σ:St)(Q:List V->Hp->Prop)(us:List Value)(a :Shared):Prop:=∃vs H',Inv X pins σ H' a /\Vals vs us/\Q vs H'
def SP(X:Cx)(pins:List (Addr×Obj))(D:Ends)(f:Flow)(b :Shared):Prop:=
 match f with
 | .next=>∃a H',Inv X pins a H' b /\D.nx a H'
 | .brk=>∃a H',Inv X pins a H' b /\D.bk a H'
 | .cont=>∃a H',Inv X pins a H' b /\D.ct a H'
 | .ret u=>∃v a H',Inv X pins a H' b /\RelV v u/\D.rt v H'
def PE(X:Cx)(e:Expr)(t:TE):Prop:=
 ∀(pins:List (Addr×Obj)) (s:Shared) (σ:St) (H:Hp) (Q:VK),Inv X pins σ H s->t σ H Q->wpAny (model X.prog X.w) X.A (eval e X.env) (EP X pins σ Q) X.xe s
def PT(X:Cx)(e:Expr)(t:TT):Prop:=
 ∀(pins:List (Addr×Obj)) (s:Shared) (σ:St) (H:Hp) (Q:Bool->Hp->Prop),Inv X pins σ H s->t σ H Q->wpAny (model X.prog X.w) X.A (isTrue e X.env (eval e X.env)) (TP X pins σ Q) X.xe s
def PW(X:Cx)(e:Expr)(t:TT):Prop:=
 ∀(a:Sem Value) (pins:List (Addr×Obj)) (s:Shared) (σ:St) (H:Hp) (Q:Bool->Hp->Prop),Inv X pins σ H s->t σ H Q->wpAny (model X.prog X.w) X.A (isTrue e X.env a) (TP X pins σ Q) X.xe s
variable{e:Expr}
theorem PW.pt{X:Cx}{t:TT}(h:PW X e t):PT X e t:=h _
def PA(X:Cx)(a:List Expr)(t:TA):Prop:=
 ∀(pos:Pos) (pins:List (Addr×Obj)) (s:Shared) (σ:St) (H:Hp) (Q:List V->Hp->Prop),Inv X pins σ H s->t σ H Q->wpAny (model X.prog X.w) X.A (spliced (backTo pos (starEach a X.env))) (AP X pins σ Q) X.xe s
def PS(X:Cx)(st:Stmt)(t:TS):Prop:=
 ∀(pins:List (Addr×Obj)) (s:Shared) (σ:St) (H:Hp) (D:Ends),Inv X pins σ H s->t D σ H->wpAny (model X.prog X.w) X.A (exec st X.env) (SP X pins D) X.xe s
def A5(X:Cx)(st:List Stmt)(t:TS):Prop:=
 ∀(pins:List (Addr×Obj)) (s:Shared) (σ:St) (H:Hp) (D:Ends),Inv X pins σ H s->t D σ H->wpAny (model X.prog X.w) X.A (execs st X.env) (SP X pins D) X.xe s
variable{A:Around}{E:aL2}{s:Shared}
theorem cJ{α:Type}{t:Sem α}{Q b :α->Shared->Prop}{M:Model}(h:wpAny M A t Q E s)(c:∀a s,Q a s->b a s):wpAny M A t b E s:=aIg h c λ_ _ x=>x
section
variable {X:Cx}
def aEi(i:Nat):TE:=λσ H Q=>∃v,σ[i]? =some (some v)/\Q v H
def tC(v:V):TE:=λ_ H Q=>Q v H
variable{x:Str}{pos:Pos}
theorem WR{i:Nat}(hN:X.N[i]? =some x)(f:Vis X.env.scope x)(hd:(x==("__debug__":Str))=false:=by decide)(b:(x==("__classdict__":Str))=false:=by decide):PE X (.Name x pos) (aEi i):=by
 intro pins s σ H Q I h;obtain⟨v,e,h⟩:=h;obtain⟨m,g,j⟩:=I.loc;obtain⟨u,r,l⟩:=j i x v hN e f
 have fin:EP X pins σ Q u s:=⟨v,H,I,r,h⟩
 rcases l with ⟨hk,k⟩ | ⟨hk,c,d,a⟩
 ·exact wpAny_Name (wpAny_loadName_local I.ok.kind hk g k fin) hd
 ·rcases hk with hk | hk
  ·exact wpAny_Name (wpAny_loadName_cell I.ok.kind hk d a fin) hd
  ·exact wpAny_Name (wpAny_loadName_free I.ok.kind hk d a fin b) hd
theorem WX{i j pos}:PE X (.Constant (.int i) j pos) (tC (.int i)):=λ_ _ _ H _ I h=>wpAny_Constant_int ⟨.int i,H,I.tok _,⟨_,rfl⟩,h⟩
theorem aBz{b j pos}:PE X (.Constant (.bool b) j pos) (tC (.bl b)):=λ_ _ _ H _ I h=>Constant_bool ⟨.bl b,H,I,rfl,h⟩
def Gl(X:Cx)(x:Str):Prop:=X.env.kindOf x=some .globalImplicit
variable{pins:List (Addr×Obj)}{u:Value}
theorem SX{σ:St}{Q:aL2}(I:Inv X pins σ H s)(hg:Gl X x)(a:X.mg x=some u)(h:Q u s)
  (hd:(x==("__debug__":Str))=false:=by decide):wpAny (model X.prog X.w) X.A (eval (.Name x pos) X.env) Q E s:=
 Calls.Name_function_global I.ok.kind hg (Calls.loadGlobal_global (by rw[I.ok.glob];exact I.mod.glob.keeps I.bk) a h) hd
theorem n9{σ:St}{Q:aL2}(I:Inv X pins σ H s)(hg:Gl X x)(a:X.mg x=none)(b:bootBuiltins x=some u)(h:Q u s)
  (c:x≠ "__name__":=by decide) (hd:(x==("__debug__":Str))=false:=by decide):wpAny (model X.prog X.w) X.A (eval (.Name x pos) X.env) Q E s:=by
 obtain⟨mb,d,e⟩:=I.mod.blt;exact Calls.Name_function_global I.ok.kind hg (Calls.loadGlobal_builtin (by rw[I.ok.glob];exact I.mod.glob.keeps I.bk) a (by rw[I.ok.blt];exact d.keeps I.bk) ((e x c).trans b) h) hd
theorem RP{v:V}(hg:Gl X x)(a:X.mg x=none)(b:bootBuiltins x=some u)(r:RelV v u)(c:x≠ "__name__":=by decide)(hd:(x==("__debug__":Str))=false:=by decide):PE X (.Name x pos) (tC v):=
 λ_ _ _ H _ I h=>n9 I hg a b ⟨v,H,I,r,h⟩ c hd
variable {a b:Expr}{ta tb:TE}{pos:Pos}
theorem NC(b:Expr){a:CmpOp}(h:a≠ .In)(c:a≠ .NotIn):behindInMarks a b=false:=by
 have d:(a==CmpOp.In)=false:=by cases a <;> first | rfl | exact absurd rfl h
 have e:(a==CmpOp.NotIn)=false:=by cases a <;> first | rfl | exact absurd rfl c
 cases b <;> simp[behindInMarks,d,e]
variable {tA tB' :TT}{rest:List Expr}
def aEw(t u:TT):TT:=λσ H Q=>t σ H λc a=>if c=true then u σ a Q else Q false a
def tOr(t u:TT):TT:=λσ H Q=>t σ H λc a=>if c=true then Q true a else u σ a Q
def aEo(t:TT):TT:=λσ H Q=>t σ H λc a=>Q (!c) a
theorem Q7(ha:PT X a tA):PW X (.BoolOp .And [a] pos) tA:=by
 intro b pins s σ H Q I h;refine isTrue_and (cJ (ha pins s σ H Q I h) λc s1 e=>?_)
 cases c with
 | true=>exact isTrue_and_nil e
 | false=>exact e
theorem WB(ha:PT X a tA):PW X (.BoolOp .Or [a] pos) tA:=by
 intro b pins s σ H Q I h;refine isTrue_or (cJ (ha pins s σ H Q I h) λc s1 e=>?_)
 cases c with
 | false=>exact isTrue_or_nil e
 | true=>exact e
theorem WC(ha:PT X a tA)(hb:PW X (.BoolOp .And (b::rest) pos) tB'):PW X (.BoolOp .And (a::b::rest) pos) (aEw tA tB'):=by
 intro i pins s σ H Q I h;refine isTrue_and (cJ (ha pins s σ H _ I h) λc s1 d=>?_);obtain⟨e,f,g⟩:=d
 cases c with
 | true=>exact hb i pins s1 σ e Q f g
 | false=>exact⟨e,f,g⟩
theorem aBq(ha:PT X a tA)(hb:PW X (.BoolOp .Or (b::rest) pos) tB'):PW X (.BoolOp .Or (a::b::rest) pos) (tOr tA tB'):=by
 intro i pins s σ H Q I h;refine isTrue_or (cJ (ha pins s σ H _ I h) λc s1 d=>?_);obtain⟨e,f,g⟩:=d
 cases c with
 | true=>exact⟨e,f,g⟩
 | false=>exact hb i pins s1 σ e Q f g
theorem WD(ha:PT X a tA):PT X (.UnaryOp .Not a pos) (aEo tA):=by
 intro pins s σ H Q I h;exact isTrue_not (ha pins s σ H (λc b=>Q (!c) b) I h)
def aBa(ta tb:TE):TE:=λσ H Q=>ta σ H λx a=>∃c,x= .bl c/\if c=true then tb σ a Q else Q (.bl false) a
def aB3(ta:TE):TE:=λσ H Q=>ta σ H λx a=>∃c,x= .bl c/\Q (.bl (!c)) a
theorem WU{op}{t:TE}(h:PE X a t):PE X (.BoolOp op [a] pos) t:=λpins s σ H Q I b=>BoolOp_one (h pins s σ H Q I b)
theorem WY(ha:PE X a ta)(hb:PE X (.BoolOp .And (b::rest) pos) tb):PE X (.BoolOp .And (a::b::rest) pos) (aBa ta tb):=by
 intro pins s σ H Q I h;refine BoolOp_and (cJ (ha pins s σ H _ I h) λv s1 e=>?_);obtain⟨x,f,g,i,d⟩:=e;obtain⟨c,rfl,d⟩:=d;cases i;refine aJy ?_
 cases c with
 | true=>exact hb pins s1 σ f Q g d
 | false=>exact⟨.bl false,f,g,rfl,d⟩
theorem WV(ha:PE X a ta):PE X (.UnaryOp .Not a pos) (aB3 ta):=by
 intro pins s σ H Q I h;refine UnaryOp_ (cJ (ha pins s σ H _ I h) λv s1 b=>?_);obtain⟨x,e,f,g,d⟩:=b;obtain⟨c,rfl,d⟩:=d;cases g;exact not_of (aJy ⟨.bl (!c),e,f,rfl,d⟩)
def tIf(t:TT)(ta tb:TE):TE:=λσ H Q=>t σ H λc a=>if c=true then ta σ a Q else tb σ a Q
theorem MQ{c:Expr}(j:PT X c tA)(ha:PE X a ta)(hb:PE X b tb):PE X (.IfExp c a b pos) (tIf tA ta tb):=by
 intro pins s σ H Q I h;refine wpAny_IfExp (cJ (j pins s σ H _ I h) λd s1 e=>?_);obtain⟨f,g,i⟩:=e
 cases d with
 | true=>exact ha pins s1 σ f Q g i
 | false=>exact hb pins s1 σ f Q g i
end
def oI(K:aL1)(H:Hp)(a:Addr)(xs:List V):Prop:=
 Rd H a (.lst xs)\/
  ∃(o:Obj) (aH:Array Value) (n:Nat),K.lookup a=some o/\o.cls= .type "list"/\o.dict=none/\o.data= .seq aH n/\aH.size<=sizeLine/\Vals xs aH.toList
def sL(K:aL1)(H:Hp)(a:Addr)(xs:List V):Prop:=
 Rd H a (.tup xs)\/
  ∃(o:Obj) (aH:Array Value) (n:Nat),K.lookup a=some o/\o.cls= .type "tuple"/\o.dict=none/\o.data= .seq aH n/\aH.size<=sizeLine/\Vals xs aH.toList
def aGm:Value->Option V
 | .none=>some .b9
 | .bool b=>some (.bl b)
 | .int i _=>some (.int i)
 | .str x _=>some (.str x)
 | .bytes b _=>some (.byt b)
 | .float b _=>some (.flt b)
 | .ref a=>some (.ref a)
 | .type n=>some (.ty n)
 | _=>none
variable{u:Value}
theorem RelV.abs{x:V}(r:RelV x u):aGm u=some x:=by
 cases x with
 | b9=>cases r;rfl
 | bl _=>cases r;rfl
 | int _=>obtain⟨t,rfl⟩:=r;rfl
 | str _=>obtain⟨t,rfl⟩:=r;rfl
 | byt _=>obtain⟨t,rfl⟩:=r;rfl
 | flt _=>obtain⟨t,rfl⟩:=r;rfl
 | ref _=>cases r;rfl
 | ty _=>cases r;rfl
theorem RelV.inj{x y:V}(r:RelV x u)(q:RelV y u):x=y:=aHd (r.abs.symm.trans q.abs)
theorem Vals.inj:∀{xs ys:List V} {us:List Value},Vals xs us->Vals ys us->xs=ys
 | _,_,_,.nil,.nil=>rfl
 | _,_,_,.cons r t,.cons r' t' =>by rw[r.inj r',Vals.inj t t']
section
variable {X:Cx}{pins:List (Addr×Obj)}{σ:St}{H:Hp}{s:Shared}{a:Addr}{xs ys:List V}
theorem oI.of{K:aL1}(h:H a=some (.lst xs)):oI K H a xs:= .inl (.inl h)
theorem Inv.list(I:Inv X pins σ H s)(h:oI X.K H a xs):∃aH:List Value,Vals xs aH/\PlainL s.heap a aH.toArray/\xs.length<=sizeLine:=by
 rcases h with h | ⟨o,aH,n,b,c,hd,d,hz,r⟩
 ·obtain⟨z,aH,n,r,e⟩:=h.ok I.bO;exact⟨aH,r,⟨_,n,e,rfl,rfl,rfl⟩,z⟩
 ·refine⟨aH.toList,r,⟨o,n,I.YU a o b,c,hd,by simpa using d⟩,?_⟩;have e:=r.length;simp only[Array.length_toList]at e
  lia
theorem Inv.tuple(I:Inv X pins σ H s)(h:sL X.K H a xs):∃aH:List Value,Vals xs aH/\IsTup s.heap a aH.toArray/\xs.length<=sizeLine:=by
 rcases h with h | ⟨o,aH,n,b,c,_,d,hz,r⟩
 ·obtain⟨z,aH,r,p,_⟩:=h.ok I.bO;exact⟨aH,r,p,z⟩
 ·refine⟨aH.toList,r,⟨o,I.YU a o b,c,n,by simpa using d⟩,?_⟩;have e:=r.length;simp only[Array.length_toList]at e
  lia
theorem Inv.VO(I:Inv X pins σ H s)(h:sL X.K H a xs):∃ob,s.heap.get? a=some ob/\ob.cls= .type "tuple"/\ob.dict=none:=by
 rcases h with h | ⟨o,aH,n,b,d,hd,f,hz,r⟩
 ·obtain⟨z,aH,r,⟨o,e,c,_⟩,nd⟩:=h.ok I.bO;exact⟨o,e,c,nd o e⟩
 ·exact⟨o,I.YU a o b,d,hd⟩
theorem Inv.CQ(I:Inv X pins σ H s)(h:oI X.K H a xs)(h' :oI X.K H a ys):xs=ys:=by
 obtain⟨aH,r,⟨o,n,e,_,_,d⟩,_⟩:=I.list h;obtain⟨its',c,⟨o',g,b,_,_,d'⟩,_⟩:=I.list h';rw[e]at b;cases b;rw[d]at d';injection d' with f _;have:aH=its' :=by simpa using aHu Array.toList f
 subst this;exact r.inj c
theorem Inv.xA(I:Inv X pins σ H s)(h:sL X.K H a xs)(h' :sL X.K H a ys):xs=ys:=by
 obtain⟨aH,r,⟨o,e,_,n,d⟩,_⟩:=I.tuple h;obtain⟨its',c,⟨o',b,_,g,d'⟩,_⟩:=I.tuple h';rw[e]at b;cases b;rw[d]at d';injection d' with f _;have:aH=its' :=by simpa using aHu Array.toList f
 subst this;exact r.inj c
end
abbrev Cx.v7(X:Cx)(E:aL2):Cx:={X with xe:=E}
abbrev Cx.QA(X:Cx):Cx:=X.v7 λ_ _=>False
theorem Cx.Ok.v7{X:Cx}(ok:X.Ok)(E:aL2):(X.v7 E).Ok:=
 ⟨ok.mod,ok.kind,ok.glob,ok.blt,ok.above,ok.inj,ok.has,ok.cab,ok.hd,ok.frames,ok.stk,ok.exf,ok.bs,ok.T5,ok.NA,ok.O3,ok.vH,ok.frf⟩
theorem Cx.Ok.lG{X:Cx}(ok:(X.v7 E).Ok):X.Ok:=
 ⟨ok.mod,ok.kind,ok.glob,ok.blt,ok.above,ok.inj,ok.has,ok.cab,ok.hd,ok.frames,ok.stk,ok.exf,ok.bs,ok.T5,ok.NA,ok.O3,ok.vH,ok.frf⟩
section
variable {X:Cx}{pins:List (Addr×Obj)}{σ:St}{H:Hp}{s:Shared}{E:aL2}
theorem Inv.v7(I:Inv X pins σ H s)(E:aL2):Inv (X.v7 E) pins σ H s:=⟨I.ok.v7 E,I.os,I.bare,I.base,I.loc,I.cell,I.free,I.lV,I.pin,I.bO,I.len⟩
theorem Inv.lG(I:Inv (X.v7 E) pins σ H s):Inv X pins σ H s:=⟨I.ok.lG,I.os,I.bare,I.base,I.loc,I.cell,I.free,I.lV,I.pin,I.bO,I.len⟩
theorem SP.lG{D:Ends}{f:Flow}{b :Shared}(h:SP (X.v7 E) pins D f b):SP X pins D f b :=by
 cases f with
 | next=>obtain⟨a,H',I,q⟩:=h;exact⟨a,H',I.lG,q⟩
 | brk=>obtain⟨a,H',I,q⟩:=h;exact⟨a,H',I.lG,q⟩
 | cont=>obtain⟨a,H',I,q⟩:=h;exact⟨a,H',I.lG,q⟩
 | ret u=>obtain⟨v,a,H',I,r,q⟩:=h;exact⟨v,a,H',I.lG,r,q⟩
theorem A5.QA{st:List Stmt}{t:TS}(h:A5 X.QA st t):A5 X st t:=λpins s σ H D I a=>
 aIg (h pins s σ H D (I.v7 _) a) (λ_ _ q=>q.lG) λ_ _ z=>False.elim z
end
section
variable {X:Cx}{st:Stmt}{rest:List Stmt}{t u:TS}{e:Expr}{te:TE}{pos:Pos}
def aB5:TS:=λD σ H=>D.nx σ H
def aEm(t u:TS):TS:=λD σ H=>t {D with nx:=u D} σ H
theorem RD:A5 X [] aB5:=λ_ _ σ H _ I h=>aKd ⟨σ,H,I,h⟩
theorem MF(b:PS X st t)(c:A5 X rest u):A5 X (st::rest) (aEm t u):=by
 intro pins s σ H D I h;refine wpAny_execs_cons (cJ (b pins s σ H {D with nx:=u D} I h) λf s1 q=>?_)
 cases f with
 | next=>
  obtain⟨a,H',d,q⟩:=q;exact c pins s1 a H' D d q
 | ret v=>exact q
 | brk=>exact q
 | cont=>exact q
theorem RC(a:PS X st t):A5 X [st] t:=by
 intro pins s σ H D I h;refine wpAny_execs_cons (cJ (a pins s σ H D I h) λf s1 q=>?_)
 cases f with
 | next=>exact aKd q
 | ret v=>exact q
 | brk=>exact q
 | cont=>exact q
def aB8:TS:=λD σ H=>D.ct σ H
theorem B7:PS X (.Continue pos) aB8:=λ_ _ σ H _ I h=>wpAny_Continue ⟨σ,H,I,h⟩
theorem Inv.quiet{pins:List (Addr×Obj)}{σ:St}(I:Inv X pins σ H s):interactive X.env=false:=by simp[interactive,I.ok.kind]
def aB7(te:TE):TS:=λD σ H=>te σ H λ_ a=>D.nx σ a
theorem RE(he:PE X e te)(b:swapsWith e none pos.line X.env=pure false:=by rfl):PS X (.Expr e pos) (aB7 te):=by
 intro pins s σ H D I h;exact wpAny_Expr_any (cJ (he pins s σ H _ I h) λv s1 a=>by obtain⟨x,c,d,g,f⟩:=a;exact⟨σ,c,d,f⟩) I.quiet b
def aEn(te:TE):TS:=λD σ H=>te σ H D.rt
theorem WJ(he:PE X e te):PS X (.Return (some e) pos) (aEn te):=by
 intro pins s σ H D I h;exact wpAny_Return_some (cJ (he pins s σ H _ I h) λv s1 a=>by obtain⟨x,b,c,d,f⟩:=a;exact⟨x,σ,b,c,d,f⟩)
def aEt(c:TT)(t u:TS):TS:=λD σ H=>c σ H λb a=>if b=true then t D σ a else u D σ a
theorem aBs{c:Expr}{a b:List Stmt}{f:TT}(k:PT X c f)(ha:A5 X a t)(hb:A5 X b u):PS X (.If c a b pos) (aEt f t u):=by
 intro pins s σ H D I h;refine wpAny_If (cJ (k pins s σ H _ I h) λd s1 e=>?_);obtain⟨g,i,j⟩:=e
 cases d with
 | true=>exact ha pins s1 σ g D i j
 | false=>exact hb pins s1 σ g D i j
end
abbrev TG:=V->St->Hp->(St->Hp->Prop)->Prop
abbrev IP:=List V->St->Hp->(St->Hp->Prop)->Prop
def PG(X:Cx)(a:Expr)(t:TG):Prop:=
 ∀(pins:List (Addr×Obj)) (s:Shared) (σ:St) (H:Hp) (v:V) (u:Value) (Q:St->Hp->Prop),Inv X pins σ H s->RelV v u->t v σ H Q->
  wpAny (model X.prog X.w) X.A (assign a X.env u) (λ_ c =>∃b H',Inv X pins b H' c /\Q b H') X.xe s
def PGs(X:Cx)(b:List Expr)(t:IP):Prop:=
 ∀(pins:List (Addr×Obj)) (s:Shared) (σ:St) (H:Hp) (vs:List V) (us:List Value) (Q:St->Hp->Prop),Inv X pins σ H s->Vals vs us->t vs σ H Q->
  wpAny (model X.prog X.w) X.A (assignInOrder ((assignEach b X.env).map (·.2)) us) (λ_ c =>∃a H',Inv X pins a H' c /\Q a H') X.xe s
abbrev aA0:=V->V->V->Hp->(Hp->Prop)->Prop
def aDd(X:Cx)(t:aA0):Prop:=
 ∀(pins:List (Addr×Obj)) (s:Shared) (σ:St) (H:Hp) (o i v:V) (a b u:Value) (Q:Hp->Prop),Inv X pins σ H s->RelV o a->RelV i b->RelV v u->t o i v H Q->
  wpAny (model X.prog X.w) X.A (setItem a b u) (λ_ c =>∃H',Inv X pins σ H' c /\Q H') X.xe s
abbrev TIp:=V->V->Hp->VK->Prop
def PIp(X:Cx)(a:Operator)(t:TIp):Prop:=
 ∀(pins:List (Addr×Obj)) (s:Shared) (σ:St) (H:Hp) (x y:V) (v u:Value) (Q:VK),Inv X pins σ H s->RelV x v->RelV y u->t x y H Q->
  wpAny (model X.prog X.w) X.A (inplaceOp a v u) (EP X pins σ Q) X.xe s
section
variable {X:Cx}{pos:Pos}
def vG(i:Nat):TG:=λv σ H Q=>Q (σ.set i (some v)) H
theorem RK{i:Nat}{x:Str}(hN:X.N.Nodup)(hi:X.N[i]? =some x)(a:Loc X.env.scope x)(b:X.fn x=true\/X.env.scope.names.lookup x=some .local:=by first | exact .inl rfl | exact .inr rfl | assumption):PG X (.Name x pos) (vG i):=by
 intro pins s σ H v u Q I r h;exact wpAny_assign_Name (tY I hN hi a r (λd c =>⟨_,H,c,h⟩) b)
def OY:IP:=λvs σ H Q=>vs=[]/\Q σ H
def DF(t:TG)(u:IP):IP:=λvs σ H Q=>∃v r,vs=v::r/\t v σ H λa H' =>u r a H' Q
theorem RJ:PGs X [] OY:=by
 intro pins s σ H vs us Q I r h;obtain⟨e,h⟩:=h;subst e;cases r;exact assignInOrder_nil ⟨σ,H,I,h⟩
theorem ML{b:List Expr}{t:TG}{u:IP}(d:PG X e t)(f:PGs X b u)
  (g:(assignEach (e::b) X.env).map (·.2)=assign e X.env::(assignEach b X.env).map (·.2):=by rfl):PGs X (e::b) (DF t u):=by
 intro pins s σ H vs us Q I r h;obtain⟨v,n,i,h⟩:=h;subst i
 cases r with
 | cons r j=>
  rw[g];refine assignInOrder_cons (cJ (d pins s σ H _ _ _ I r h) λ_ s1 a=>?_);obtain⟨c,k,l,m⟩:=a;exact f pins s1 c k _ _ Q l j m
def ZH(K:aL1)(n:Nat)(t:IP):TG:=λv σ H Q=>∃a xs,v= .ref a/\sL K H a xs/\xs.length=n/\t xs σ H Q
theorem WN{c:List Expr}{k:Nat}{t:IP}{n:Nat}(i:X.calm=true)(h:PGs X c t)
  (j:(assignEach c X.env).length=n:=by rfl) (d:(assignEach c X.env).findIdx? (·.1)=none:=by rfl):PG X (.Tuple c k pos) (ZH X.K n t):=by
 intro pins s σ H v u Q I r f;obtain⟨a,xs,l,m,p,f⟩:=f;subst l;cases r;obtain⟨aH,g,ht,hz⟩:=I.tuple m;refine assign_Tuple_tuple (I.ok.hd i) ht (by simp[j,<-p,g.length]) d λh' q=>?_;have w:Inv X pins σ H {s with heap:=h'}:=I.kept (t' :=s.toks) λb o e=>q b o (aHc (aH4 e)) e;exact h pins _ σ H xs _ Q w (by simpa using g) f
def aGa(to a:TE)(t:aA0):TG:=λv σ H Q=>to σ H λo b=>a σ b λi c=>t o i v c λd=>Q σ d
theorem WQ{o i:Expr}{to f:TE}{t:aA0}(ho:PE X o to)(hi:PE X i f)(g:aDd X t)
  (ha:∀v,assign (.Subscript o i pos) X.env v=(do
   let a<-holding [v] (eval o X.env)
   let b<-holding [v,a] (eval i X.env)
   standAt pos
   holding [v,a,b] (setItem a b v)
   release [v,a,b] []):=by intro _;rfl):PG X (.Subscript o i pos) (aGa to f t):=by
 intro pins s σ H v u Q I r h;rw[ha];refine aGs (aHo (cJ (ho pins s σ H _ I h) λa s1 c=>?_));obtain⟨x,j,k,l,m⟩:=c;refine aGs (aHo (cJ (hi pins s1 σ j _ k m) λb s2 d=>?_));obtain⟨y,n,p,q,w⟩:=d;refine aGs (wpAny_standAt (aGs (aHo (cJ (g pins s2 σ n x y v a b u _ p l q r w) λ_ C e=>?_))));obtain⟨z,A,B⟩:=e;exact wpAny_release ⟨σ,z,A,B⟩
def VY(te:TE)(g:TG):TS:=λD σ H=>te σ H λx a=>g x σ a D.nx
theorem MI{tg e:Expr}{te:TE}{g:TG}(he:PE X e te)(hg:PG X tg g)(a:swapsWithSole [tg] e pos.line X.env=pure false:=by rfl)(b:swappedStores [tg] e X.env=pure none:=by rfl)
  (c:(assignEach [tg] X.env).map (·.2)=[assign tg X.env]:=by rfl):PS X (.Assign [tg] e pos) (VY te g):=by
 intro pins s σ H D I h;refine wpAny_Assign_stores (cJ (he pins s σ H _ I h) λv s1 ⟨x,d,f,i,j⟩=>?_) a b;rw[c];exact cJ (hg pins s1 σ d x v _ f i j) λ_ s2 q=>q
theorem WH{i:Nat}{x:Str}{te:TE}{a :Pos}(hN:X.N.Nodup)(hi:X.N[i]? =some x)(b:Loc X.env.scope x)(he:PE X e te)(c:swapsWith e (some (.Name x a)) pos.line X.env=pure false:=by rfl)(d:X.fn x=true\/X.env.scope.names.lookup x=some .local:=by first | exact .inl rfl | exact .inr rfl | assumption):
  PS X (.Assign [.Name x a] e pos) (VY te (vG i)):=by
 intro pins s σ H D I h;refine wpAny_Assign_Name (cJ (he pins s σ H _ I h) λv s1 ⟨y,f,g,j,k⟩=>?_) c;exact tY g hN hi b j (λs2 l=>⟨_,f,l,k⟩) d
def aEv(i:Nat)(te:TE)(a:TIp):TS:=λD σ H=>∃x,σ[i]? =some (some x)/\te σ H λy b=>a x y b λz c=>D.nx (σ.set i (some z)) c
theorem WL{i:Nat}{x:Str}{te:TE}{n:Operator}{q:TIp}{b :Pos}(hN:X.N.Nodup)(hi:X.N[i]? =some x)(o:Loc X.env.scope x)(he:PE X e te)(ho:PIp X n q)(t:X.fn x=true\/X.env.scope.names.lookup x=some .local:=by first | exact .inl rfl | exact .inr rfl | assumption):
  PS X (.AugAssign (.Name x b) n e pos) (aEv i te q):=by
 intro pins s σ H D I h;obtain⟨v,B,h⟩:=h;obtain⟨m,C,E⟩:=I.loc;have p:Vis X.env.scope x:=by rcases o with k | k;exact .inl k;exact .inr (.inl k)
 obtain⟨u,r,l⟩:=E i x v hi B p;refine wpAny_AugAssign_Name ?_
 have go:wpAny (model X.prog X.w) X.A (eval e X.env) (λw d=>wpAny (model X.prog X.w) X.A (inplaceOp n u w) (λr f=>wpAny (model X.prog X.w) X.A (storeName X.env x r) (λ_=>SP X pins D .next) X.xe f) X.xe d) X.xe s:=by
  refine cJ (he pins s σ H _ I h) λw s1 g=>?_;obtain⟨y,F,G,J,K⟩:=g;refine cJ (ho pins s1 σ F v y u w _ G r J K) λz s2 j=>?_;obtain⟨T,L,M,O,P⟩:=j;exact tY M hN hi o O (λU Q=>⟨_,L,Q,P⟩) t
 rcases l with ⟨hk,R⟩ | ⟨hk,c,S,a⟩
 ·exact wpAny_loadName_local I.ok.kind hk C R go
 ·rcases hk with hk | hk
  ·exact wpAny_loadName_cell I.ok.kind hk S a go
  ·rcases o with k | k
   ·have:X.env.scope.names.lookup x=some .free:=hk;rw[k]at this;cases this
   ·have:X.env.scope.names.lookup x=some .free:=hk;rw[k]at this;cases this
end
section
variable {X:Cx}{pos:Pos}
def VU(c:TT)(f:TS):TS:=λD σ H=>∃W:Nat->St->Hp->Prop,(∃m,W m σ H)/\∀m σ H,W m σ H->
 c σ H λb d=>if b=true then ∃N:St->Hp->Prop,(∀a H',N a H' ->∃e,e<m/\W e a H')/\f {D with nx:=N,ct:=N,bk:=D.nx} σ d else D.nx σ d
theorem MG{c:Expr}{body:List Stmt}{t:TT}{u:TS}(x:PassesOwn (model X.prog X.w) X.A X.env X.xe)(C:PT X c t)(hb:A5 X body u):PS X (.While c body [] pos) (VU t u):=by
 intro pins s σ H D I h;obtain⟨W,⟨m0,E⟩,e⟩:=h;refine wpAny_While (codeAny_whileLoop (λn F =>∃g H',Inv X pins g H' F /\W n g H') ?_ m0 ⟨σ,H,I,E⟩);rintro n s1 ⟨d,y,G,J⟩;refine aIy x (cJ (C pins s1 d y _ G (e n d y J)) λb s2 i=>?_);obtain⟨z,B,k⟩:=i
 cases b with
 | true=>
  obtain⟨N,hN,k⟩:=k;rw[if_pos rfl];refine aIy x (cJ (hb pins s2 d z _ B k) λf K l=>?_)
  cases f with
  | next=>
   obtain⟨a,j,m,o⟩:=l;obtain⟨p,q,r⟩:=hN a j o;exact⟨p,q,a,j,m,r⟩
  | cont=>
   obtain⟨a,j,m,o⟩:=l;obtain⟨p,q,r⟩:=hN a j o;exact⟨p,q,a,j,m,r⟩
  | brk=>exact l
  | ret v=>exact l
 | false=>
  rw[if_neg Bool.false_ne_true];exact aKd ⟨d,z,B,k⟩
end
structure It where
 go:Nat->Hp->Prop
 yld:Nat->Hp->V->Hp->Prop
 stop:Nat->Hp->Prop
def oH(X:Cx)(pins:List (Addr×Obj))(H:Hp)(b:Addr):Prop:=
 H b=none/\b≠X.env.locals/\b∉X.fs/\(b∈X.ex\/X.s₀.heap.objs.size<=b)/\(∀x c,X.env.cells.lookup x=some c->c≠b)/\∀p∈X.pn++pins,p.1≠b
variable{pins:List (Addr×Obj)}{σ:St}
theorem Inv.J5{X:Cx}{H H' :Hp}(I:Inv X pins σ H s)(hb:s.heap.objs.size<=b)(a:H' b=none):oH X pins H' b:=by
 refine⟨a,aJj (aHf I.lt hb),I.aFv hb,.inr (aHm I.sz hb),λx c e z=>?_,λp d z=>?_⟩
 ·obtain⟨v,q⟩:=I.cell x c e;exact absurd (aHf q.lt (by rw[z];exact hb)) (aIe _)
 ·exact absurd (aHf (aH4 (I.pin p d).1) (by rw[z];exact hb)) (aIe _)
structure Turn(P:Program)(w:World)(K:aL1)(tg:Expr)(J:It)(fp:List Addr)(it:Addr)(tn:Nat->Heap->Prop):Prop where
 mem:it∈fp
 obj:∀i h,tn i h->∀b∈fp,∃o,h.get? b=some o/\∀v,o.data≠ .cell v
 keep:∀i h h',tn i h->(∀b∈fp,∀o,h.get? b=some o->h'.get? b=some o)->tn i h'
 item:∀(X:Cx),X.prog=P->X.w=w->X.K=K->X.calm=true->∀(i:Nat) (pins:List (Addr×Obj)) (s:Shared) (σ:St) (H:Hp) (E:aL2),Inv X pins σ H s->(∀b∈fp,oH X pins H b)->tn i s.heap->J.go i H->
  wpAny (model P w) X.A (pyNext (.ref it)) (λr s1=>∃u,r=some u/\
   wpAny (model P w) X.A (letOwnedTupleGo tg (.ref it) u) (λ_ s2=>∃x H',Inv X pins σ H' s2/\RelV x u/\J.yld i H x H' /\tn (i+1) s2.heap/\∀b∈fp,H' b=none) E s1) E s
 done:∀(X:Cx),X.prog=P->X.w=w->X.K=K->X.calm=true->∀(i:Nat) (pins:List (Addr×Obj)) (s:Shared) (σ:St) (H:Hp) (E:aL2),Inv X pins σ H s->(∀b∈fp,oH X pins H b)->tn i s.heap->J.stop i H->
  wpAny (model P w) X.A (pyNext (.ref it)) (λr s1=>r=none/\Inv X pins σ H s1) E s
 self:∀(A:Around) (i:Nat) (s:Shared) (Q:aL2) (E:aL2),tn i s.heap->Q (.ref it) s->wpAny (model P w) A (pyIter (.ref it)) Q E s
abbrev TI:=St->Hp->(It->Hp->Prop)->Prop
def PIE(X:Cx)(pins:List (Addr×Obj))(σ:St)(tg:Expr)(R:It->Hp->Prop)(a:Value)(s2:Shared):Prop:=
 ∃(it:Addr) (fp:List Addr) (tn:Nat->Heap->Prop) (J:It) (H' :Hp),a= .ref it/\Inv X pins σ H' s2/\Turn X.prog X.w X.K tg J fp it tn/\tn 0 s2.heap/\(∀b∈fp,oH X pins H' b)/\R J H'
def PI(X:Cx)(tg iter:Expr)(wi:TI):Prop:=
 ∀(pins:List (Addr×Obj)) (s:Shared) (σ:St) (H:Hp) (R:It->Hp->Prop),Inv X pins σ H s->wi σ H R->
  wpAny (model X.prog X.w) X.A (eval iter X.env) (λv s1=>wpAny (model X.prog X.w) X.A (pyIter v) (PIE X pins σ tg R) X.xe s1) X.xe s
variable{tg:Expr}
theorem HZ{M:Model}{it:Addr}{n:String}{vs:Array Value}{Q:Unit->Shared->Prop}(ho:s.heap.get? it=some o)(b:o.cls= .type n)(hd:o.data= .fields vs)
    (c:["enumerate","zip","dict_itemiterator","dict_reverseitemiterator","odict_iterator","itertools.zip_longest","itertools.pairwise"].contains n=false) (a:Q () s):wpAny M A (letOwnedTupleGo tg (.ref it) u) Q E s:=by
  unfold letOwnedTupleGo
  cases tg <;> first
    | exact aGu a
    | (cases u <;> first
        | exact aGu a
        | (refine aGs (aKn ho ?_)
           rw[b,hd];show wpAny M A (if (["enumerate","zip","dict_itemiterator","dict_reverseitemiterator","odict_iterator","itertools.zip_longest","itertools.pairwise"].contains n && vs[0]? ==some (rawInt _))=true then _ else _) Q E s;rw[if_neg (by intro h;rw[c,Bool.false_and]at h;cases h)]
           exact aGu a))
def Itl(K:aL1)(a:Addr):It:=
 ⟨λi H=>∃xs x,oI K H a xs/\xs[i]? =some x,λi H x H' =>H' =H/\∀xs,oI K H a xs->xs[i]? =some x,λi H=>∃xs,oI K H a xs/\xs.length<=i⟩
def Itt(K:aL1)(a:Addr):It:=
 ⟨λi H=>∃xs x,sL K H a xs/\xs[i]? =some x,λi H x H' =>H' =H/\∀xs,sL K H a xs->xs[i]? =some x,λi H=>∃xs,sL K H a xs/\xs.length<=i⟩
def Itr(lo:Int)(n:Nat):It:=⟨λi _=>i<n,λi H x H' =>H' =H/\x= .int (lo+i),λi _=>n<=i⟩
variable{K:aL1}
theorem IV(a it:Addr):Turn P w K tg (Itl K a) [it] it (λi h=>h.IsListIter it a i) where
 mem:=by simp
 obj:=λi h st b hb=>by
  have e:b=it:=by simpa using hb
  subst e;obtain⟨o,e,c,d⟩:=st;exact⟨o,e,λv z=>by rw[d]at z;cases z⟩
 keep:=λi h h' st k=>st.at λo e=>k it (by simp) o e
 item:=by
  intro X l m n C i pins s σ H E I g st hg;subst l m n;obtain⟨xs,x,j,q⟩:=hg;obtain⟨aH,r,p,hz⟩:=I.list j;obtain⟨u,D,F⟩:=r.get q;obtain⟨f0,t,G,y,A,B⟩:=g it (by simp);refine wpAny_pyNext_list_item st p.isList (x:=u) (by simpa using D) λh' f sb=>?_;have J:Inv X pins σ H {s with heap:=h'}:=I.turned (t' :=s.toks) (λb o hb e=>(sb.2 b hb).trans e) f0 t y A B;obtain⟨o,e,c,d⟩:=id f;exact⟨u,rfl,HZ (s:={s with heap:=h'}) e c d (by decide) ⟨x,H,J,F,⟨rfl,λys L=>by rw[I.CQ L j];exact q⟩,f,λb hb=>(g b hb).1⟩⟩
 done:=by
  intro X l m n C i pins s σ H E I g st hg;subst l m n;obtain⟨xs,j,q⟩:=hg;obtain⟨aH,r,p,hz⟩:=I.list j;obtain⟨f0,t,G,y,A,B⟩:=g it (by simp);have N:=r.length
  exact wpAny_pyNext_list_end (I.ok.hd C) st p.isList (by simp;lia) λh' M=>⟨rfl,I.turned (t' :=s.toks) (λb o hb e=>M b o hb e) f0 t y A B⟩
 self:=λ_ _ _ _ _ st h=>wpAny_pyIter_listiter st h
theorem EM(a it:Addr):Turn P w K tg (Itt K a) [it] it (λi h=>h.IsTupleIter it a i) where
 mem:=by simp
 obj:=λi h st b hb=>by
  have e:b=it:=by simpa using hb
  subst e;obtain⟨o,e,c,d⟩:=st;exact⟨o,e,λv z=>by rw[d]at z;cases z⟩
 keep:=λi h h' st k=>st.at λo e=>k it (by simp) o e
 item:=by
  intro X l m n C i pins s σ H E I g st hg;subst l m n;obtain⟨xs,x,j,q⟩:=hg;obtain⟨aH,r,p,hz⟩:=I.tuple j;obtain⟨u,D,F⟩:=r.get q;obtain⟨f0,t,G,y,A,B⟩:=g it (by simp);refine wpAny_pyNext_tuple_item st (show s.heap.IsTuple a aH.toArray from p) (x:=u) (by simpa using D) λh' f sb=>?_;have J:Inv X pins σ H {s with heap:=h'}:=I.turned (t' :=s.toks) (λb o hb e=>(sb.2 b hb).trans e) f0 t y A B;obtain⟨o,e,c,d⟩:=id f;exact⟨u,rfl,HZ (s:={s with heap:=h'}) e c d (by decide) ⟨x,H,J,F,⟨rfl,λys L=>by rw[I.xA L j];exact q⟩,f,λb hb=>(g b hb).1⟩⟩
 done:=by
  intro X l m n C i pins s σ H E I g st hg;subst l m n;obtain⟨xs,j,q⟩:=hg;obtain⟨aH,r,p,hz⟩:=I.tuple j;obtain⟨f0,t,G,y,A,B⟩:=g it (by simp);have N:=r.length
  exact wpAny_pyNext_tuple_end (I.ok.hd C) st (show s.heap.IsTuple a aH.toArray from p) (by simp;lia) λh' M=>⟨rfl,I.turned (t' :=s.toks) (λb o hb e=>M b o hb e) f0 t y A B⟩
 self:=λ_ _ _ _ _ st h=>wpAny_pyIter_tupleiter st h
theorem EN(it:Addr)(lo:Int)(n:Nat):Turn P w K tg (Itr lo n) [it] it (λi h=>IsRangeIter h it (lo+(i:Nat)*1) ((n:Int)-(i:Nat)) 1) where
 mem:=by simp
 obj:=λi h st b hb=>by
  have e:b=it:=by simpa using hb
  subst e
  exact⟨_,st,λv z=>by
   have u :Data.fields _=Data.cell v:=z
   cases u⟩
 keep:=λi h h' st k=>k it (by simp) _ st
 item:=by
  intro X d f g j i pins s σ H E I c st hg;subst d f g;obtain⟨f0,l,x,m,p,q⟩:=c it (by simp);have W:=Walks.range (prog:=X.prog) (w:=X.w) (I.ok.hd j) it lo 1 n;refine W.item i s _ _ hg st λv h' r y a kk=>?_;obtain⟨t,rfl⟩:=y;have A:Inv X pins σ H {s with heap:=h',toks:=r}:=I.turned (λb o hb e=>kk b o (by simpa using hb) e) f0 l m p q;refine⟨_,rfl,HZ (s:={s with heap:=h',toks:=r}) (n:= "range_iterator") a rfl rfl (by decide) ⟨.int (lo+i),H,A,⟨t,?_⟩,⟨rfl,rfl⟩,a,λb hb=>(c b hb).1⟩⟩;rw[Int.mul_one]
 done:=by
  intro X d f g j i pins s σ H E I c st hg;subst d f g;obtain⟨f0,l,x,m,p,q⟩:=c it (by simp)
  exact wpAny_pyNext_range_end (I.ok.hd j) st (by have:n<=i:=hg;lia) λh' B=>⟨rfl,I.turned (t' :=s.toks) (λb o hb e=>B b o hb e) f0 l m p q⟩
 self:=λ_ _ _ _ _ st h=>wpAny_pyIter_rangeiter st h
section
variable {X:Cx}{tg:Expr}
theorem MD{R:It->Hp->Prop}{lo hi:Int}{t u v:Tok}{a:Nat}(I:Inv X pins σ H s)(d: -(2^62)<=lo)(f:lo<2^62)(g: -(2^62)<=hi)(h:hi<2^62)
  (q:R (Itr lo (hi-lo).toNat) H):wpAny (model X.prog X.w) X.A (pyIter (.ref s.heap.objs.size)) (PIE X pins σ tg R) E {s with heap:=s.heap.push {cls:= .type "range",data:= .fields #[.int lo t,.int hi u,.int 1 v]},toks:=a}:=by
 refine wpAny_pyIter_range (IsRange.new ..) (small_one d f g h) ?_;have c:Inv X pins σ H {s with heap:=s.heap.push {cls:= .type "range",data:= .fields #[.int lo t,.int hi u,.int 1 v]},toks:=a}:=I.kept λb o e=>aGv _ e
 refine⟨(s.heap.push {cls:= .type "range",data:= .fields #[.int lo t,.int hi u,.int 1 v]}).objs.size,[(s.heap.push {cls:= .type "range",data:= .fields #[.int lo t,.int hi u,.int 1 v]}).objs.size],_,_,H,rfl,
  c.kept (t' :=a) λb o e=>aGv _ e,EN _ lo (hi-lo).toNat,?_,λb hb=>?_,q⟩
 ·have i:lo+((0:Nat):Int)*1=lo:=by simp
  have j:(((hi-lo).toNat:Nat):Int)-((0:Nat):Int)=Builtin.Range.rangeSize lo hi 1:=by rw[rangeSize_one];split <;> lia
  show IsRangeIter _ _ (lo+((0:Nat):Int)*1) ((((hi-lo).toNat:Nat):Int)-((0:Nat):Int)) 1;rw[i,j];exact aH0 _ rfl
 ·have e:b=(s.heap.push {cls:= .type "range",data:= .fields #[.int lo t,.int hi u,.int 1 v]}).objs.size:=by simpa using hb
  subst e;exact c.J5 (aGy _) (c.bO.fresh (aGy _))
def aCw(a:TA):TI:=λσ H R=>a σ H λvs b=>∃j:Int,vs=[.int j]/\ -(2^62)<=j/\j<2^62/\R (Itr 0 j.toNat) b
theorem JG{a:Expr}{c:TA}{p pos:Pos}(hg:Gl X "range")(d:X.mg "range"=none)(ha:PA X [a] c)(f:starEach [a] X.env=[(false,eval a X.env)]:=by rfl):PI X tg (.Call (.Name "range" p) [a] [] pos) (aCw c):=by
 intro pins s σ H R I h;refine Call_ (n9 I hg d boot_range (aIc (cJ (ha pos pins s σ H _ I h) λus s1 ⟨vs,m,g,i,b⟩=>?_) f rfl));obtain⟨j,e,b,k,q⟩:=b;subst e
 cases i with
 | cons r l=>
  cases l;obtain⟨t,rfl⟩:=r;exact call_range_1 (MD g (by lia) (by lia) b k (by simpa using q))
def aEu(wi:TI)(g:TG)(d:TS):TS:=λD σ H=>wi σ H λJ e=>∃W:Nat->Nat->St->Hp->Prop,(∃m,W 0 m σ e)/\∀i m σ H,W i m σ H->
 (J.stop i H/\D.nx σ H)\/(J.go i H/\∃N:St->Hp->Prop,(∀a H',N a H' ->∃c,c<m/\W (i+1) c a H')/\∀x H',J.yld i H x H' ->g x σ H' λb f=>d {D with nx:=N,ct:=N,bk:=D.nx} b f)
def uS(fp:List Addr)(h:Heap):List (Addr×Obj):=fp.filterMap λb=>(h.get? b).map λo=>(b,o)
variable{fp:List Addr}
theorem jH(hb:b∈fp)(e:h.get? b=some o):(b,o)∈uS fp h:=List.mem_filterMap.mpr ⟨b,hb,by rw[e];rfl⟩
theorem JJ{p:Addr×Obj}(a:p∈uS fp h):p.1∈fp/\h.get? p.1=some p.2:=by
 obtain⟨b,hb,e⟩:=List.mem_filterMap.mp a
 cases q:h.get? b with
 | none=>rw[q]at e;cases e
 | some o=>
  rw[q]at e;have c :(b,o)=p:=aHd e;subst c;exact⟨hb,q⟩
theorem Inv.pinned(I:Inv X pins σ H s)(c:∀b∈fp,oH X pins H b)(ho:∀b∈fp,∃o,s.heap.get? b=some o/\∀v,o.data≠ .cell v):Inv X (pins++uS fp s.heap) σ H s:=
 I.HC λp f=>(aGz.mp f).elim (λz=>I.pin p (aHb _ z)) λz=>by
  obtain⟨hb,e⟩:=JJ z;obtain⟨f0,g,h,_⟩:=c p.1 hb;obtain⟨o,a,d⟩:=ho p.1 hb;rw[e]at a;cases a;exact⟨e,f0,g,h,d⟩
theorem Inv.oW{pins a:List (Addr×Obj)}(I:Inv X (pins++a) σ H s):Inv X pins σ H s:=I.HC λp b=>I.pin p (aHb _ (aHn _ b))
theorem WK{iter:Expr}{body:List Stmt}{wi:TI}{g:TG}{V:TS}{pos:Pos}(y:PassesOwn (model X.prog X.w) X.A X.env X.xe)(Y:X.calm=true)(hi:PI X tg iter wi)(hg:PG X tg g)(hb:A5 X body V)
  (hs:∀x,foldedSetIterable iter X.env x=pure x:=by intro _;rfl):PS X (.For tg iter body [] pos) (aEu wi g V):=by
 intro pins s σ H D I h;refine wpAny_For (cJ (hi pins s σ H _ I h) λv s1 h1=>cJ h1 λitv s2 h2=>?_) hs;obtain⟨it,fp,tn,J,H2,e,I2,T,O,Z,W,⟨m0,w0⟩,z⟩:=h2;subst e
 have c:∀{H' :Hp},(∀b∈fp,H' b=none)->∀b∈fp,oH X pins H' b:=λhn b hb=>⟨hn b hb,(Z b hb).2⟩
 refine codeAny_forLoop_any (λn s' =>∃i j H',Inv X pins j H' s' /\tn i s'.heap/\(∀b∈fp,H' b=none)/\W i n j H') ?_ m0 ⟨0,σ,H2,I2,O,λb hb=>(Z b hb).1,w0⟩;rintro n s3 ⟨i,k,M,I3,B,C,w3⟩
 rcases z i n k M w3 with ⟨stop,qn⟩ | ⟨go,N,hN,step⟩
 ·refine aIy y (cJ (T.done X rfl rfl rfl Y i pins s3 k M X.xe I3 (c C) B stop) λr s4 E=>?_);obtain⟨P,I4⟩:=E;subst P;exact aKd ⟨k,M,I4,qn⟩
 ·refine aIy y (cJ (T.item X rfl rfl rfl Y i pins s3 k M X.xe I3 (c C) B go) λr s4 F=>?_);obtain⟨u,P,h4⟩:=F;subst P;refine aIy y (cJ h4 λ_ s5 G=>?_);obtain⟨x,H5,I5,r5,y5,t,Q⟩:=G;have R :=I5.pinned (c Q) (T.obj _ _ t);refine aIy y (cJ (hg _ s5 k H5 x u _ R r5 (step x H5 y5)) λ_ s6 K=>?_);obtain⟨S,H6,I6,q6⟩:=K;refine aIy y (cJ (hb _ s6 S H6 _ I6 q6) λf U q=>?_)
  have again:∀{a:St} {l:Hp},Inv X (pins++uS fp s5.heap) a l U->N a l->∃m,m<n/\∃i j H',Inv X pins j H' U/\tn i U.heap/\(∀b∈fp,H' b=none)/\W i m j H' :=λ{a l} p L=>by
   obtain⟨m',hm,w7⟩:=hN a l L;refine⟨m',hm,i+1,a,l,p.oW,T.keep _ _ _ t λb hb o e=>(p.pin (b,o) (aHb _ (aHb _ (jH hb e)))).1,λb hb=>?_,w7⟩;obtain⟨o,e,d⟩:=T.obj _ _ t b hb;exact(p.pin (b,o) (aHb _ (aHb _ (jH hb e)))).2.1
  cases f with
  | next=>obtain⟨a,l,p,L⟩:=q;exact again p L
  | cont=>obtain⟨a,l,p,L⟩:=q;exact again p L
  | brk=>obtain⟨a,l,p,q⟩:=q;exact⟨a,l,p.oW,q⟩
  | ret v=>obtain⟨x7,a,l,p,r7,q⟩:=q;exact⟨x7,a,l,p.oW,r7,q⟩
end
abbrev R2:=V->V->Hp->VK->Prop
def eL(X:Cx)(f:Value->Value->Sem Value)(r:R2):Prop:=
 ∀(pins:List (Addr×Obj)) (s:Shared) (σ:St) (H:Hp) (x y:V) (v u:Value) (Q:VK),Inv X pins σ H s->RelV x v->RelV y u->r x y H Q->
  wpAny (model X.prog X.w) X.A (f v u) (EP X pins σ Q) X.xe s
def UnR(X:Cx)(f:Value->Sem Value)(r:V->Hp->VK->Prop):Prop:=
 ∀(pins:List (Addr×Obj)) (s:Shared) (σ:St) (H:Hp) (x:V) (v:Value) (Q:VK),Inv X pins σ H s->RelV x v->r x H Q->
  wpAny (model X.prog X.w) X.A (f v) (EP X pins σ Q) X.xe s
def cU(X:Cx)(f:Value)(r:List V->Hp->VK->Prop):Prop:=
 ∀(pins:List (Addr×Obj)) (s:Shared) (σ:St) (H:Hp) (xs:List V) (us:List Value) (Q:VK),Inv X pins σ H s->Vals xs us->r xs H Q->
  wpAny (model X.prog X.w) X.A (call f us) (EP X pins σ Q) X.xe s
def aGn(X:Cx)(r:V->Hp->(Bool->Hp->Prop)->Prop):Prop:=
 ∀(pins:List (Addr×Obj)) (s:Shared) (σ:St) (H:Hp) (x:V) (v:Value) (Q:Bool->Hp->Prop),Inv X pins σ H s->RelV x v->r x H Q->
  wpAny (model X.prog X.w) X.A (truthy v) (TP X pins σ Q) X.xe s
def tOp(r:R2)(a b:TE):TE:=λσ H Q=>a σ H λx c=>b σ c λy d=>r x y d Q
def tUn(r:V->Hp->VK->Prop)(a:TE):TE:=λσ H Q=>a σ H λx b=>r x b Q
def rI(C:Int->Int->Prop)(g:Int->Int->V):R2:=λx y H Q=>∃i j,x= .int i/\y= .int j/\C i j/\Q (g i j) H
def P7(g:Int->Int->V):R2:=λx y H Q=>∃i j,x= .int i/\y= .int j/\Q (g i j) H
def rU(g:Int->V):V->Hp->VK->Prop:=λx H Q=>∃i,x= .int i/\Q (g i) H
section
variable {X:Cx}{a b c:Expr}{ta tb tc:TE}{pos:Pos}
variable{f:Value->Value->Sem Value}
theorem Z6(ha:PE X a ta)(hb:PE X b tb){R:V->V->Hp->Prop}(I:Inv X pins σ H s)
  (h:ta σ H λx j=>tb σ j λy c=>R x y c) {Q:aL2} 
  (k:∀v u s2 x y c,Inv X pins σ c s2->RelV x v->RelV y u->R x y c->wpAny (model X.prog X.w) X.A (f v u) Q X.xe s2):
  wpAny (model X.prog X.w) X.A (eval a X.env) (λv d=>wpAny (model X.prog X.w) X.A (eval b X.env) (λu e=>wpAny (model X.prog X.w) X.A (f v u) Q X.xe e) X.xe d) X.xe s:=by
 refine cJ (ha pins s σ H _ I h) λv s1 g=>?_;obtain⟨x,j,l,m,n⟩:=g;refine cJ (hb pins s1 σ j _ l n) λu s2 i=>?_;obtain⟨y,c,o,p,q⟩:=i;exact k v u s2 x y c o m p q
theorem aBv{c:Operator}{r:R2}(ho:eL X (binaryOp c) r)(ha:PE X a ta)(hb:PE X b tb):PE X (.BinOp a c b pos) (tOp r ta tb):=by
 intro pins s σ H Q I h;exact wpAny_BinOp (Z6 ha hb I h λv u s2 x y d e f g q=>ho pins s2 σ d x y v u Q e f g q)
theorem aBu{c:UnaryOp}{r:V->Hp->VK->Prop}(ho:UnR X (unaryOp c) r)(ha:PE X a ta):PE X (.UnaryOp c a pos) (tUn r ta):=by
 intro pins s σ H Q I h;exact UnaryOp_ (cJ (ha pins s σ H _ I h) λv s1 b=>by obtain⟨x,d,e,f,g⟩:=b;exact ho pins s1 σ d x v Q e f g)
variable{g:Int->Int->Int}
theorem opI{C:Int->Int->Prop}
  (rule:∀(i j:Int) (t u:Tok) (s:Shared) (Q:aL2) (E:aL2),C i j->Q (.int (g i j) s.toks) {s with toks:=s.toks+1}->wpAny (model X.prog X.w) X.A (f (.int i t) (.int j u)) Q E s):
  eL X f (rI C λi j=>.int (g i j)):=by
 intro pins s σ H x y v u Q I a b h;obtain⟨i,j,rfl,rfl,c,q⟩:=h;obtain⟨t,rfl⟩:=a;obtain⟨t',rfl⟩:=b;exact rule i j t t' s _ _ c ⟨.int (g i j),H,I.tok _,⟨_,rfl⟩,q⟩
theorem XB
  (rule:∀(i j:Int) (t u:Tok) (s:Shared) (Q:aL2) (E:aL2),Q (.int (g i j) s.toks) {s with toks:=s.toks+1}->wpAny (model X.prog X.w) X.A (f (.int i t) (.int j u)) Q E s):
  eL X f (P7 λi j=>.int (g i j)):=by
 intro pins s σ H x y v u Q I a b h;obtain⟨i,j,rfl,rfl,q⟩:=h;obtain⟨t,rfl⟩:=a;obtain⟨t',rfl⟩:=b;exact rule i j t t' s _ _ ⟨.int (g i j),H,I.tok _,⟨_,rfl⟩,q⟩
theorem RV{g:Int->Int->Bool}
  (rule:∀(i j:Int) (t u:Tok) (s:Shared) (Q:aL2) (E:aL2),Q (.bool (g i j)) s->wpAny (model X.prog X.w) X.A (f (.int i t) (.int j u)) Q E s):
  eL X f (P7 λi j=>.bl (g i j)):=by
 intro pins s σ H x y v u Q I a b h;obtain⟨i,j,rfl,rfl,q⟩:=h;obtain⟨t,rfl⟩:=a;obtain⟨t',rfl⟩:=b;exact rule i j t t' s _ _ ⟨.bl (g i j),H,I,rfl,q⟩
def aDh(i j:Int):Prop:=0<j/\j<1073741824
def aA5(i j:Int):Prop:=0<=j/\j<=1000000/\i.natAbs<2^64
def GO(i j:Int):Prop:=(-(2^64)<i/\i<2^64)\/(-(2^64)<j/\j<2^64)
theorem GO.ok{i j:Int}(h:GO i j):IntMulOk i j:=by
 rcases h with ⟨a,b⟩ | ⟨a,b⟩
 ·exact .of_left (intBits_le_64 a b)
 ·exact .of_right (intBits_le_64 a b)
theorem XA:eL X (binaryOp .Add) (P7 λi j=>.int (i+j)):=XB λ_ _ _ _ _ _ _ q=>add_int q
theorem W5:eL X (binaryOp .Sub) (P7 λi j=>.int (i-j)):=XB λ_ _ _ _ _ _ _ q=>sub_int q
theorem W7:eL X (binaryOp .Mult) (rI GO λi j=>.int (i*j)):=opI λ_ _ _ _ _ _ _ a q=>mul_int q a.ok
theorem RT:eL X (binaryOp .FloorDiv) (rI aDh λi j=>.int (i / j)):=opI λi j _ _ _ _ _ a q=>by
 have b:(0:Int)<j:=a.1;have c:j<1073741824:=a.2;exact floordiv_int (by lia) (by rw[Int.fdiv_eq_ediv_of_nonneg i (by lia)];exact q) (.inl (PyProof.noPylong_small (by lia)))
theorem W8:eL X (binaryOp .Mod) (rI (λ_ j=>0<j) λi j=>.int (i % j)):=opI λi j _ _ _ _ _ a q=>by
 have b:(0:Int)<j:=a;exact mod_int' (by lia) (by rw[Int.fmod_eq_emod_of_nonneg i (by lia)];exact q)
theorem W6:eL X (binaryOp .Pow) (rI aA5 λi j=>.int (i^j.toNat)):=opI λ_ _ _ _ _ _ _ a q=>pow_int_small a.1 a.2.1 a.2.2 q
theorem S6:eL X (inplaceOp .Add) (P7 λi j=>.int (i+j)):=XB λ_ _ _ _ _ _ _ q=>iadd_int q
theorem unI{f:Value->Sem Value}{g:Int->Int}
  (rule:∀(i:Int) (t:Tok) (s:Shared) (Q:aL2) (E:aL2),Q (.int (g i) s.toks) {s with toks:=s.toks+1}->wpAny (model X.prog X.w) X.A (f (.int i t)) Q E s):
  UnR X f (rU λi=>.int (g i)):=by
 intro pins s σ H x v Q I a h;obtain⟨i,rfl,q⟩:=h;obtain⟨t,rfl⟩:=a;exact rule i t s _ _ ⟨.int (g i),H,I.tok _,⟨_,rfl⟩,q⟩
theorem VL:UnR X (unaryOp .USub) (rU λi=>.int (-i)):=unI λ_ _ _ _ _ q=>neg_int q
end
section
variable {X:Cx}{a b c:Expr}{ta tb tc:TE}{pos:Pos}
theorem ZN{Q:VK}{k a :Bool}(I:Inv X pins σ H s)(q:Q (.bl k) H)(e:k=a):EP X pins σ Q (.bool a) s:=by
 subst e;exact⟨.bl k,H,I,rfl,q⟩
theorem aC0:eL X (compareOp .Lt) (P7 λi j=>.bl (decide (i<j))):=RV λ_ _ _ _ _ _ _ q=>lt_int q
theorem aC1:eL X (compareOp .LtE) (P7 λi j=>.bl (decide (i<=j))):=RV λ_ _ _ _ _ _ _ q=>le_int q
theorem aC2:eL X (compareOp .Gt) (P7 λi j=>.bl (decide (j<i))):=RV λ_ _ _ _ _ _ _ q=>gt_int q
theorem aC3:eL X (compareOp .GtE) (P7 λi j=>.bl (decide (j<=i))):=RV λ_ _ _ _ _ _ _ q=>ge_int q
theorem JI:eL X (compareOp .Lt) (λx y H Q=>∃i j,x= .str i/\y= .str j/\Q (.bl (decide (i.cps.toList<j.cps.toList))) H):=by
 intro pins s σ H x y v u Q I a b h;obtain⟨i,j,rfl,rfl,q⟩:=h;obtain⟨t,rfl⟩:=a;obtain⟨t',rfl⟩:=b;exact lt_str (ZN I q rfl)
theorem RN{c:CmpOp}{r:R2}(ho:eL X (compareOp c) r)(ha:PE X a ta)(hb:PE X b tb)(d:behindInMarks c b=false):PE X (.Compare a [c] [b] pos) (tOp r ta tb):=by
 intro pins s σ H Q I h;exact wpAny_Compare1 (Z6 ha hb I h λv u s2 x y e f g i q=>ho pins s2 σ e x y v u Q f g i q) d
def UO(t:TE):TT:=λσ H Q=>t σ H λx H' =>∃k,x= .bl k/\Q k H'
theorem RB{d:CmpOp}{r:R2}(ho:eL X (compareOp d) r)(ha:PE X a ta)(hb:PE X b tb)(f:behindInMarks d b=false):PT X (.Compare a [d] [b] pos) (UO (tOp r ta tb)):=by
 intro pins s σ H Q I h
 refine wpAny_isTrue_Compare1 (cJ (ha pins s σ H _ I h) λv s1 ⟨x,g,i,j,l⟩=>cJ (hb pins s1 σ g _ i l) λu s2 ⟨y,m,n,o,p⟩=>
  cJ (ho pins s2 σ m x y v u _ n j o p) λc B ⟨z,q,t,w,k,e,A⟩=>?_) f
 subst e;cases w;exact aJy ⟨q,t,A⟩
def Z9(K:aL1)(x:V)(H:Hp)(k:Bool):Prop:=
 match x with
 | .b9=>k=false
 | .bl b=>k=b
 | .int i=>k=(i !=0)
 | .str y=>y.length<=sizeLine/\k=((y.length:Int) !=0)
 | .byt y=>y.size<=sizeLine/\k=((y.size:Int) !=0)
 | .ref p=>(∃xs,oI K H p xs/\k= !xs.isEmpty)\/(∃xs,sL K H p xs/\k= !xs.isEmpty)\/∃kvs,H p=some (.dK kvs)/\k= !kvs.isEmpty
 | _=>False
theorem FQ{κ:Type}{kvs:List (κ×V)}{vs:List (κ×Value)}(r:KV kvs vs):(!vs.isEmpty)= !kvs.isEmpty:=by
 cases r <;> rfl
theorem vE{xs:List V}{aH:List Value}(r:Vals xs aH):(!aH.toArray.isEmpty)= !xs.isEmpty:=by
 cases r <;> simp
theorem lR:(sizeLine:Nat)<2^63:=by rw[sizeLine_eq];decide
theorem VQ:aGn X (λx H Q=>∃k,Z9 X.K x H k/\Q k H):=by
 intro pins s σ H x v Q I d h;obtain⟨k,e,q⟩:=h;have n:=lR;have o:sizeLine=16777216:=aHh
 cases x with
 | b9=>
  cases d;have a :k=false:=e;subst a;exact truthy_none ⟨H,I,q⟩
 | bl b=>
  cases d;have a :k=b:=e;subst a;exact aJy ⟨H,I,q⟩
 | int i=>
  obtain⟨t,rfl⟩:=d;have a :k=(i !=0):=e;subst a;exact PySem.P.truthy_int ⟨H,I,q⟩
 | str y=>
  obtain⟨t,rfl⟩:=d;obtain⟨j,a⟩:y.length<=sizeLine/\k=((y.length:Int) !=0):=e;subst a;exact PySem.P.truthy_str (by lia) ⟨H,I.tok _,q⟩
 | byt y=>
  obtain⟨t,rfl⟩:=d;obtain⟨j,a⟩:y.size<=sizeLine/\k=((y.size:Int) !=0):=e;subst a;exact PySem.W.truthy_bytes (by lia) ⟨H,I.tok _,q⟩
 | ref p=>
  cases d;have a :(∃xs,oI X.K H p xs/\k= !xs.isEmpty)\/(∃xs,sL X.K H p xs/\k= !xs.isEmpty)\/∃kvs,H p=some (.dK kvs)/\k= !kvs.isEmpty:=e
  rcases a with ⟨xs,f,a⟩ | ⟨xs,f,a⟩ | ⟨kvs,f,a⟩
  ·subst a;obtain⟨aH,r,g,hz⟩:=I.list f;have c:=r.length;exact wpAny_truthy_list g.isList (by simp only[List.size_toArray];lia) ⟨H,I.tok _,by rw[vE r];exact q⟩
  ·subst a;obtain⟨aH,r,g,hz⟩:=I.tuple f;have c:=r.length;exact truthy_tuple g (by simp only[List.size_toArray];lia) ⟨H,I.tok _,by rw[vE r];exact q⟩
  ·subst a;obtain⟨hz,l,vs,r,m⟩:kvs.length<=sizeLine/\(p==sysModules)=false/\∃vs,KV kvs vs/\s.heap.DictOf (aS X.prog X.w) p vs:=I.bO p _ f;have c:kvs.length=vs.length:=Paired.length r;exact wpAny_truthy_dict l m (by lia) ⟨H,I.tok _,by rw[FQ r];exact q⟩
 | _=>exact(show False from e).elim
theorem ME(ha:PE X a ta)(he:∀b,isTrue a X.env b=(do let v<-b;standAt a.pos;holding [v] (truthy v))):
  PT X a (λσ H Q=>ta σ H λx H' =>∃k,Z9 X.K x H' k/\Q k H'):=by
 intro pins s σ H Q I h;exact isTrue_plain (cJ (ha pins s σ H _ I h) λv s1 c=>by obtain⟨x,d,e,f,g⟩:=c;exact VQ pins s1 σ d x v Q e f g) (he _)
theorem E7:eL X (binaryOp .Add) (λx y H Q=>∃i j,x= .str i/\y= .str j/\i.length+j.length<=sizeLine/\Q (.str (i++j)) H):=by
 intro pins s σ H x y v u Q I a b h;obtain⟨i,j,rfl,rfl,hz,q⟩:=h;obtain⟨t,rfl⟩:=a;obtain⟨t',rfl⟩:=b;exact add_str (λt' c=>⟨.str (i++j),H,I.tok _,⟨_,rfl⟩,q⟩) hz
theorem DB:eL X (inplaceOp .Add) (λx y H Q=>∃i j,x= .str i/\y= .str j/\i.length+j.length<=sizeLine/\Q (.str (i++j)) H):=by
 intro pins s σ H x y v u Q I a b h;obtain⟨i,j,rfl,rfl,hz,q⟩:=h;obtain⟨t,rfl⟩:=a;obtain⟨t',rfl⟩:=b;exact iadd_str (λt' c=>⟨.str (i++j),H,I.tok _,⟨_,rfl⟩,q⟩) hz
theorem vals1{x:V}(r:Vals [x] us):∃u,us=[u]/\RelV x u:=by
 cases r with
 | cons a b=>cases b;exact⟨_,rfl,a⟩
theorem vals2{x y:V}(r:Vals [x,y] us):∃u a,us=[u,a]/\RelV x u/\RelV y a :=by
 cases r with
 | cons b c=>
  cases c with
  | cons d e=>cases e;exact⟨_,_,rfl,b,d⟩
theorem PR:cU X (.builtin "abs") (λxs H Q=>∃i,xs=[.int i]/\Q (.int (if i<0 then -i else i)) H):=by
 intro pins s σ H xs us Q I r h;obtain⟨i,rfl,q⟩:=h;obtain⟨u,rfl,t,rfl⟩:=vals1 r
 exact call_abs_int λu a=>⟨.int (if i<0 then -i else i),H,I.tok _,⟨_,rfl⟩,q⟩
theorem KN(b:X.calm=true):cU X (.builtin "max") (λxs H Q=>∃i j,xs=[.int i,.int j]/\Q (.int (if j > i then j else i)) H):=by
 intro pins s σ H xs us Q I r h;obtain⟨i,j,rfl,q⟩:=h;obtain⟨u,c,rfl,⟨t,rfl⟩,⟨t',rfl⟩⟩:=vals2 r
 refine max_two_ints (I.ok.hd b) λh' d k=>⟨_,H,I.kept k,?_,q⟩
 by_cases a:j > i
 ·rw[if_pos a,if_pos a];exact⟨_,rfl⟩
 ·rw[if_neg a,if_neg a];exact⟨_,rfl⟩
theorem KL(b:X.calm=true):cU X (.builtin "min") (λxs H Q=>∃i j,xs=[.int i,.int j]/\Q (.int (if j<i then j else i)) H):=by
 intro pins s σ H xs us Q I r h;obtain⟨i,j,rfl,q⟩:=h;obtain⟨u,c,rfl,⟨t,rfl⟩,⟨t',rfl⟩⟩:=vals2 r
 refine min_two_ints (I.ok.hd b) λh' d k=>⟨_,H,I.kept k,?_,q⟩
 by_cases a:j<i
 ·rw[if_pos a,if_pos a];exact⟨_,rfl⟩
 ·rw[if_neg a,if_neg a];exact⟨_,rfl⟩
end
theorem qV.some_of{v:V}{o:Option Value}(r:qV (some v) o):∃u,o=some u/\RelV v u:=by
 cases o with
 | none=>exact(show False from r).elim
 | some u=>exact⟨u,rfl,r⟩
structure fH(k:Nat)(A:Around):Prop where
 hd:A.handled=none
 dp:A.depth+3*k+5<recursionLimit
 un:A.units+16*k+200<cLine
theorem fH.mono{j k:Nat}(r:fH k A)(h:j<=k):fH j A:=⟨r.hd,by have:=r.dp;lia,by have:=r.un;lia⟩
theorem fH.deeper{k:Nat}(r:fH (k+1) A)(env:Env):fH k (A.deeper env):=
 ⟨r.hd,by have:=r.dp;show A.depth+1+3*k+5<_;lia,by have:=r.un;show A.units+3+16*k+200<_;lia⟩
theorem fH.depth{k:Nat}(r:fH k A):A.depth<recursionLimit:=by have:=r.dp;lia
theorem fH.units{k:Nat}(r:fH k A):A.units+64<cLine:=by have:=r.un;lia
def aB4:TA:=λ_ H Q=>Q [] H
def UP(a:TE)(tr:TA):TA:=λσ H Q=>a σ H λx b=>tr σ b λxs c=>Q (x::xs) c
section
variable {X:Cx}{e:Expr}{es:List Expr}{te:TE}{t:TA}{pos:Pos}
theorem E6:PA X [] aB4:=λ_ _ _ _ H Q I h=>aJb ⟨[],H,I,.nil,h⟩
theorem zK(ha:PE X e te)(c:PA X es t)(d:starEach (e::es) X.env=(false,eval e X.env)::starEach es X.env:=by rfl):PA X (e::es) (UP te t):=by
 intro pos pins s σ H Q I h;rw[d];show wpAny _ _ (spliced ((false,eval e X.env)::backTo pos (starEach es X.env))) _ _ s;refine aIk (cJ (ha pins s σ H _ I h) λu s1 a=>?_);obtain⟨x,f,g,i,j⟩:=a;exact cJ (c pos pins s1 σ f _ g j) λus s2 b=>by obtain⟨xs,k,l,m,n⟩:=b;exact⟨x::xs,k,l,.cons i m,n⟩
def aEj(t:TA):TE:=λσ H Q=>t σ H λxs a=>xs.length<=sizeLine/\∀p,a p=none->Q (.ref p) (upd a p (.tup xs))
def aEp(t:TA):TE:=λσ H Q=>t σ H λxs a=>xs.length<=sizeLine/\∀p,a p=none->Q (.ref p) (upd a p (.lst xs))
theorem MN{x1}(h:PA X es t):PE X (.Tuple es x1 pos) (aEj t):=by
 intro pins s σ H Q I d;refine wpAny_Tuple_spliced (cJ (h pos pins s σ H _ I d) λus s1 ⟨xs,a,c,r,z,q⟩=>⟨by rw[<-r.length];exact z,?_⟩);have f:a s1.heap.objs.size=none:=c.bO.fresh (aGy _);refine⟨.ref s1.heap.objs.size,upd a s1.heap.objs.size (.tup xs),c.laid (t' :=s1.toks) (λb u e=>aGv _ e) (aGy _) ?_,rfl,q _ f⟩;exact⟨z,us,r,⟨_,aH0 _ rfl,rfl,_,rfl⟩,y9 _ _⟩
theorem WW(h:PA X es t):PE X (.List es pos) (aEp t):=by
 intro pins s σ H Q I d;refine wpAny_List_spliced (cJ (h pos pins s σ H _ I d) λus s1 ⟨xs,a,c,r,z,q⟩=>⟨by rw[<-r.length];exact z,?_⟩);have f:a s1.heap.objs.size=none:=c.bO.fresh (aGy _);refine⟨.ref s1.heap.objs.size,upd a s1.heap.objs.size (.lst xs),c.laid (t' :=s1.toks) (λb u e=>aGv _ e) (aGy _) ?_,rfl,q _ f⟩;exact⟨z,us,0,r,aH0 _ rfl⟩
end
abbrev Sp:=List V->Hp->VK->XK->Prop
abbrev K4:=List Env->Hp->Shared->XK->aL2
structure UH(P:Program)(w:World)(K:aL1)(mg:aL4)(base:Heap)(A:Around)(outer:List Env)(s:Shared)(H:Hp):Prop where
 frames:A.frames=some outer
 mod:Mod K mg base
 bs:∀b o,base.get? b=some o->s.heap.get? b=some o/\H b=none
 T5:base.objs.size<=s.heap.objs.size
 vH:s.heap.FunFrames base outer
 frf:∀b∈OZ outer,H b=none
 bO:qE P w H s.heap
 bare:AllBare s.gens
def CE(outer:List Env)(P:Program)(w:World)(H:Hp)(s:Shared)(Q:VK)(u:Value)(a :Shared):Prop:=
 ∃v H',a.os=s.os/\AllBare a.gens/\Un (OZ outer) [] H H' s.heap a.heap/\qE P w H' a.heap/\RelV v u/\Q v H'
def CR(CX:K4)(outer:List Env)(P:Program)(w:World)(H:Hp)(s:Shared)(Q:VK)(E:XK)(r:Result)(a :Shared):Prop:=
 match r with
 | .ok (.ret u)=>CE outer P w H s Q u a
 | .ok _=>False
 | .error e=>CX outer H s E e a
structure iN(P:Program)(w:World)(K:aL1)(mg:aL4)(base:Heap)(CX:K4)(k:Nat)(f:Addr)(fd:FuncData)(ps:List Str)(sp:Sp):Prop where
 len:∀vs H Q E,sp vs H Q E->vs.length=ps.length
 run:∀(A:Around) (outer:List Env) (s:Shared) (H:Hp) (args:Args) (us:List Value) (vs:List V) (Q:VK) (E:XK),fH k A->UH P w K mg base A outer s H->BindsTo s fd args (ps.zip us)->Vals vs us->sp vs H Q E->
  codeAny (model P w) A (.call (.ref f) args) (CR CX outer P w H s Q E) s
variable{mg:aL4}{base:Heap}{f:Addr}{fd:FuncData}{ps:List Str}
theorem iN.mono{CX:K4}{j k:Nat}{sp:Sp}(F:iN P w K mg base CX j f fd ps sp)(h:j<=k):
  iN P w K mg base CX k f fd ps sp:=⟨F.len,λA outer s H args us vs Q E a=>F.run A outer s H args us vs Q E (a.mono h)⟩
theorem iN.imp{CX:K4}{k:Nat}{sp a :Sp}(F:iN P w K mg base CX k f fd ps sp)
  (h:∀vs H Q E,a vs H Q E->sp vs H Q E):iN P w K mg base CX k f fd ps a :=
 ⟨λvs H Q E q=>F.len vs H Q E (h _ _ _ _ q),λA outer s H args us vs Q E b he hb c d=>F.run A outer s H args us vs Q E b he hb c (h _ _ _ _ d)⟩
section
variable {X:Cx}{pins:List (Addr×Obj)}{σ:St}{H:Hp}{s s' :Shared}
theorem Inv.aGe(I:Inv X pins σ H s):UH X.prog X.w X.K X.mg X.base X.A X.stack s H:=
 ⟨I.ok.frames,I.ok.mod,I.bs,aHm I.ok.T5 I.sz,I.stack,I.G3,I.bO,I.bare⟩
theorem Inv.after{Q:VK}(I:Inv X pins σ H s)(h:CE X.stack X.prog X.w H s Q u s'):EP X pins σ Q u s' :=by
 obtain⟨v,H',os,bare,un,bO,r,q⟩:=h;obtain⟨c,g,d,t,a⟩:=s';obtain rfl:a =s.os:=os;exact⟨v,H',I.call (h' :=c) (g' :=g) (d' :=d) (t' :=t) (ch:=[]) un bO bare (λb z=>absurd z (by simp)),r,q⟩
end
def aB9(sp:Sp)(a:List V)(E:XK)(t:TA):TE:=λσ H Q=>t σ H λvs b=>sp (vs++a) b Q E
def Binds(K:aL1)(fd:FuncData)(ps:List Str)(ds:List Value):Prop:=
 ∀(s:Shared) (us:List Value),K.In s.heap->(us++ds).length=ps.length->BindsTo s fd ⟨us,[]⟩ (ps.zip (us++ds))
theorem Binds.all(h:∀us:List Value,us.length=ps.length->bindArgs fd ⟨us,[]⟩=pure (ps.zip us)):Binds K fd ps []:=λs us _ a=>by
 rw[List.append_nil]at a⊢;exact .of_eq (h us a)
def Passes(CX:K4)(X:Cx)(E:XK):Prop:=∀(pins:List (Addr×Obj)) (σ:St) (H:Hp) (s:Shared) (e:Value) (a :Shared),Inv X pins σ H s->CX X.stack H s E e a ->X.xe e a
section
variable {X:Cx}{CX:K4}{k:Nat}{f C:Addr}{fd:FuncData}{ps:List Str}{sp:Sp}{dvs:List V}{ds:List Value}{E:XK}{x m:Str}{p pos apos:Pos}{e o:Expr}{es:List Expr}{ta:TE}{t:TA}
theorem V7{Q:VK}{vs:List V}(F:iN X.prog X.w X.K X.mg X.base CX k f fd ps sp)(c:fH k X.A)(hb:Binds X.K fd ps ds)(hd:Vals dvs ds)(d:Passes CX X E)
  (I:Inv X pins σ H s) (r:Vals vs us) (h:sp (vs++dvs) H Q E):wpAny (model X.prog X.w) X.A (call (.ref f) us) (EP X pins σ Q) X.xe s:=by
 have b:Vals (vs++dvs) (us++ds):=r.append hd;have g:(us++ds).length=ps.length:=by rw[<-b.length];exact F.len _ _ _ _ h
 refine wpAny_call (aJk (F.run X.A X.stack s H ⟨us,[]⟩ (us++ds) (vs++dvs) Q E c I.aGe (hb s us I.YU g) b h) λr i a=>?_)
 cases r with
 | error e=>exact d pins σ H s e i I a
 | ok fl=>
  cases fl with
  | ret u=>exact I.after a
  | next=>exact False.elim a
  | brk=>exact False.elim a
  | cont=>exact False.elim a
theorem HD(F:iN X.prog X.w X.K X.mg X.base CX k f fd ps sp)(d:fH k X.A)(hg:Gl X x)(g:X.mg x=some (.ref f))(i:PySem.W.keepIn X.K (.ref f)=true)(hb:Binds X.K fd ps ds)(hd:Vals dvs ds)(j:Passes CX X E)
  (ha:PA X (e::es) t) (a:(x==("__debug__":Str))=false:=by decide) (he:starEach (e::es) X.env=(false,eval e X.env)::starEach es X.env:=by rfl) (b:(backTo pos (starEach es X.env)).any (·.1)=false:=by rfl):
  PE X (.Call (.Name x p) (e::es) [] pos) (aB9 sp dvs E t):=by
 intro pins s σ H Q I h;refine aIr (SX I hg g ?_ a);refine PySem.W.callWith_K (h₀:=X.base) I.ok.mod.kin i (cJ (ha pos pins s σ H _ I h) λus s1 ⟨vs,l,c,r,q⟩=>⟨c.YU,?_⟩) he b;exact V7 F d hb hd j c r q
end
structure aV(N P:List Str)(sc:Scope):Prop where
 kind:sc.kind= .function
 co:sc.isCoroutine=false
 gen:sc.isGenerator=false
 nd:N.Nodup
 pre:N.take P.length=P
 par:∀x∈P,sc.names.lookup x=some .local\/sc.names.lookup x=some .cell
 XM:∀y∈sc.names,y.2≠ .free
theorem yQ{kindOf:Str->Option NameKind}{x:Str}:∀{binds:List (Str×Value)} {m:aL4},(∀v,(x,v)∉binds)->bindL kindOf binds m x=m x
 | [],_,_=>rfl
 | (n,v)::r,m,h=>by
  unfold bindL;rw[yQ λw a=>h w (List.mem_cons_of_mem _ a)];split
  ·have:x≠n:=by rintro rfl;exact h v aGw
   simp[this]
  ·rfl
theorem yS{kindOf:Str->Option NameKind}{x:Str}:∀{binds:List (Str×Value)} {m:aL4},(∀v,(x,v)∉binds)->bindC kindOf binds m x=m x
 | [],_,_=>rfl
 | (n,v)::r,m,h=>by
  unfold bindC;rw[yS λw a=>h w (List.mem_cons_of_mem _ a)];split
  ·rfl
  ·have:x≠n:=by rintro rfl;exact h v aGw
   simp[this]
theorem yR{kindOf:Str->Option NameKind}{x:Str}{v:Value}:∀{P:List Str} {vs:List Value} {i:Nat} {m:aL4},P.Nodup->P[i]? =some x->vs[i]? =some v->kindOf x=some .local->
  bindL kindOf (P.zip vs) m x=some v
 | [],_,_,_,_,h,_,_=>by simp at h
 | _::_,[],_,_,_,_,h,_=>by simp at h
 | p::P,w::vs,0,m,nd,h1,h2,hk=>by
  simp at h1 h2;subst h1;subst h2;show bindL kindOf ((p,w)::P.zip vs) m p=_;unfold bindL;rw[yQ λv a=>(List.nodup_cons.mp nd).1 (List.of_mem_zip a).1,if_pos hk];simp
 | p::P,w::vs,i+1,m,nd,h1,h2,hk=>by
  show bindL kindOf ((p,w)::P.zip vs) m x=_;unfold bindL;exact yR (i:=i) (aIi.mp nd).2 (by simpa using h1) (by simpa using h2) hk
theorem yT{kindOf:Str->Option NameKind}{x:Str}{v:Value}:∀{P:List Str} {vs:List Value} {i:Nat} {m:aL4},P.Nodup->P[i]? =some x->vs[i]? =some v->kindOf x≠some .local->
  bindC kindOf (P.zip vs) m x=some v
 | [],_,_,_,_,h,_,_=>by simp at h
 | _::_,[],_,_,_,_,h,_=>by simp at h
 | p::P,w::vs,0,m,nd,h1,h2,hk=>by
  simp at h1 h2;subst h1;subst h2;show bindC kindOf ((p,w)::P.zip vs) m p=_;unfold bindC;rw[yS λv a=>(List.nodup_cons.mp nd).1 (List.of_mem_zip a).1,if_neg hk];simp
 | p::P,w::vs,i+1,m,nd,h1,h2,hk=>by
  show bindC kindOf ((p,w)::P.zip vs) m x=_;unfold bindC;exact yT (i:=i) (aIi.mp nd).2 (by simpa using h1) (by simpa using h2) hk
def start(N:List Str)(vs:List V):St:=vs.map some++List.replicate (N.length-vs.length) none
def vO(CX:K4)(P:Program)(w:World)(K:aL1)(mg:aL4)(base:Heap)(N:List Str)(qual:Str)(scope:Scope)(f:Addr)(cd:Value)(A:Around)(outer:List Env)(s:Shared)(H:Hp)(E:XK):Cx where
 prog:=P
 w:=w
 K:=K
 mg:=mg
 base:=base
 A:=A.deeper (envOfC qual scope s.heap.objs.size f cd)
 N:=N
 s₀:=s
 H₀:=H
 env:=envOfC qual scope s.heap.objs.size f cd
 outer:=outer
 stack:=envOfC qual scope s.heap.objs.size f cd::outer
 ex:=[]
 calm:=true
 fn:=λ_=>true
 pn:=[]
 xe:=λe b =>wpAny (model P w) (A.deeper (envOfC qual scope s.heap.objs.size f cd)) (leaving (envOfC qual scope s.heap.objs.size f cd) e) (λ_ a =>CX outer H s E e a) (λc a =>CX outer H s E c a) b
theorem D5{sc:Scope}{n:Nat}{x:Str}(h:sc.names.lookup x=some .cell):∃c,(cellsFrom n sc.names []).lookup x=some c:=by
 have q:=PySem.W.cellsFrom_some sc.names n [] (.inl h);exact Option.isSome_iff_exists.mp q
theorem JY{CX:K4}{N ps:List Str}{qual:Str}{scope:Scope}{cd:Value}{outer:List Env}{s s1:Shared}{E:XK}{vs:List V}
  (S:aV N ps scope) (hd:A.handled=none) (g:UH P w K mg base A outer s H) (F:vs.length=ps.length) (r:Vals vs us)
  (x:InCallC s s.heap.objs.size (bindL (envOfC qual scope s.heap.objs.size f cd).kindOf (ps.zip us) λ_=>none) (cellsFrom (s.heap.objs.size+1) scope.names []) (bindC (envOfC qual scope s.heap.objs.size f cd).kindOf (ps.zip us) λ_=>none) s1):
  Inv (vO CX P w K mg base N qual scope f cd A outer s H E) [] (start N vs) H s1:=by
 have C:ps.length<=N.length:=by have:=aHu List.length S.pre;rw[List.length_take]at this;lia
 obtain⟨o,G,rfl,t⟩:=x.done;have j:∀b:Addr,b∉(vO CX P w K mg base N qual scope f cd A outer s H E).ex:=λb z=>absurd (show b∈([]:List Addr) from z) (by simp)
 refine⟨⟨g.mod,S.kind,rfl,rfl,aGy _,λy z c o d=>?_,λy hy=>?_,λy c _ h=>?_,λ_=>hd,Around.frames_deeper g.frames,.inr ⟨rfl,rfl⟩,λb z=>absurd z (j b),g.bs,g.T5,λb _ _=>j b,λb z=>absurd z (j b),g.vH,g.frf⟩,
  rfl,g.bare,Un.kept t,⟨_,x.toInCall.ns,λi y v o d I=>?_⟩,λy c h=>⟨_,x.cell y c h⟩,g.bO.fresh (aGy _),λy c h=>?_,λp l=>absurd (show p∈([]:List (Addr×Obj)) from l) (by simp),g.bO.kept t,?_⟩
 ·exact name_of_addr x.apart (aI1 o) (aI1 d)
 ·have hy:scope.names.lookup y=some .cell\/scope.names.lookup y=some .free:=hy;rcases hy with hy | hy
  ·exact D5 hy
  ·exact absurd rfl (S.XM _ (aI1 hy))
 ·exact aIz (x.above y c (aI1 h))
 ·have hi:i<vs.length:=by
   unfold start at d;by_cases hi:i<vs.length
   ·exact hi
   ·rw[List.getElem?_append_right (by simpa using hi)]at d;rw[List.getElem?_replicate]at d;split at d <;> cases d
  have ha:vs[i]? =some v:=by
   unfold start at d;rw[List.getElem?_append_left (by simpa using hi),List.getElem?_map]at d
   cases e:vs[i]? with
   | none=>rw[e]at d;cases d
   | some a=>rw[e]at d;cases d;rfl
  obtain⟨u,B,D⟩:=r.get ha
  have l:ps[i]? =some y:=by
   rw[<-S.pre,List.getElem?_take_of_lt (by lia)];exact o
  have m:ps.Nodup:=by rw[<-S.pre];exact S.nd.sublist (aKs _ _)
  refine⟨u,D,?_⟩;rcases S.par y (aH1 l) with k | k
  ·exact .inl ⟨k,yR m l B k⟩
  ·obtain⟨c,e⟩:=D5 (n:=s.heap.objs.size+1) k;refine .inr ⟨.inl k,c,e,?_⟩;have q:=x.cell y c e;rw[yT m l B (by show scope.names.lookup y≠_;rw[k];decide)]at q;exact q
 ·exact g.bO.fresh (aIz (x.above y c (aI1 h)))
 ·unfold start;show _=N.length;rw[List.length_append,List.length_map,List.length_replicate]
  lia
theorem U7{CX:K4}{k:Nat}{name qual:Str}{a:Arguments}{body:List Stmt}{scope:Scope}{D kV doc pm cdv ct oc:Value}{an od:Option Addr}
  {osl:Array (Option Value)} {N ps:List Str} {sp:Sp} (F:K.lookup f=some ⟨oc,od,.func (PySem.W.fnOf name qual a body scope D kV doc pm an cdv ct),osl⟩) (m:PySem.W.codeIn K cdv qual=true) (S:aV N ps scope)
  (len:∀vs H Q E,sp vs H Q E->vs.length=ps.length)
  (d:∀(A:Around) (outer:List Env) (s:Shared) (H:Hp) (vs:List V) (Q:VK) (E:XK),fH k (A.deeper (envOfC qual scope s.heap.objs.size f cdv))->sp vs H Q E->
   ∃t,A5 (vO CX P w K mg base N qual scope f cdv A outer s H E) body t/\t {nx:=λ_ H' =>Q .b9 H',rt:=Q} (start N vs) H):
  iN P w K mg base CX (k+1) f (PySem.W.fnOf name qual a body scope D kV doc pm an cdv ct) ps sp:=by
 refine⟨len,λA outer s H args us vs Q E p i hb r j=>?_⟩;have G:=len _ _ _ _ j;have KX:K.In s.heap:=i.mod.kin.keeps λb o e=>(i.bs b o e).1;have z:s.heap.NoLimit:=i.mod.nolimit.keeps λb o e=>(i.bs b o e).1
 have g:∀y∈ps.zip us,scope.names.lookup y.1=some .local\/(scope.names.lookup y.1=some .cell/\((cellsFrom (s.heap.objs.size+1) scope.names []).lookup y.1).isSome=true):=λl L=>by
  obtain⟨n,v⟩:=l;rcases S.par n (List.of_mem_zip L).1 with q | q
  ·exact .inl q
  ·exact .inr ⟨q,PySem.W.cellsFrom_some _ _ _ (.inl q)⟩
 refine codeAny_call_function p.depth (KX _ _ F) rfl S.co S.gen rfl (PySem.W.codeRec_of KX m) (hb _ _ _ _ ?_);refine wpAny_newFunctionEnv_cells S.kind g λenv he s1 x=>?_;subst he;refine⟨z.keeps x.toInCall.keep,codeAny_func ?_⟩;obtain⟨t,ht,M⟩:=d A outer s H vs Q E (p.deeper _) j;have I:Inv (vO CX P w K mg base N qual scope f cdv A outer s H E) [] (start N vs) H s1:=JY S p.hd i G r x;refine aIg (ht [] s1 (start N vs) H _ I M) (λfl B h=>?_) λe B h=>h
 have fin:∀{c :St} {H' :Hp} {v:V} {u:Value},Inv (vO CX P w K mg base N qual scope f cdv A outer s H E) [] c H' B ->RelV v u->Q v H' ->CE outer P w H s Q u B :=
  λ{c H' v u} J C q=>⟨v,H',J.os,J.bare,J.base,J.bO,C,q⟩
 cases fl with
 | ret u=>
  obtain⟨v,c,H',J,C,q⟩:=h;exact fin J C q
 | next=>
  obtain⟨c,H',J,q⟩:=h;exact fin (v:=V.b9) (u:=Value.none) J rfl q
 | brk=>
  obtain⟨_,_,_,q⟩:=h;exact False.elim q
 | cont=>
  obtain⟨_,_,_,q⟩:=h;exact False.elim q
section
variable {X:Cx}{x:Str}{p pos:Pos}{e:Expr}{es:List Expr}{t:TA}{id T:String}{r:List V->Hp->VK->Prop}
def tCB(r:List V->Hp->VK->Prop)(t:TA):TE:=λσ H Q=>t σ H λvs a=>r vs a Q
theorem CB(d:cU X (.builtin id) r)(hg:Gl X x)(f:X.mg x=none)(g:bootBuiltins x=some (.builtin id))(ha:PA X (e::es) t)(i:x≠ "__name__":=by decide)(b:(x==("__debug__":Str))=false:=by decide)
  (he:starEach (e::es) X.env=(false,eval e X.env)::starEach es X.env:=by rfl) (c:(backTo pos (starEach es X.env)).any (·.1)=false:=by rfl):PE X (.Call (.Name x p) (e::es) [] pos) (tCB r t):=by
 intro pins s σ H Q I h;refine aIr (n9 I hg f g ?_ i b);exact PyProof.Rows.callWith_builtin1 (cJ (ha pos pins s σ H _ I h) λus s1 a=>by obtain⟨vs,j,k,l,m⟩:=a;exact d pins s1 σ j vs us Q k l m) he c
theorem xR(d:cU X (.type T) r)(hg:Gl X x)(f:X.mg x=none)(g:bootBuiltins x=some (.type T))(ha:PA X (e::es) t)(i:x≠ "__name__":=by decide)(b:(x==("__debug__":Str))=false:=by decide)
  (he:starEach (e::es) X.env=(false,eval e X.env)::starEach es X.env:=by rfl) (c:(backTo pos (starEach es X.env)).any (·.1)=false:=by rfl):PE X (.Call (.Name x p) (e::es) [] pos) (tCB r t):=by
 intro pins s σ H Q I h;refine aIr (n9 I hg f g ?_ i b);exact aIc (cJ (ha pos pins s σ H _ I h) λus s1 a=>by obtain⟨vs,j,k,l,m⟩:=a;exact d pins s1 σ j vs us Q k l m) he c
end
end L2
namespace HT
open PySem PyProof.Rows
section
open PySem.SeqAt
open PySem.AutoSeq1 (wpAny_loadPart')
open PySem.MeetsSeq PySem.MeetsSeq2 PySem.MeetsSeq3
end
section
variable {prog:Program}{w:World}{A:Around}{E:aL2}{s:Shared}
theorem T3{t b:Addr}{vs a:List Value}{Q:aL2}(ht:IsTup s.heap t vs.toArray)(hb:IsTup s.heap b a.toArray)(j:vs≠[])
  (p:a=[]->Q (.ref t) s) (q:a≠[]->Q (.ref s.heap.objs.size) {s with heap:=s.heap.push {cls:= .type "tuple",data:= .seq (vs++a).toArray}})
  (hsz:vs.length+a.length<=sizeLine):wpAny (model prog w) A (binaryOp .Add (.ref t) (.ref b)) Q E s:=by
 obtain⟨⟨cls,k,data,sl⟩,ho,l,n,hd⟩:=id ht;obtain⟨⟨m,d,data2,f⟩,c,g,o,h⟩:=id hb;simp only at l hd g h;subst l hd g h;have e:vs.toArray++a.toArray=(vs++a).toArray:=by simp
 by_cases i:a=[]
 ·exact concat_meets ⟨_,ho,rfl⟩ ⟨_,c,rfl⟩ noFill_tuple_add seq_tuple_add aJz aJu (aJq _ _)
   (tuple_addW1 t b vs.toArray a.toArray n o k d sl f (by simpa using j) (by simp[i])) ⟨ho,c,p i⟩
 ·refine concat_meets ⟨_,ho,rfl⟩ ⟨_,c,rfl⟩ noFill_tuple_add seq_tuple_add aJz aJu (aJq _ _)
   (tuple_addW2 t b vs.toArray a.toArray n o k d sl f (by simpa using j) (by simpa using i) (by rw[List.size_toArray,List.size_toArray];exact hsz)) ⟨ho,c,?_⟩
  rw[e];exact q i
def cW(n d:Nat):Option Int->Nat
 | none=>d
 | some v=>if v<0 then (v+(n:Int)).toNat else min v.toNat n
theorem V6(n d:Nat)(hd:d<=n)(o:Option Int):cW n d o<=n:=by
 cases o with
 | none=>exact hd
 | some v=>
  show (if v<0 then (v+(n:Int)).toNat else min v.toNat n)<=n;by_cases a:v<0
  ·rw[if_pos a];lia
  ·rw[if_neg a];exact Nat.min_le_right _ _
theorem II(v:Int)(n d:Nat):(if v<0 then max (v+(n:Int)) 0 else min v (n:Int))=((cW n d (some v):Nat):Int):=by
 show (if v<0 then max (v+(n:Int)) 0 else min v (n:Int))=(((if v<0 then (v+(n:Int)).toNat else min v.toNat n):Nat):Int);by_cases a:v<0
 ·simp only[if_pos a];lia
 ·simp only[if_neg a];lia
theorem GF(lo hi:Option Int)(n:Nat):Builtin.Slice.sliceAdjust lo hi 1 (n:Int)=(((cW n 0 lo:Nat):Int),((cW n n hi:Nat):Int)):=by
 have a:¬((1:Int)<0):=by lia
 unfold Builtin.Slice.sliceAdjust;simp only[a,if_false];refine aKx ?_ ?_
 ·cases lo with
  | none=>rfl
  | some v=>exact II v n 0
 ·cases hi with
  | none=>rfl
  | some v=>exact II v n n
theorem E3(i j:Nat):Builtin.Slice.slicePlaces (i:Int) (j:Int) 1=j-i:=by
 unfold Builtin.Slice.slicePlaces;have a:(1:Int) > 0:=by lia
 simp only[a,if_true,Int.ediv_one];split <;> lia
theorem uD{v:Value}{o:Option Int}{Q:Option Int->Shared->Prop}(p:IsPart v o)(h:Q o s):wpAny (model prog w) A (Builtin.Slice.slicePartIndex v) Q E s:=by
 cases p with
 | none=>exact slicePart_none h
 | int i t=>exact slicePart_int h
theorem iY{sl:Addr}{c d:Value}{lo hi:Option Int}{n:Nat}{Q:Int×Int×Nat->Shared->Prop}(e:s.heap.IsSliceOf sl c d .none)(f:IsPart c lo)(g:IsPart d hi)
  (h:Q (((cW n 0 lo:Nat):Int),1,cW n n hi-cW n 0 lo) s):wpAny (model prog w) A (Builtin.Slice.sliceApplied (.ref sl) (pure (n:Int))) Q E s:=by
 obtain⟨os,a,i,b⟩:=id e;unfold Builtin.Slice.sliceApplied Builtin.Slice.sliceFields;refine aGs (aGs (aHz a b (x:=c) rfl (aGs (aHz a b (x:=d) rfl (aGs (aHz a b (x:= .none) rfl (aGu ?_)))))));refine aGs (slicePart_none ?_);show wpAny _ _ (if ((1:Int)==0)=true then _ else _) _ _ s;rw[if_neg (by decide)];refine aGs (uD f (aGs (uD g (aGs (aGu ?_)))));show wpAny _ _ (match Builtin.Slice.sliceAdjust lo hi 1 (n:Int) with | (lo,hi)=>pure (lo,(1:Int),Builtin.Slice.slicePlaces lo hi 1)) _ _ s;rw[GF lo hi n];show wpAny _ _ (pure (((cW n 0 lo:Nat):Int),(1:Int),Builtin.Slice.slicePlaces ((cW n 0 lo:Nat):Int) ((cW n n hi:Nat):Int) 1)) _ _ s;rw[E3];exact aGu h
theorem MJ(xs:Array Value)(i k:Nat):((List.range k).filterMap λ(m:Nat)=>xs[((i:Int)+(m:Int)*1).toNat]?).toArray=((xs.toList.drop i).take k).toArray:=by
 have e:(λ(m:Nat)=>xs[((i:Int)+(m:Int)*1).toNat]?)=λm=>xs[i+m]? :=by
  funext m;have:((i:Int)+(m:Int)*1).toNat=i+m:=by lia
  rw[this]
 rw[e];have:=pick_run xs i k;rw[List.filterMap_map]at this;have a:((λx=>xs[x]?) ∘ λx=>i+x)=λm=>xs[i+m]? :=rfl;rw[a]at this;rw[this]
theorem pS{t sl:Addr}{items:Array Value}{f g:Value}{lo hi:Option Int}{Q:aL2}(ht:IsTup s.heap t items)(i:s.heap.IsSliceOf sl f g .none)(j:IsPart f lo)(k:IsPart g hi)
  (l:¬(cW items.size 0 lo=0/\cW items.size items.size hi=items.size))
  (h:Q (.ref s.heap.objs.size) {s with heap:=s.heap.push {cls:= .type "tuple",data:= .seq ((items.toList.drop (cW items.size 0 lo)).take (cW items.size items.size hi-cW items.size 0 lo)).toArray}})
  (hsz:items.size<=sizeLine):wpAny (model prog w) A (getItem (.ref t) (.ref sl)) Q E s:=by
 have a:sizeOk (.seq ((items.toList.drop (cW items.size 0 lo)).take (cW items.size items.size hi-cW items.size 0 lo)).toArray):=by
  show ((items.toList.drop (cW items.size 0 lo)).take (cW items.size items.size hi-cW items.size 0 lo)).toArray.size<=sizeLine;rw[List.size_toArray,List.length_take,List.length_drop,Array.length_toList]
  lia
 have o:cW items.size items.size hi<=items.size:=V6 _ _ (aGy _) hi;obtain⟨os,b,c,n⟩:=id i
 have d:s.TypeIs (.ref sl) "slice":=⟨os,b,c⟩
 unfold getItem
 try with_reducible refine aHo ?_
 first | refine aGs (aGu ?_) | skip
 refine aGs (wpAny_sequenceKey ht.typeIs (by decide) ?_)
 refine aGs (aHj (name:=Str.ofString "__getitem__") ht.typeIs aHy
  (aHe aHy ht.typeIs entry_tuple_getitem ?_ (args_tuple_getitem _ _)))
 show wpAny _ _ (Builtin.Tuple.tupleItemsOf (.ref t) >>=_) _ _ s;refine aGs (tupleItemsOf_ ht ?_);refine aGs (aIq d ?_);rw[if_pos (by decide)];refine aGs (iY i j k ?_)
 have e:¬((((cW items.size 0 lo:Nat):Int)==0 && (1:Int)==1 && (cW items.size items.size hi-cW items.size 0 lo)==items.size)=true):=by
  intro q;rw[Bool.and_eq_true,Bool.and_eq_true]at q;have p:((cW items.size 0 lo:Nat):Int)=0:=eq_of_beq q.1.1;have r:cW items.size items.size hi-cW items.size 0 lo=items.size:=eq_of_beq q.2;exact l ⟨by lia,by lia⟩
 show wpAny _ _ (if (((cW items.size 0 lo:Nat):Int)==0 && (1:Int)==1 && (cW items.size items.size hi-cW items.size 0 lo)==items.size)=true then _ else _) _ _ s;rw[if_neg e,MJ]
 first
  | exact aGs (m:=Builtin.Tuple.tupleExact _) (aHk (aGu ⟨_,rfl,aGu h⟩) a)
  | exact aGs (m:=Builtin.Tuple.tupleExact _) (aHk (aGs (aGu (aGu ⟨_,rfl,aGu h⟩))) a)
  | exact aGs (aGs (m:=Builtin.Tuple.tupleExact _) (aHk (aGu (aGu ⟨_,rfl,aGu h⟩)) a))
  | exact aGs (aGs (m:=Builtin.Tuple.tupleExact _) (aHk (aGu ⟨_,rfl,aGu h⟩) a))
end
end HT
namespace L2
open PySem PySem.Spec PyProof.Rows
abbrev TO:=St->Hp->(Option Int->Hp->Prop)->Prop
def PO(X:Cx)(e:Option Expr)(t:TO):Prop:=
 ∀(pins:List (Addr×Obj)) (s:Shared) (σ:St) (H:Hp) (Q:Option Int->Hp->Prop),Inv X pins σ H s->t σ H Q->
  wpAny (model X.prog X.w) X.A (evalPart e X.env) (λu a =>∃o H',Inv X pins σ H' a /\IsPart u o/\Q o H') X.xe s
def QU:TO:=λ_ H Q=>Q none H
def aB1(t:TE):TO:=λσ H Q=>t σ H λx a=>∃i,x= .int i/\Q (some i) a
section
variable {X:Cx}{e:Expr}{te:TE}{lo hi:Option Expr}{tl th:TO}{pos p2:Pos}
theorem RI:PO X none QU:=by
 intro pins s σ H Q I h;rw[evalPart_none];exact aGu ⟨none,H,I,.none,h⟩
theorem RH(h:PE X e te):PO X (some e) (aB1 te):=by
 intro pins s σ H Q I b;rw[evalPart_some];refine cJ (h pins s σ H _ I b) λu s1 a=>?_;obtain⟨x,c,d,f,g⟩:=a;obtain⟨i,rfl,q⟩:=g;obtain⟨t,rfl⟩:=f;exact⟨some i,c,d,.int i t,q⟩
def SlR(X:Cx)(r:V->Option Int->Option Int->Hp->VK->Prop):Prop:=
 ∀(pins:List (Addr×Obj)) (s:Shared) (σ:St) (H:Hp) (x:V) (v a b:Value) (lo hi:Option Int) (sl:Addr) (Q:VK),Inv X pins σ H s->RelV x v->s.heap.IsSliceOf sl a b .none->IsPart a lo->IsPart b hi->r x lo hi H Q->
  ∃T id,typeLookup (.type T) "__getitem__"=pure (some (.builtin id))/\s.TypeIs v T/\wpAny (model X.prog X.w) X.A (getItem v (.ref sl)) (EP X pins σ Q) X.xe s
def tSl(r:V->Option Int->Option Int->Hp->VK->Prop)(te:TE)(tl th:TO):TE:=λσ H Q=>te σ H λx a=>tl σ a λl b=>th σ b λu c=>r x l u c Q
theorem MP{r:V->Option Int->Option Int->Hp->VK->Prop}(j:SlR X r)(he:PE X e te)(k:PO X lo tl)(m:PO X hi th):PE X (.Subscript e (.Slice lo hi none p2) pos) (tSl r te tl th):=by
 intro pins s σ H Q I h;refine Subscript_ (cJ (he pins s σ H _ I h) λv s1 c=>?_);obtain⟨x,n,o,p,t⟩:=c;refine wpAny_Slice (cJ (k pins s1 σ n _ o t) λf s2 ⟨l,y,z,B,C⟩=>cJ (m pins s2 σ y _ z C) λg a d=>?_);obtain⟨u,i,D,E,F⟩:=d;rw[evalPart_none];refine aGu ?_;have G:Inv X pins σ i {a with heap:=a.heap.push {cls:= .type "slice",data:= .fields #[f,g,.none]}}:=D.kept (t' :=a.toks) λb ob q=>aGv _ q;obtain⟨T,id,J,ht,hg⟩:=j pins {a with heap:=a.heap.push {cls:= .type "slice",data:= .fields #[f,g,.none]}} σ i x v f g l u a.heap.objs.size Q G p (Heap.IsSliceOf.new ..) B E F;show wpAny (model X.prog X.w) X.A (subscriptTail e (.Slice lo hi none p2) v (.ref a.heap.objs.size)) (EP X pins σ Q) X.xe {a with heap:=a.heap.push {cls:= .type "slice",data:= .fields #[f,g,.none]}};exact tail_any (ops:=[.ref a.heap.objs.size,v]) ht J hg (by with_unfolding_all rfl)
def AQ(xs:List V)(lo hi:Option Int):List V:=(xs.drop (HT.cW xs.length 0 lo)).take (HT.cW xs.length xs.length hi-HT.cW xs.length 0 lo)
theorem rZ(xs:List V)(lo hi:Option Int):(AQ xs lo hi).length<=xs.length:=by
 unfold AQ;rw[List.length_take,List.length_drop]
 lia
def aFo(K:aL1):V->Option Int->Option Int->Hp->VK->Prop:=λx lo hi H Q=>∃a xs,x= .ref a/\sL K H a xs/\
 ¬(HT.cW xs.length 0 lo=0/\HT.cW xs.length xs.length hi=xs.length)/\∀p,H p=none->Q (.ref p) (upd H p (.tup (AQ xs lo hi)))
theorem V3:SlR X (aFo X.K):=by
 intro pins s σ H x v k l lo hi sl Q I d e f g h;obtain⟨a,xs,rfl,i,j,q⟩:=h;cases d;obtain⟨aH,r,ht,hz⟩:=I.tuple i;have c:aH.toArray.size=xs.length:=by rw[List.size_toArray];exact r.length.symm
 refine⟨"tuple",_,aHy.lookup,ht.typeIs,?_⟩;refine HT.pS ht e f g (by rw[c];exact j) ?_ (by rw[c];exact hz);rw[c];refine⟨.ref s.heap.objs.size,_,I.laid (t' :=s.toks) (o:= .tup (AQ xs lo hi)) (λb ob q=>aGv _ q) (aGy _) ?_,rfl,q _ (I.bO.fresh (aGy _))⟩;exact⟨aHm (rZ xs lo hi) hz,_,(r.drop (HT.cW xs.length 0 lo)).take (HT.cW xs.length xs.length hi-HT.cW xs.length 0 lo),IsTup.new _ _,y9 _ _⟩
def aBp(K:aL1):R2:=λx y H Q=>∃a b xs ys,x= .ref a/\y= .ref b/\sL K H a xs/\sL K H b ys/\xs≠[]/\xs.length+ys.length<=sizeLine/\
 (ys=[]->Q (.ref a) H)/\(ys≠[]->∀p,H p=none->Q (.ref p) (upd H p (.tup (xs++ys))))
theorem Vals.zN{xs:List V}{us:List Value}(r:Vals xs us):us=[]↔xs=[]:=by
 cases r with
 | nil=>simp
 | cons _ _=>simp
theorem RU:eL X (binaryOp .Add) (aBp X.K):=by
 intro pins s σ H x y v u Q I f g h;obtain⟨a,b,xs,ys,rfl,rfl,ha,hb,i,hz,j,k⟩:=h;cases f;cases g;obtain⟨aH,d,l,_⟩:=I.tuple ha;obtain⟨e,c,p2,_⟩:=I.tuple hb;refine HT.T3 l p2 (λz=>i (d.zN.mp z)) (λz=>⟨.ref a,H,I,rfl,j (c.zN.mp z)⟩) (λz=>?_) (by rw[<-d.length,<-c.length];exact hz);refine⟨.ref s.heap.objs.size,_,I.laid (t' :=s.toks) (o:= .tup (xs++ys)) (λb ob q=>aGv _ q) (aGy _) ?_,rfl,k (λw=>z (c.zN.mpr w)) _ (I.bO.fresh (aGy _))⟩;exact⟨by rw[List.length_append];exact hz,_,d.append c,IsTup.new _ _,y9 _ _⟩
end
def FO(n:Nat)(i:Int):Option Nat:=if 0<=i then (if i<n then some i.toNat else none) else if -(n:Int)<=i then some (i+n).toNat else none
def mY{α:Type}(xs:List α)(i:Int):Option α:=(FO xs.length i).bind λj=>xs[j]?
variable{n:Nat}
theorem HS{i:Int}{j:Nat}(h:FO n i=some j):seqIndex? i n=some j/\j<n/\ -(n:Int)<=i/\i<n:=by
 unfold FO at h;by_cases h0:0<=i
 ·rw[if_pos h0]at h;by_cases a:i<n
  ·rw[if_pos a]at h;have e:i.toNat=j:=aHd h;exact⟨by rw[seqIndex_of h0 a,e],by lia,by lia,a⟩
  ·rw[if_neg a]at h;cases h
 ·rw[if_neg h0]at h;by_cases a: -(n:Int)<=i
  ·rw[if_pos a]at h;have e:(i+n).toNat=j:=aHd h;exact⟨by rw[seqIndex_neg (by lia) a,e],by lia,a,by lia⟩
  ·rw[if_neg a]at h;cases h
theorem A2{α:Type}{xs:List α}{i:Int}{v:α}(h:mY xs i=some v):∃j,seqIndex? i xs.length=some j/\xs[j]? =some v/\j<xs.length/\ -(xs.length:Int)<=i/\i<xs.length:=by
 unfold mY at h
 cases e:FO xs.length i with
 | none=>rw[e]at h;cases h
 | some j=>
  rw[e]at h;obtain⟨a,b,c,d⟩:=HS e;exact⟨j,a,h,b,c,d⟩
theorem iG{α:Type}{xs:List α}{j:Nat}{v:α}(h:xs[j]? =some v):mY xs (j:Int)=some v:=by
 have a:j<xs.length:=(aGt.mp h).1
 have e:FO xs.length (j:Int)=some j:=by
  unfold FO;rw[if_pos (by lia),if_pos (by lia)];simp
 unfold mY;rw[e];exact h
def IS(b:Expr):Prop:=∀o i,subscripted b false o i=operate [o,i] (getItem o i)
def VA(X:Cx)(r:R2):Prop:=
 ∀(b a:Expr) (pins:List (Addr×Obj)) (s:Shared) (σ:St) (H:Hp) (x y:V) (v u:Value) (Q:VK),Inv X pins σ H s->RelV x v->RelV y u->r x y H Q->
  subscripted a false v u=operate [v,u] (getItem v u)->wpAny (model X.prog X.w) X.A (subscriptTail b a v u) (EP X pins σ Q) X.xe s
def MtR(X:Cx)(id:String)(r:V->List V->Hp->VK->Prop):Prop:=
 ∀(pins:List (Addr×Obj)) (s:Shared) (σ:St) (H:Hp) (x:V) (xs:List V) (v:Value) (us:List Value) (Q:VK),Inv X pins σ H s->RelV x v->Vals xs us->r x xs H Q->
  wpAny (model X.prog X.w) X.A (call (.builtin id) (v::us)) (EP X pins σ Q) X.xe s
section
variable {X:Cx}{a b:Expr}{ta tb:TE}{pos:Pos}
theorem aBx{r:R2}(c:VA X r)(ha:PE X a ta)(hb:PE X b tb)(d:IS b):PE X (.Subscript a b pos) (tOp r ta tb):=by
 intro pins s σ H Q I h;exact Subscript_ (Z6 ha hb I h λv u s2 x y e f g i q=>c a b pins s2 σ e x y v u Q f g i q (d _ _))
def aFt(K:aL1):R2:=λx y H Q=>∃p xs i v,x= .ref p/\y= .int i/\oI K H p xs/\mY xs i=some v/\Q v H
def aFr(K:aL1):R2:=λx y H Q=>∃p xs i v,x= .ref p/\y= .int i/\sL K H p xs/\mY xs i=some v/\Q v H
def aFs:R2:=λx y H Q=>∃z i c,x= .str z/\y= .int i/\z.length<=sizeLine/\mY z.cps.toList i=some c/\Q (.str ⟨#[c]⟩) H
theorem S4:VA X (aFt X.K):=by
 intro b c pins s σ H x y v u Q I l m h g;obtain⟨p,xs,i,z,rfl,rfl,n,he,q⟩:=h;cases l;obtain⟨t,rfl⟩:=m;obtain⟨aH,r,d,hz⟩:=I.list n;obtain⟨j,a,o,E,A,B⟩:=A2 he;obtain⟨w,k,e⟩:=r.get o;have C:=r.length;have F:=lR
 have fin:EP X pins σ Q w s:=⟨z,H,I,e,q⟩
 by_cases h0:0<=i
 ·have f:i.toNat=j:=by
   rw[seqIndex_of h0 B]at a;exact aHd a
  exact item_listR d.isList h0 (by lia) (by rw[f];simpa using k) fin g
 ·have f:(i+(aH.toArray.size:Int)).toNat=j:=by
   rw[seqIndex_neg (by lia) A]at a;rw[List.size_toArray,<-C];exact aHd a
  exact subscriptTail_builtinR (x:=w) d.isList.typeIs slot_list_getitem.lookup
   (wpAny_getItem_list_neg (Q:=λr D =>r=w/\EP X pins σ Q r D) d.isList (by lia) (by rw[List.size_toArray] <;> lia) (by lia) (by rw[f];simpa using k) ⟨rfl,fin⟩) g
theorem YV:VA X (aFr X.K):=by
 intro a b pins s σ H x y v u Q I e f h g;obtain⟨p,xs,i,z,rfl,rfl,k,he,q⟩:=h;cases e;obtain⟨t,rfl⟩:=f;obtain⟨aH,r,d,hz⟩:=I.tuple k;obtain⟨j,l,m,B,C,D⟩:=A2 he;obtain⟨w,n,c⟩:=r.get m;have o:=r.length;have E:=lR
 have fin:EP X pins σ Q w s:=⟨z,H,I,c,q⟩
 exact subscriptTail_builtinR (x:=w) d.typeIs slot_tuple_getitem.lookup
  (getItem_tuple (j:=j) (Q:=λr A =>r=w/\EP X pins σ Q r A) d (by lia) (by lia) (by rw[List.size_toArray,<-o];exact l) (by simpa using n) ⟨rfl,fin⟩) g
theorem YW:VA X aFs:=by
 intro a b pins s σ H x y v u Q I e f h g;obtain⟨z,i,c,rfl,rfl,hz,he,q⟩:=h;obtain⟨t,rfl⟩:=e;obtain⟨t',rfl⟩:=f;obtain⟨j,d,k,r,l,m⟩:=A2 he;have n:z.cps.toList.length=z.length:=by simp[Str.length]
 rw[n]at d l m;have w:=lR
 exact tail_any (typeIs_str s z t) slot_str_getitem.lookup (getItem_str (c:=c) (by
  have o:decide (i < -(2^63:Int))=false:=aIw (by lia);have p:decide (i>=2^63)=false:=aIw (by lia)
  rw[o,p,Bool.or_false]) (by rw[d];simpa using k) ⟨.str ⟨#[c]⟩,H,I.tok _,⟨_,rfl⟩,q⟩) g
theorem FE(aH:List Value)(n j:Nat)(u:Value):Obj.mapSeq (·.setIfInBounds j u) {cls:= .type "list",data:= .seq aH.toArray n}={cls:= .type "list",data:= .seq (aH.set j u).toArray n}:=by
 simp[Obj.mapSeq]
variable{pins:List (Addr×Obj)}{s:Shared}
theorem Inv.lst{σ:St}{H:Hp}{p:Addr}{xs:List V}(I:Inv X pins σ H s)(h:H p=some (.lst xs)):
  ∃(aH:List Value) (n:Nat),Vals xs aH/\s.heap.get? p=some {cls:= .type "list",data:= .seq aH.toArray n}/\xs.length<=sizeLine:=by
 obtain⟨z,aH,n,r,e⟩:=I.bO p _ h;exact⟨aH,n,r,e,z⟩
theorem Inv.XY{σ:St}{H:Hp}{p:Addr}{xs ys:List V}{aH its' :List Value}{n a :Nat}{f:Obj->Obj}(I:Inv X pins σ H s)(h:H p=some (.lst xs))
  (ho:s.heap.get? p=some {cls:= .type "list",data:= .seq aH.toArray n}) (c:f {cls:= .type "list",data:= .seq aH.toArray n}={cls:= .type "list",data:= .seq its'.toArray a}) (r:Vals ys its') (hz:ys.length<=sizeLine) (t:Nat):
  Inv X pins σ (upd H p (.lst ys)) {s with heap:=s.heap.update p f,toks:=t}:=by
 have e:(s.heap.update p f).get? p=some {cls:= .type "list",data:= .seq its'.toArray a}:=by
  rw[Heap.get?_update_self f ho (by rw[c] <;> rfl),c]
 refine I.write (x:=p) (e:=p) (by rw[h];trivial) (.inl rfl) (λb u hb q=>(aHq _ _ (aHv hb)).trans q) ⟨_,e⟩ ?_;exact⟨hz,its',a,r,e⟩
def aBn:V->V->V->Hp->(Hp->Prop)->Prop:=λo i v H Q=>∃p xs k j,o= .ref p/\i= .int k/\H p=some (.lst xs)/\FO xs.length k=some j/\Q (upd H p (.lst (xs.set j v)))
theorem set_list:aDd X aBn:=by
 intro pins s σ H o i v y z u Q I l m w h;obtain⟨p,xs,k,j,rfl,rfl,d,x,q⟩:=h;cases l;obtain⟨t,rfl⟩:=m;obtain⟨aH,n,r,ho,hz⟩:=I.lst d;obtain⟨a,A,e,f⟩:=HS x;have b:=r.length;have B:=lR
 have g :Inv X pins σ (upd H p (.lst (xs.set j v))) {s with heap:=s.heap.update p (Obj.mapSeq (·.setIfInBounds j u))}:=
  I.XY d ho (FE aH n j u) (r.set w j) (by rw[List.length_set];exact hz) s.toks
 by_cases h0:0<=k
 ·have c:k.toNat=j:=by
   rw[seqIndex_of h0 f]at a;exact aHd a
  exact PySem.W.ki_setAt ho h0 (by lia) (by rw[List.size_toArray,<-b];exact f) (by rw[c];exact⟨_,g,q⟩)
 ·have c:(k+(aH.toArray.size:Int)).toNat=j:=by
   rw[seqIndex_neg (by lia) e]at a;rw[List.size_toArray,<-b];exact aHd a
  exact PySem.W.ki_setBack ho (by lia) (by rw[List.size_toArray,<-b];exact e) (by lia) (by rw[c];exact⟨_,g,q⟩)
theorem zB(lo hi:Option Int)(n:Nat):(sliceBounds lo hi none n).1=((HT.cW n 0 lo:Nat):Int)/\(sliceBounds lo hi none n).2.1=((HT.cW n n hi:Nat):Int)/\(sliceBounds lo hi none n).2.2=1:=by
 refine⟨?_,?_,rfl⟩
 ·cases lo with
  | none=>simp[sliceBounds,HT.cW]
  | some i=>
   simp only[sliceBounds,HT.cW,Option.getD_none,show (1:Int) > 0 by decide,if_true];by_cases h:i<0
   ·simp only[h,if_true] <;> lia
   ·simp only[h,if_false] <;> lia
 ·cases hi with
  | none=>simp[sliceBounds,HT.cW]
  | some i=>
   simp only[sliceBounds,HT.cW,Option.getD_none,show (1:Int) > 0 by decide,if_true];by_cases h:i<0
   ·simp only[h,if_true] <;> lia
   ·simp only[h,if_false] <;> lia
theorem v9(aH:List Value)(lo hi:Option Int):slicePick aH.toArray lo hi none=((aH.drop (HT.cW aH.length 0 lo)).take (HT.cW aH.length aH.length hi-HT.cW aH.length 0 lo)).toArray:=by
 obtain⟨a,b,c⟩:=zB lo hi aH.toArray.size;unfold slicePick;rw[a,b,c];simp only[sliceRange_one,pick_run,List.size_toArray] <;> rfl
def aFp(K:aL1):V->Option Int->Option Int->Hp->VK->Prop:=λx lo hi H Q=>∃a xs,x= .ref a/\oI K H a xs/\∀p,H p=none->Q (.ref p) (upd H p (.lst (AQ xs lo hi)))
theorem QY:SlR X (aFp X.K):=by
 intro pins s σ H x v j k lo hi sl Q I d e f g h;obtain⟨a,xs,rfl,i,q⟩:=h;cases d;obtain⟨aH,r,ht,hz⟩:=I.list i;have c:=r.length;refine⟨"list",_,slot_list_getitem.lookup,ht.isList.typeIs,?_⟩;refine wpAny_getItem_list_slice ht.isList e f g .none (by simp) ?_ (by rw[List.size_toArray] <;> lia);rw[v9,<-c];refine⟨.ref s.heap.objs.size,_,I.laid (t' :=s.toks) (o:= .lst (AQ xs lo hi)) (λb ob q=>aGv _ q) (aGy _) ?_,rfl,q _ (I.bO.fresh (aGy _))⟩;exact⟨aHm (rZ xs lo hi) hz,_,0,(r.drop (HT.cW xs.length 0 lo)).take (HT.cW xs.length xs.length hi-HT.cW xs.length 0 lo),aH0 _ rfl⟩
theorem AV:cU X (.builtin "len") (λxs H Q=>∃p ys,xs=[.ref p]/\(oI X.K H p ys\/sL X.K H p ys)/\Q (.int ys.length) H):=by
 intro pins s σ H xs us Q I r h;obtain⟨p,ys,rfl,hq,q⟩:=h;obtain⟨u,rfl,d⟩:=vals1 r;cases d;have e:=lR;rcases hq with hq | hq
 ·obtain⟨aH,b,c,hz⟩:=I.list hq;have a:=b.length;exact Calls.call_len_list c.isList (by simp only[List.size_toArray] <;> lia) ⟨.int ys.length,H,I.tok _,⟨s.toks+1,by rw[List.size_toArray,a]⟩,q⟩
 ·obtain⟨aH,b,c,hz⟩:=I.tuple hq;have a:=b.length;exact len_tuple c (by simp only[List.size_toArray] <;> lia) ⟨.int ys.length,H,I.tok _,⟨s.toks+1,by rw[List.size_toArray,a]⟩,q⟩
theorem AU:cU X (.builtin "len") (λxs H Q=>∃z,xs=[.str z]/\z.length<=sizeLine/\Q (.int z.length) H):=by
 intro pins s σ H xs us Q I r h;obtain⟨z,rfl,hz,q⟩:=h;obtain⟨u,rfl,t,rfl⟩:=vals1 r;have a:=lR;exact len_str (by lia) ⟨.int z.length,H,I.tok _,⟨_,rfl⟩,q⟩
theorem iM:cU X (.type "tuple") (λxs H Q=>∃p ys,xs=[.ref p]/\((oI X.K H p ys/\∀l,H l=none->Q (.ref l) (upd H l (.tup ys)))\/(sL X.K H p ys/\Q (.ref p) H))):=by
 intro pins s σ H xs us Q I r h;obtain⟨p,ys,rfl,h⟩:=h;obtain⟨u,rfl,i⟩:=vals1 r;cases i
 rcases h with ⟨a,q⟩ | ⟨a,q⟩
 ·obtain⟨aH,c,d,hz⟩:=I.list a;have f:=c.length;refine call_tuple_list d.isList (λh' kp=>?_) (by simp only[List.size_toArray] <;> lia);have g:Inv X pins σ H {s with heap:=h'}:=I.kept (t' :=s.toks) kp
  have j:Inv X pins σ (upd H h'.objs.size (.tup ys)) {s with heap:=h'.push {cls:= .type "tuple",data:= .seq aH.toArray}}:=
   g.laid (t' :=s.toks) (λb o e=>aGv _ e) (aGy _) (show cH X.prog X.w _ _ _ (.tup ys) from ⟨hz,aH,c,IsTup.new _ _,y9 _ _⟩)
  exact⟨.ref h'.objs.size,_,j,rfl,q _ (g.bO.fresh (aGy _))⟩
 ·obtain⟨aH,c,d,hz⟩:=I.tuple a;exact call_tuple_same d ⟨.ref p,H,I,rfl,q⟩
def tyV(K:aL1)(T:String)(x:V)(H:Hp):Prop:=match x with
 | .str _=>T= "str"
 | .int _=>T= "int"
 | .ref p=>(T= "list"/\∃xs,oI K H p xs)\/(T= "tuple"/\∃xs,sL K H p xs)\/
   (T= "dict"/\((∃kvs,H p=some (.dK kvs))\/∃kvs,H p=some (.dT kvs)))\/(T= "set"/\∃S n,H p=some (.set S n))
 | _=>False
theorem VN{σ:St}{H:Hp}{T:String}{x:V}{v:Value}(I:Inv X pins σ H s)(r:RelV x v)(ty:tyV X.K T x H):
  s.TypeIs v T/\∀a,v= .ref a->∃ob,s.heap.get? a=some ob/\ob.dict=none:=by
 cases x with
 | str z=>
  obtain⟨t,rfl⟩:=r;cases (show T= "str" from ty);exact⟨typeIs_str s z t,λ_ e=>nomatch e⟩
 | int i=>
  obtain⟨t,rfl⟩:=r;cases (show T= "int" from ty);exact⟨typeIs_int s i t,λ_ e=>nomatch e⟩
 | ref p=>
  cases r
  rcases ty with ⟨rfl,xs,f⟩ | ⟨rfl,xs,f⟩ | ⟨rfl,b⟩ | ⟨rfl,S,n,b⟩
  ·obtain⟨aH,_,g,_⟩:=I.list f;refine⟨g.isList.typeIs,λa e=>?_⟩;cases e;obtain⟨o,n,e,c,hd,_⟩:=g;exact⟨o,e,hd⟩
  ·obtain⟨o,h,d,j⟩:=I.VO f;refine⟨⟨o,h,d⟩,λa e=>?_⟩;cases e;exact⟨o,h,j⟩
  ·have z:∃o,s.heap.get? p=some o/\o.ExactDict:=by
    rcases b with ⟨kvs,b⟩ | ⟨kvs,b⟩
    ·obtain⟨_,_,_,_,o,_,_,e,ex,_⟩:=I.bO p _ b;exact⟨o,e,ex⟩
    ·obtain⟨_,_,_,_,o,_,_,e,ex,_⟩:=I.bO p _ b;exact⟨o,e,ex⟩
   obtain⟨o,e,ex⟩:=z;refine⟨⟨o,e,ex.1⟩,λa d=>?_⟩;cases d;exact⟨o,e,ex.2.1⟩
  ·obtain⟨o,_,_,_,e,ex,_⟩:=I.bO p _ b;refine⟨⟨o,e,ex.1⟩,λa d=>?_⟩;cases d;exact⟨o,e,ex.2.1⟩
 | _=>exact False.elim ty
def tBM(K:aL1)(T:String)(r:V->List V->Hp->VK->Prop)(to:TE)(t:TA):TE:=λσ H Q=>to σ H λx a=>tyV K T x a/\t σ a λxs b=>r x xs b Q
variable {o e:Expr}{es:List Expr}{to:TE}{t:TA}{name:Str}{apos cD:Pos}{T id:String}{r:V->List V->Hp->VK->Prop}
theorem aBy(pa:PlainAttrs T)(slot:Slot T name id)(i:typeOf (.builtin id)=pure (.type "method_descriptor"))(m:MtR X id r)(ho:PE X o to)(ha:PA X (e::es) t)
  (b:attributeBase o name X.env (eval o X.env)=eval o X.env:=by rfl)
  (d:((backTo cD (starEach (e::es) X.env)).all (λx=>!x.1) && (backToKw cD (keywordEach [] X.env)).all (λx=>x.1.isSome)
   && decide ((e::es).length+([]:List Keyword).length+(if ([]:List Keyword).isEmpty then 0 else 1)<30))=true:=by rfl)
  (c:(apos.endLine==cD.line)=true:=by rfl) (n:starEach (e::es) X.env=(false,eval e X.env)::starEach es X.env:=by rfl) (a:(backTo cD (starEach es X.env)).any (·.1)=false:=by rfl):
  PE X (.Call (.Attribute o name apos) (e::es) [] cD) (tBM X.K T r to t):=by
 intro pins s σ H Q I h;refine wpAny_Call_method_late b d c rfl (cJ (ho pins s σ H _ I h) λv s1 f=>?_);obtain⟨x,p,j,k,ty,q⟩:=f;obtain⟨u,w⟩:=VN j k ty;refine⟨T,id,pa,slot,i,u,w,?_⟩;have l:=ha cD pins s1 σ p _ j q;rw[n]at l⊢;refine aJ3 (by show (false || (backTo cD (starEach es X.env)).any (·.1))=false;rw[a] <;> rfl) (aJe ?_);exact cJ l λus s2 g=>by obtain⟨vs,y,z,A,B⟩:=g;exact m pins s2 σ y x vs v us Q z k A B
end
def MtM(X:Cx)(id:String)(r:V->List V->Hp->VK->Prop):Prop:=
 ∀(pins:List (Addr×Obj)) (s:Shared) (σ:St) (H:Hp) (x:V) (xs:List V) (v:Value) (us:List Value) (Q:VK),Inv X pins σ H s->RelV x v->Vals xs us->r x xs H Q->
  wpAny (model X.prog X.w) X.A (call (.builtin id) (v::us)) (EP X pins σ Q) X.xe s
theorem Vals.one:∀{x:V} {us:List Value},Vals [x] us->∃u,us=[u]/\RelV x u
 | _,_,.cons r .nil=>⟨_,rfl,r⟩
section
variable {X:Cx}{pins:List (Addr×Obj)}{σ:St}{H:Hp}{s:Shared}{l b:Addr}{xs ys zs:List V}
theorem Inv.NQ{aH its' :List Value}{f:Array Value->Array Value}{t' :Nat}(I:Inv X pins σ H s)(a:H l=some (.lst xs))
  (e:s.heap.get? l=some {cls:= .type "list",data:= .seq aH.toArray n}) (b:f aH.toArray=its'.toArray) (c:Vals ys its') (hz:ys.length<=sizeLine):
  Inv X pins σ (upd H l (.lst ys)) {s with heap:=s.heap.update l (Obj.mapSeq f),toks:=t'}:=by
 have q:=PySem.IsL.update e f;rw[b]at q;refine I.write (x:=l) (e:=l) (by rw[a];exact trivial) (.inl rfl) (λg u hb d=>(aHq s.heap (Obj.mapSeq f) (aHv hb)).trans d) ⟨_,q⟩ ?_;exact⟨hz,its',_,c,q⟩
theorem Inv.aG3{aH:List Value}{t' :Nat}(I:Inv X pins σ H s)(a:Vals ys aH)(hz:ys.length<=sizeLine):
  Inv X pins σ (upd H s.heap.objs.size (.lst ys)) {s with heap:=s.heap.push {cls:= .type "list",data:= .seq aH.toArray},toks:=t'}:=
 I.laid (λ_ _ q=>aGv _ q) (aGy _) ⟨hz,aH,0,a,aH0 _ rfl⟩
theorem Inv.fresh(I:Inv X pins σ H s):H s.heap.objs.size=none:=I.bO.fresh (aGy _)
theorem Inv.zR(I:Inv X pins σ H s)(a:H l=some (.lst xs)):xs.length<=sizeLine/\∃(aH:List Value) (n:Nat),Vals xs aH/\xs.length=aH.length/\s.heap.get? l=some {cls:= .type "list",data:= .seq aH.toArray n}:=by
 obtain⟨z,aH,n,r,e⟩:=I.bO l _ a;exact⟨z,aH,n,r,r.length,e⟩
theorem pK(h:n<=sizeLine):Builtin.List.listTooLong n=false:=by
 unfold Builtin.List.listTooLong;exact aIw (by lia)
end
section
variable {X:Cx}
def Q6:V->List V->Hp->VK->Prop:=λx vs H Q=>∃l xs y,x= .ref l/\vs=[y]/\H l=some (.lst xs)/\xs.length<sizeLine/\Q .b9 (upd H l (.lst (xs++[y])))
theorem xU:MtM X "list.append" Q6:=by
 intro pins s σ H x vs v us Q I b c h;obtain⟨l,xs,y,rfl,rfl,a,hz,q⟩:=h;cases b;obtain⟨u,rfl,d⟩:=c.one;obtain⟨z,aH,n,r,f,e⟩:=I.zR a;refine call_meets F.slot_list_append ⟨_,e,rfl⟩ F.entry_list_append (F.args_list_append_2 _ _) (PySem.list_append l aH.toArray n u (by rw[List.size_toArray];lia)) ⟨e,?_⟩;refine⟨.b9,_,I.NQ (its' :=aH++[u]) a e (by simp) (r.append (.cons d .nil)) ?_,rfl,q⟩;rw[List.length_append,List.length_singleton]
 lia
def Q5:V->List V->Hp->VK->Prop:=λx vs H Q=>∃l b xs a,x= .ref l/\vs=[.ref b]/\H l=some (.lst xs)/\H b=some (.lst a)/\xs.length+a.length<=sizeLine/\Q .b9 (upd H l (.lst (xs++a)))
theorem aAc:MtM X "list.extend" Q5:=by
 intro pins s σ H x vs v us Q I f g h;obtain⟨l,b,xs,t,rfl,rfl,d,i,hz,q⟩:=h;cases f;obtain⟨u,rfl,j⟩:=g.one;cases j;obtain⟨z,aH,n,r,w,e⟩:=I.zR d;obtain⟨y,a,k,m,o,p⟩:=I.zR i;have hsz:aH.toArray.size+a.toArray.size<=sizeLine:=by rw[List.size_toArray,List.size_toArray];lia
 have c:¬(!aH.toArray.isEmpty && Builtin.List.listTooLong (aH.toArray.size+a.toArray.size))=true:=by
  rw[pK hsz,Bool.and_false];exact aJt
 refine call_meets F.slot_list_extend ⟨_,e,rfl⟩ F.entry_list_extend (F.args_list_extend_2 _ _)
  (AutoSeq1.list_extend_list_list_0 l aH.toArray n b a.toArray k c (by rw[List.size_toArray];lia) (by lia)) ⟨e,p,?_⟩
 refine⟨.b9,_,I.NQ (its' :=aH++a) d e (by simp) (r.append m) ?_,rfl,q⟩;rw[List.length_append]
 lia
def aFu:R2:=λx y H Q=>∃l b xs a,x= .ref l/\y= .ref b/\H l=some (.lst xs)/\H b=some (.lst a)/\xs.length+a.length<=sizeLine/\∀p,H p=none->Q (.ref p) (upd H p (.lst (xs++a)))
theorem W9:eL X (binaryOp .Add) aFu:=by
 intro pins s σ H x y v u Q I c d h;obtain⟨l,b,xs,o,rfl,rfl,f,g,hz,q⟩:=h;cases c;cases d;obtain⟨z,aH,n,r,p,e⟩:=I.zR f;obtain⟨t,a,w,i,j,k⟩:=I.zR g;refine PySem.P.add_list e k ?_ (by rw[List.size_toArray,List.size_toArray];lia);have m:aH.toArray++a.toArray=(aH++a).toArray:=by simp
 rw[m];exact⟨.ref _,_,I.aG3 (t' :=s.toks) (r.append i) (by rw[List.length_append];lia),rfl,q _ I.fresh⟩
end
end L2
namespace Att
open PySem PySem.W PySem.Calls PyProof.Rows
theorem sJ{P:Params}{h:Heap}:∀(ns:List Int) (vs:List Value),WellAll P h vs (ns.map WData.int)->IntsAre vs ns:=by
 intro ns
 induction ns with
 | nil=>
  intro vs w;rw[List.map_nil]at w;cases w;exact .nil
 | cons n ns ih=>
  intro vs w;rw[List.map_cons]at w
  cases w with
  | cons a b=>
   cases a;exact .cons _ _ (ih _ b)
theorem JA{l:OpenLaw}{n:Nat}(m:l.most=some n){P:Params}{h:Heap}{args:List WData}{vals:List Value}
  (b:l.row.toRowW.claim.pre args=true) (i:WellAll P h vals args):
  ∃a vs ns,vals=[Value.ref a]/\args=[WData.list (ns.map WData.int)]/\h.get? a=some {cls:= .type "list",data:= .seq vs.toArray}/\IntsAre vs ns/\ns.length<=n:=by
 have j:WShape.hasAll [] args [.list .int]=true:=(pre_splitW b).1;have k:l.pre.holds [] {args:=args}=true:=(pre_splitW b).2;obtain⟨d,r,rfl,o,p⟩:=hasAllW_cons j;obtain rfl:=hasAllW_nil p;obtain⟨xs,rfl,s⟩:=hasW_list o;obtain⟨ns,rfl⟩:=items_int s
 have c:ns.length<=n:=by
  unfold OpenLaw.pre at k
  have f:(WTm.not (.lt (.lit (.int (n:Int))) (.len (.arg 0)))).holds [] {args:=[.list (ns.map .int)]}=true:=by
   have f:=(holds_andW k).1;rw[m]at f;exact f
  have g:=condW_of f (w_not (w_lt w_lit (w_len_list (w_arg rfl))));rw[List.length_map]at g;refine aJ2 λq=>?_;have t :(n:Int)<((ns.length:Nat):Int):=by lia
  first
   | (rw[decide_eq_true t]at g;exact absurd g (by decide))
   | (simp at g;lia)
 cases i with
 | cons u v=>
  cases v
  cases u with
  | list ho e=>exact⟨_,_,ns,rfl,rfl,ho,sJ ns _ e,c⟩
theorem JE(l:OpenLaw)(args:List WData):l.row.toRowW.claim.post args (.bool true) args=true:=
 postW_of (r:=l.row.toRowW) (X:=(true==true))
  (show WShape.has [] (.bool true) .bool=true by first | rfl | decide | simp[WShape.has,WShape.arms,WShape.armsAll])
  (show (WTm.eq .res (.lit (.bool true))).value [] {args:=args,res:=some (.bool true),after:=args}=some (.bool (true==true)) from w_eq_bool (w_res rfl) w_lit) rfl
theorem EA{l:OpenLaw}{n:Nat}{q:Program}{loose:List Str}{XP:(aL4)->Heap->Prop}{t:World->Heap->Prop}{d:DefRec}
  (x:l.most=some n) (k:d.params.defaults=[])
  (call:∀(w:World) (s₀ b:Shared) (mg mb:aL4) (e:Addr) (o:Obj) (pm cd doc:Value) (a:Addr) (vs:List Value) (ns:List Int),
   Ground q loose [] XP w s₀ mg mb b.heap->t w b.heap->
   b.heap.get? e=some o->o.data= .func (docDef d.name d.params d.body d.scope pm cd doc)->b.heap.CodeRec cd d.name->mg d.name=some (.ref e)->
   b.heap.get? a=some {cls:= .type "list",data:= .seq vs.toArray}->IntsAre vs ns->ns.length<=n->b.gens= #[]->
   codeAny (model l.prog w) callerA (.call (.ref e) ⟨[.ref a],[]⟩) (λr j =>r= .ok (.ret (.bool true))/\OldK b.heap j.heap/\j.os=b.os/\AllBare j.gens) b):
  WalkO q loose XP t l.row.toRowW d [] (λf vs=>PySem.call f vs):=by
 intro w s₀ b mg mb G Y e o pm cd doc y kV ho hd m u p hg args vals as g v z s A;obtain rfl:y= .none:=Dflts.none u k;obtain rfl:kV= .none:=Dflts.noKw u;obtain⟨a,vs,ns,rfl,rfl,h,c,i⟩:=JA x g s;refine enter_call (aJk (call w s₀ b mg mb e o pm cd doc a vs ns G Y ho (fd_plain hd) m p h c i hg) λr j B=>?_);obtain⟨rfl,C,D,E⟩:=B;exact⟨.inl ⟨.bool true,.bool true,[],rfl,λ_=>rfl,.bool true,JE l _,λ_=>⟨List.Pairwise.nil,λ_ F=>(nomatch F)⟩⟩,C,D,E⟩
end Att
namespace L2
open PySem PySem.Spec PyProof.Rows
theorem w8:∀{vs:List Value} {ns:List Int},IntsAre vs ns->Vals (ns.map V.int) vs
 | _,_,.nil=>.nil
 | _,_,.cons n t h=>.cons ⟨t,rfl⟩ (w8 h)
def UD(H:Hp):Prop:=∀b,H b=none\/∃o xs,H b=some (.frz o (.lst xs))
variable{fd:FuncData}{x:Str}
theorem NZ{P:Program}{w:World}{K:aL1}{mg mb:aL4}{CX:K4}{k:Nat}{E a:Addr}{sp:Sp}{c:Shared}{vs:List Value}{ns:List Int}
  (KX:K.In c.heap) (p:c.heap.Ns mainGlobals mg) (hb:c.heap.Ns builtinsNs mb) (G:∀x:Str,x≠ "__name__"->mb x=bootBuiltins x) (t:c.heap.NoLimit) (hg:c.gens= #[])
  (ha:c.heap.get? a=some {cls:= .type "list",data:= .seq vs.toArray}) (hi:IntsAre vs ns) (N:ns.length<=sizeLine) (T:fH k callerA)
  (F:∀base:Heap,K.In base->base.Ns mainGlobals mg->iN P w K mg base CX k E fd [x] sp) (l:∀(s:Shared) (u:Value),BindsTo s fd ⟨[u],[]⟩ [(x,u)])
  (I:∀H:Hp,UD H->oI K H a (ns.map V.int)->sp [.ref a] H (λv _=>v= .bl true) λ_ _ _=>False)
  (J:∀H e g,CX [] H c (λ_ _ _=>False) e g ->False):
  codeAny (model P w) callerA (.call (.ref E) ⟨[.ref a],[]⟩) (λr g =>r= .ok (.ret (.bool true))/\OldK c.heap g.heap/\g.os=c.os/\AllBare g.gens) c:=by
 have O:=w8 hi;have y:=hi.length
 have j:∀H:Hp,UD H->oI K H a (ns.map V.int)->qE P w H c.heap->(∀b,H b≠none->b=a)->(H a≠none->K.lookup a=none)->
   codeAny (model P w) callerA (.call (.ref E) ⟨[.ref a],[]⟩) (λr g =>r= .ok (.ret (.bool true))/\OldK c.heap g.heap/\g.os=c.os/\AllBare g.gens) c:=by
  intro H Q U bO R W;have f:∀{b:Addr} {o:Obj},c.heap.get? b=some o->H b=none->(AE c.heap H).get? b=some o:=λe n=>OJ e n
  have L:∀{b:Addr} {o:Obj} {A:Array DictEntry} {ep:Nat},c.heap.get? b=some o->o.data= .dict A ep->H b=none:=λ{b o A ep} e d=>by
   cases q:H b with
   | none=>rfl
   | some u=>
    have M :b=a:=R b (by rw[q];simp);subst M;rw[ha]at e;cases e;have d' :Data.seq vs.toArray _=Data.dict A ep:=d;cases d'
  have i:∀{b:Addr} {m:aL4},c.heap.Ns b m->(AE c.heap H).Ns b m:=λ{b m} ⟨o,A,ep,e,d,r⟩=>⟨o,A,ep,f e (L e d),d,r⟩
  have B:K.In (AE c.heap H):=λb o e=>f (KX b o e) (by
   cases q:H b with
   | none=>rfl
   | some u=>
    have M :b=a:=R b (by rw[q];simp);subst M
    rw[W (by rw[q];simp)]at e;cases e)
  have X:Mod K mg (AE c.heap H):=⟨B,i p,⟨mb,i hb,G⟩,let ⟨mc,h1,h2⟩:=t;⟨mc,i h1,h2⟩⟩
  have Y:UH P w K mg (AE c.heap H) callerA [] c H:=⟨rfl,X,λb o e=>RY e,Nat.le_of_eq (JZ _ _),trivial,λb hb=>absurd (show b∈([]:List Addr) from hb) (by simp),bO,.of_eq hg⟩
  refine aJk ((F _ B (i p)).run callerA [] c H ⟨[.ref a],[]⟩ [.ref a] [.ref a] _ _ T Y (l c (.ref a)) (.cons rfl .nil) (I H Q U)) λr g h=>?_
  cases r with
  | error e=>exact(J H e g h).elim
  | ok fl=>
   cases fl with
   | next=>exact False.elim h
   | brk=>exact False.elim h
   | cont=>exact False.elim h
   | ret u=>
    obtain⟨v,H',os,bare,un,C,Z,q⟩:=h;have q' :v= .bl true:=q;subst q';obtain rfl:u=Value.bool true:=Z;refine⟨rfl,OldK.of_keep λb o e=>?_,os,bare⟩
    cases q:H b with
    | none=>exact un.keep b o e q (by intro z;exact absurd (show b∈([]:List Addr) from z) (by simp)) (by simp)
    | some u=>
     rcases Q b with z | ⟨ob,xs,z⟩
     ·rw[q]at z;cases z
     ·have z2:=un.AG b ob _ z;obtain⟨S,_⟩:=bO b _ z;obtain⟨e2,_⟩:=C b _ z2;rw[e]at S;cases S;exact e2
 cases hk:K.lookup a with
 | some o=>
  have e:=KX a o hk;rw[ha]at e;cases e;refine j (λ_=>none) (λ_=>.inl rfl) (.inr ⟨_,vs.toArray,_,hk,rfl,rfl,rfl,by rw[List.size_toArray,y];exact N,by simpa using O⟩) (λb u z=>by have D :(none:Option HO)=some u:=z;cases D) (λb z=>absurd rfl z) λz=>absurd rfl z
 | none=>
  refine j (λb=>if b=a then some (.frz {cls:= .type "list",data:= .seq vs.toArray} (.lst (ns.map V.int))) else none) (λb=>?_) (.inl (.inr ⟨{cls:= .type "list",data:= .seq vs.toArray},if_pos rfl⟩)) (λb u z=>?_) (λb z=>?_) λ_=>hk
  ·by_cases hb:b=a
   ·exact .inr ⟨_,_,if_pos hb⟩
   ·exact .inl (if_neg hb)
  ·by_cases hb:b=a
   ·have D :=(if_pos hb).symm.trans z;cases D;subst hb;exact⟨ha,by rw[List.length_map];exact N,vs,_,O,ha⟩
   ·have D :=(if_neg hb).symm.trans z;cases D
  ·by_cases hb:b=a
   ·exact hb
   ·exact absurd (if_neg hb) z
theorem QP{l:PySem.W.OpenLaw}{n k:Nat}{q:Program}{loose:List Str}{XP:(aL4)->Heap->Prop}{C:World->Heap->Prop}{d:DefRec}{K:Params->aL1}{CX:World->K4}{sp:World->Sp}
  (D:l.most=some n) (r:n<=sizeLine) (t:d.params.defaults=[]) (E:fH k callerA)
  (I:∀(w:World) (h:Heap),C w h->(K w.params).In h)
  (F:∀(w:World) (mg:aL4) (p:Addr) (h:Heap),(K w.params).In h->h.Ns mainGlobals mg->mg d.name=some (.ref p)->
   ∃fd:FuncData,(∀(s:Shared) (u:Value),BindsTo s fd ⟨[u],[]⟩ [(x,u)])/\
    ∀base:Heap,(K w.params).In base->base.Ns mainGlobals mg->iN l.prog w (K w.params) mg base (CX w) k p fd [x] (sp w))
  (y:∀(w:World) (H:Hp) (a:Addr) (ns:List Int),ns.length<=n->UD H->oI (K w.params) H a (ns.map V.int)->sp w [.ref a] H (λv _=>v= .bl true) λ_ _ _=>False)
  (z:∀(w:World) (H:Hp) (s:Shared) (e:Value) (A :Shared),CX w [] H s (λ_ _ _=>False) e A ->False):
  PySem.W.WalkO q loose XP C l.row.toRowW d [] (λf vs=>PySem.call f vs):=by
 refine Att.EA D t λw s₀ j mg mb p o pm cd doc a vs ns G Y ho hd J B m i c hg=>?_;have KX:=I w _ Y;obtain⟨fd,hb,L⟩:=F w mg p _ KX G.T.g B;exact NZ KX G.T.g G.T.b G.T.builtins G.T.nolimit hg m i (aHm c r) E L hb (λH M N=>y w H a ns c M N) λH e A =>z w H j e A
def cQ(s:Stmt):Arguments:=match s with
 | .FunctionDef _ a _ _ _ _ _ _ _ _=>a
 | _=>{posonlyargs:=[],args:=[],vararg:=none,kwonlyargs:=[],kw_defaults:=[],kwarg:=none,defaults:=[]}
def bX(s:Stmt):List Stmt:=match s with
 | .FunctionDef _ _ b _ _ _ _ _ _ _=>b
 | _=>[]
def aC(s:Stmt):Scope:=match s with
 | .FunctionDef _ _ _ _ _ _ sc _ _ _=>sc
 | _=>{kind:= .function,names:=[],isGenerator:=false,isCoroutine:=false}
abbrev A8:K4:=λ_ _ _ _ _ _=>False
abbrev E0:XK:=λ_ _ _=>False
theorem UW{X:Cx}:Passes A8 X E0:=λ_ _ _ _ _ _ _ h=>h.elim
structure Fun(K:aL1)(x qual:Str)(st:Stmt)(f:Addr)(fd:FuncData):Prop where
 ex:∃(oc:Value) (od:Option Addr) (kV doc pm:Value) (an:Option Addr) (cdv ct:Value) (osl:Array (Option Value)),
  fd=PySem.W.fnOf x qual (cQ st) (bX st) (aC st) .none kV doc pm an cdv ct/\K.lookup f=some ⟨oc,od,.func fd,osl⟩/\PySem.W.codeIn K cdv qual=true
 kp:PySem.W.keepIn K (.ref f)=true
section
variable {P:Program}{w:World}{K:aL1}{mg:aL4}{base:Heap}
theorem Fun.ok{x qual:Str}{st:Stmt}{f:Addr}{N ps:List Str}{k:Nat}{sp:Sp}(F:Fun K x qual st f fd)(S:aV N ps (aC st))(len:∀vs H Q E,sp vs H Q E->vs.length=ps.length)
  (a:∀(cdv:Value) (A:Around) (outer:List Env) (s:Shared) (H:Hp) (vs:List V) (Q:VK) (E:XK),fH k (A.deeper (envOfC qual (aC st) s.heap.objs.size f cdv))->sp vs H Q E->
   ∃t,A5 (vO A8 P w K mg base N qual (aC st) f cdv A outer s H E).QA (bX st) t/\t {nx:=λ_ H' =>Q .b9 H',rt:=Q} (start N vs) H):iN P w K mg base A8 (k+1) f fd ps sp:=by
 obtain⟨oc,od,kV,doc,pm,an,cdv,ct,osl,rfl,d,b⟩:=F.ex;refine U7 d b S len λA outer s H vs Q E e c=>?_;obtain⟨t,h,q⟩:=a cdv A outer s H vs Q E e c;exact⟨t,h.QA,q⟩
theorem Fun.binds{x qual:Str}{st:Stmt}{f:Addr}{ps:List Str}(F:Fun K x qual st f fd)
  (h:∀(kV doc pm:Value) (an:Option Addr) (cdv ct:Value) (us:List Value),us.length=ps.length->bindArgs (PySem.W.fnOf x qual (cQ st) (bX st) (aC st) .none kV doc pm an cdv ct) ⟨us,[]⟩=pure (ps.zip us)):Binds K fd ps []:=by
 obtain⟨oc,od,kV,doc,pm,an,cdv,ct,osl,rfl,b,a⟩:=F.ex;exact .all (h kV doc pm an cdv ct)
theorem FY{x qual:Str}{st:Stmt}{f:Addr}{oc:Value}{od an:Option Addr}{osl:Array (Option Value)}{kV doc pm cdv ct:Value}(l:K.lookup f=some ⟨oc,od,.func (PySem.W.fnOf x qual (cQ st) (bX st) (aC st) .none kV doc pm an cdv ct),osl⟩)
  (c:PySem.W.codeIn K cdv qual=true) (k:PySem.W.keepIn K (.ref f)=true):Fun K x qual st f (PySem.W.fnOf x qual (cQ st) (bX st) (aC st) .none kV doc pm an cdv ct):=⟨⟨oc,od,kV,doc,pm,an,cdv,ct,osl,rfl,l,c⟩,k⟩
end
theorem xC{n:Nat}(h:n<=1000):n<sizeLine:=Nat.lt_of_le_of_lt h (by decide)
end L2
namespace D3
open PySem PySem.Spec PyProof.Rows L2 PySem.Calls
noncomputable def kE(P:Params)(x:Str)(t:Tok)(v:Value):DictEntry:=⟨PyData.keyHash P x,.str x t,v⟩
noncomputable def kF(x:Str)(st:Stmt)(m:Value)(c:Addr)(d:Value:= .none):Obj:=⟨.type "function",none,.func (PySem.W.fnOf x x (cQ st) (bX st) (aC st) d .none .none m none (.ref c) .none),#[]⟩
noncomputable def kC(x:Str)(t:Nat)(l n:Int)(T c:Nat)(u v:Value:= .none)(k:Nat:=3):Obj:=
 ⟨.type "code",none,.fields #[.str x t,.str x (t+1),.str "/claim/cut.py" (t+2),.int l 0,.int n 0,.int 0 0,.int 0 0,.int 3 0,.ref (c-k),.bool true,.int 181 0,.ref (c-k+1),.none,u,v,.ref (c-1),.int T 0,.int l 0,.str "/claim/cut.py" (T+1)],#[]⟩
noncomputable def kD(x:Str)(t:Nat)(l n:Int)(T c:Nat):Obj:=kC x t l n T c (.ref (c-3)) (.ref (c-2)) 5
noncomputable def kQ(p:Program)(ks:List Nat):Program:={p with main:={p.main with body:=ks.filterMap λi=>p.main.body[i]?}}
end D3
namespace K07
open PySem PySem.Spec PyProof.Rows L2 D3
def top(i:Nat):Stmt:=PySem.Challenge.pw_maskwright_k07_regions_grown.main.body.getD i (.Pass ⟨0,0,0,0⟩)
abbrev iX:Stmt:=top 1
abbrev iW:Stmt:=top 2
abbrev d9:Stmt:=top 3
abbrev gG:Stmt:=top 4
abbrev gF:Stmt:=top 5
abbrev iV:Stmt:=top 7
abbrev lI:Stmt:=top 8
abbrev fC:Stmt:=top 10
abbrev eB:Stmt:=top 11
abbrev c7:Stmt:=top 12
abbrev eC:Stmt:=top 13
abbrev dF:Stmt:=top 14
abbrev eF:Stmt:=top 15
abbrev c6:Stmt:=top 16
abbrev eD:Stmt:=top 17
abbrev dG:Stmt:=top 18
abbrev dI:Stmt:=top 19
abbrev dH:Stmt:=top 20
abbrev eA:Stmt:=top 21
abbrev eE:Stmt:=top 22
abbrev t8:Stmt:=top 23
noncomputable def m0:Value:= .str "maskwright.regions" 187
noncomputable def m1:Value:= .str "maskwright.growing" 250
noncomputable def m2:Value:= .str "law_maskwright_k07_regions_grown" 266
noncomputable def kk:Params->W.Frag:=λP=>(nat_lit 3,⟨.type "dict",none,.dict #[kE P "__name__" 165 (.str "law_maskwright_k07_regions_grown" 266),kE P "__doc__" 166 .none,kE P "__package__" 167 .none,kE P "__loader__" 168 (.builtin "__main__.__loader__#opaque"),kE P "__spec__" 169 .none,kE P "__annotations__" 170 (.ref 6),kE P "__builtins__" 171 (.ref 4),kE P "__file__" 173 (.str "/claim/cut.py" 172),kE P "__cached__" 174 .none,kE P "joined" 199 (.ref 21),kE P "paired" 206 (.ref 28),kE P "add_steps" 219 (.ref 35),kE P "covered" 231 (.ref 42),kE P "stacked" 249 (.ref 50),kE P "spread" 257 (.ref 55),kE P "grown" 265 (.ref 62),kE P "_law_bag" 278 (.ref 69),kE P "_law_take" 289 (.ref 76),kE P "_law_number" 298 (.ref 83),kE P "_law_side" 309 (.ref 90),kE P "_law_rects" 315 (.ref 95),kE P "_law_line" 325 (.ref 102),kE P "_law_region" 331 (.ref 107),kE P "_law_same" 337 (.ref 112),kE P "_law_lined" 343 (.ref 117),kE P "_law_board" 359 (.ref 124),kE P "_law_drawn" 372 (.ref 131),kE P "_law_wide" 378 (.ref 136),kE P "_law_near" 390 (.ref 143),kE P "law" 405 (.ref 150)] 30,#[]⟩)::(nat_lit 20,kD "joined" 189 2 1 197 20)::(nat_lit 21,kF "joined" iX m0 20)::(nat_lit 27,kD "paired" 200 12 1 204 27)::(nat_lit 28,kF "paired" iW m0 27)::(nat_lit 34,kD "add_steps" 207 14 3 217 34)::(nat_lit 35,kF "add_steps" d9 m0 34)::(nat_lit 41,kD "covered" 220 20 2 229 41)::(nat_lit 42,kF "covered" gG m0 41)::(nat_lit 43,⟨.type "tuple",none,.seq #[.int 1 232] 0,#[]⟩)::(nat_lit 49,kD "stacked" 233 29 2 247 49)::(nat_lit 50,kF "stacked" gF m0 49 (.ref 43))::(nat_lit 54,kC "spread" 252 43 3 255 54)::(nat_lit 55,kF "spread" iV m1 54)::(nat_lit 61,kD "grown" 258 49 2 263 61)::(nat_lit 62,kF "grown" lI m1 61)::(nat_lit 68,kD "_law_bag" 268 52 2 276 68)::(nat_lit 69,kF "_law_bag" fC m2 68)::(nat_lit 75,kD "_law_take" 279 62 2 287 75)::(nat_lit 76,kF "_law_take" eB m2 75)::(nat_lit 82,kD "_law_number" 290 74 3 296 82)::(nat_lit 83,kF "_law_number" c7 m2 82)::(nat_lit 89,kD "_law_side" 299 82 3 307 89)::(nat_lit 90,kF "_law_side" eC m2 89)::(nat_lit 94,kC "_law_rects" 310 88 2 313 94)::(nat_lit 95,kF "_law_rects" dF m2 94)::(nat_lit 101,kD "_law_line" 316 98 1 323 101)::(nat_lit 102,kF "_law_line" eF m2 101)::(nat_lit 106,kC "_law_region" 326 106 1 329 106)::(nat_lit 107,kF "_law_region" c6 m2 106)::(nat_lit 111,kC "_law_same" 332 116 2 335 111)::(nat_lit 112,kF "_law_same" eD m2 111)::(nat_lit 116,kC "_law_lined" 338 126 1 341 116)::(nat_lit 117,kF "_law_lined" dG m2 116)::(nat_lit 123,kD "_law_board" 344 131 3 357 123)::(nat_lit 124,kF "_law_board" dI m2 123)::(nat_lit 130,kD "_law_drawn" 360 144 4 370 130)::(nat_lit 131,kF "_law_drawn" dH m2 130)::(nat_lit 135,kC "_law_wide" 373 149 2 376 135)::(nat_lit 136,kF "_law_wide" eA m2 135)::(nat_lit 142,kD "_law_near" 379 151 2 388 142)::(nat_lit 143,kF "_law_near" eE m2 142)::(nat_lit 149,kD "law" 391 157 1 403 149)::(nat_lit 150,kF "law" t8 m2 149)::[]
theorem kl:PySem.W.LeftO PySem.Challenge.rw_maskwright_k07_regions_grown.prog (D3.kQ PySem.Challenge.pw_maskwright_k07_regions_grown [1,2,3,4,7,8,10,11,12,13,14,15,16,17,18,19,20,21,22,23]) ["stacked"] (λ_=>true) (λs=>List.map s.heap.get? [3,20,21,27,28,34,35,41,42,43,49,50,54,55,61,62,68,69,75,76,82,83,89,90,94,95,101,102,106,107,111,112,116,117,123,124,130,131,135,136,142,143,149,150]) (λw=>(kk w.params).map λp=>some p.2) 1508:=λ_=>by kernel_rfl
end K07
namespace L2
open PySem PySem.Spec PyProof.Rows
section
variable {κ:Type}[DecidableEq κ]
def gC(kvs:List (κ×V))(k:κ):Option V:=(kvs.find? λa=>decide (a.1=k)).map (·.2)
def putK(kvs:List (κ×V))(k:κ)(v:V):List (κ×V):=
 if (kvs.any λa=>decide (a.1=k))=true then kvs.map (λa=>if a.1=k then (a.1,v) else a) else kvs++[(k,v)]
def cC(kvs:List (κ×V))(k:κ):List (κ×V):=kvs.filter λa=>decide (a.1≠k)
variable{r:List (κ×V)}
theorem lE{p:κ×V}{k:κ}(e:p.1=k):gC (p::r) k=some p.2:=by simp[gC,List.find?_cons,e]
theorem lF{p:κ×V}{k:κ}(e:¬p.1=k):gC (p::r) k=gC r k:=by simp[gC,List.find?_cons,e]
theorem BL(k:κ):∀kvs:List (κ×V),(kvs.any λa=>decide (a.1=k))=(gC kvs k).isSome
 | []=>rfl
 | p::r=>by
  rw[List.any_cons];by_cases e:p.1=k
  ·simp only[lE e,decide_eq_true e,Bool.true_or,Option.isSome_some]
  ·rw[lF e,decide_eq_false e,Bool.false_or];exact BL k r
theorem lS(kvs:List (κ×V))(k:κ)(v:V):(putK kvs k v).length<=kvs.length+1:=by
 unfold putK;split
 ·rw[List.length_map];lia
 ·rw[List.length_append,List.length_cons,List.length_nil];lia
variable{u:Option Value}
theorem qV.i0{o:Option V}(r:qV o u):o.isSome=u.isSome:=by
 cases o with
 | none=>cases u with
  | none=>rfl
  | some _=>exact(show False from r).elim
 | some _=>cases u with
  | none=>exact(show False from r).elim
  | some _=>rfl
theorem qV.getD{o:Option V}{d:V}{d' :Value}(r:qV o u)(a:RelV d d'):RelV (o.getD d) (u.getD d'):=by
 cases o with
 | none=>cases u with
  | none=>exact a
  | some _=>exact(show False from r).elim
 | some _=>cases u with
  | none=>exact(show False from r).elim
  | some _=>exact r
variable{kvs:List (κ×V)}{vs:List (κ×Value)}
theorem KV.val(r:KV kvs vs)(k:κ):qV (gC kvs k) (valueAt vs k):=by
 unfold KV at r
 induction r with
 | nil=>exact True.intro
 | @cons p q ps qs h t ih=>
  obtain⟨c,d⟩:=h;by_cases e:p.1=k
  ·have a :q.1=k:=c.symm.trans e;have b:valueAt (q::qs) k=some q.2:=by simp[valueAt,List.find?_cons,a]
   rw[lE e,b];exact d
  ·have a :¬q.1=k:=λz=>e (c.trans z);have b:valueAt (q::qs) k=valueAt qs k:=by simp[valueAt,List.find?_cons,a]
   rw[lF e,b];exact ih
theorem KV.any(r:KV kvs vs)(k:κ):(kvs.any λa=>decide (a.1=k))=vs.any λa=>decide (a.1=k):=by
 unfold KV at r
 induction r with
 | nil=>rfl
 | cons h t ih=>rw[List.any_cons,List.any_cons,ih,h.1]
theorem KV.V8(r:KV kvs vs)(k:κ){y:V}{u:Value}(c:RelV y u):
  KV (kvs.map λa=>if a.1=k then (a.1,y) else a) (vs.map λa=>if a.1=k then (a.1,u) else a):=by
 unfold KV at r⊢
 induction r with
 | nil=>exact .nil
 | @cons p q ps qs h t ih=>
  rw[List.map_cons,List.map_cons];refine .cons ?_ ih;obtain⟨b,d⟩:=h;by_cases e:p.1=k
  ·rw[if_pos e,if_pos (b.symm.trans e)];exact⟨b,c⟩
  ·rw[if_neg e,if_neg (λz=>e (b.trans z))];exact⟨b,d⟩
theorem KV.put(r:KV kvs vs)(k:κ){y:V}{u:Value}(a:RelV y u):KV (putK kvs k y) (stored vs k u):=by
 unfold putK stored;rw[r.any k];by_cases e:(vs.any λb=>decide (b.1=k))=true
 ·rw[if_pos e,if_pos e];exact r.V8 k a
 ·rw[if_neg e,if_neg e];exact Paired.snoc r ⟨rfl,a⟩
theorem KV.drop(r:KV kvs vs)(k:κ):KV (cC kvs k) (without vs k):=by
 unfold KV at r⊢;unfold cC without
 induction r with
 | nil=>exact .nil
 | @cons p q ps qs h t ih=>
  obtain⟨c,d⟩:=h;rw[List.filter_cons,List.filter_cons];by_cases e:p.1=k
  ·have a:¬decide (p.1≠k)=true:=by simp[e]
   have b:¬decide (q.1≠k)=true:=by simp[c.symm.trans e]
   rw[if_neg a,if_neg b];exact ih
  ·have f :¬q.1=k:=λz=>e (c.trans z);have a:decide (p.1≠k)=true:=by simp[e]
   have b:decide (q.1≠k)=true:=by simp[f]
   rw[if_pos a,if_pos b];exact .cons ⟨c,d⟩ ih
theorem KV.length(r:KV kvs vs):kvs.length=vs.length:=Paired.length r
theorem DT(kvs:List (κ×V))(k:κ):(cC kvs k).length<=kvs.length:=aK5 _ _
end
variable{P:Program}{w:World}{u:Value}
theorem rP{k:Key}(r:RelV (kV k) u):(aS P w).is k u=true:=by
 cases k with
 | inl i=>obtain⟨t,e⟩:=(show ∃t,u=Value.int i t from r);subst e;exact CI P w i t
 | inr x=>obtain⟨t,e⟩:=(show ∃t,u=Value.str x t from r);subst e;exact CH P w x t
theorem qM{P:Program}{w:World}:∀{ks:List Key} {us:List Value},Vals (ks.map kV) us->ItemsAre (aS P w) ks us
 | [],_,r=>by rw[List.map_nil]at r;cases r;exact .nil
 | k::ks,_,r=>by
  rw[List.map_cons]at r
  cases r with
  | cons h t=>exact .cons (rP h) (qM t)
abbrev KT(H:Hp):List (List Key×V)->List (List Key×Addr×Value)->Prop:=Paired λp q=>p.1=q.1/\H q.2.1=some (.tup (p.1.map kV))/\RelV p.2 q.2.2
variable{H:Hp}{kvs:List (List Key×V)}{xs:List (List Key×Addr×Value)}
theorem KT.val(r:KT H kvs xs)(k:List Key):qV (gC kvs k) ((atKey xs k).map (·.2)):=by
 induction r with
 | nil=>exact True.intro
 | @cons p q ps qs h t ih=>
  obtain⟨c,_,d⟩:=h;by_cases e:p.1=k
  ·have a :q.1=k:=c.symm.trans e;have b:atKey (q::qs) k=some q.2:=by simp[atKey,List.find?_cons,a]
   rw[lE e,b];exact d
  ·have a :¬q.1=k:=λz=>e (c.trans z);have b:atKey (q::qs) k=atKey qs k:=by simp[atKey,List.find?_cons,a]
   rw[lF e,b];exact ih
theorem KT.V8(r:KT H kvs xs)(k:List Key){y:V}(d:RelV y u):
  KT H (kvs.map λb=>if b.1=k then (b.1,y) else b) (xs.map (putAt k u)):=by
 induction r with
 | nil=>exact .nil
 | @cons p q ps qs h t ih=>
  rw[List.map_cons,List.map_cons];refine .cons ?_ ih;obtain⟨a,c,f⟩:=h;unfold putAt;by_cases e:p.1=k
  ·rw[if_pos e,if_pos (a.symm.trans e)];exact⟨a,c,d⟩
  ·rw[if_neg e,if_neg (λz=>e (a.trans z))];exact⟨a,c,f⟩
theorem KT.put(r:KT H kvs xs)(k:List Key){b:Addr}{y:V}(hb:H b=some (.tup (k.map kV)))(a:RelV y u):
  KT H (putK kvs k y) (storedH xs k b u):=by
 have e:(kvs.any λc=>decide (c.1=k))=(atKey xs k).isSome:=by
  rw[BL,(r.val k).i0,Option.isSome_map]
 unfold putK storedH;rw[e];by_cases q:(atKey xs k).isSome=true
 ·rw[if_pos q,if_pos q];exact r.V8 k a
 ·rw[if_neg q,if_neg q];exact Paired.snoc r ⟨rfl,hb,a⟩
theorem KT.keeps{H H' :Hp}(r:KT H kvs xs)(ht:∀b ys,H b=some (.tup ys)->H' b=some (.tup ys)):KT H' kvs xs:=
 Paired.XT r λ_ _ z=>⟨z.1,ht _ _ z.2.1,z.2.2⟩
section
variable {P:Program}{w:World}{H:Hp}{h:Heap}{a:Addr}
theorem US{u:HO}(ok:qE P w H h)(e:Rd H a u):cH P w H h a u:=e.ok ok
variable{kvs:List (Key×V)}
theorem yI(ok:qE P w H h)(e:Rd H a (.dK kvs)):kvs.length<=sizeLine/\(a==sysModules)=false/\∃vs,KV kvs vs/\h.DictOf (aS P w) a vs:=
 show cH P w H h a (.dK kvs) from US ok e
theorem IE(ok:qE P w H h)(e:H a=some (.dK kvs)):kvs.length<=sizeLine/\(a==sysModules)=false/\∃vs,KV kvs vs/\h.DictOf (aS P w) a vs:=yI ok (.inl e)
theorem u9{ks:List Key}(ok:qE P w H h)(e:H a=some (.tup (ks.map kV))):(tupleKind (aS P w)).is h ks a:=by
 obtain⟨_,aH,r,⟨o,b,c,n,d⟩,_⟩:=(show cH P w H h a (.tup (ks.map kV)) from ok a _ e)
 exact⟨o,aH.toArray,n,b,c,d,by simpa using qM r⟩
variable{kvs:List (List Key×V)}
theorem vN(ok:qE P w H h)(e:Rd H a (.dT kvs)):kvs.length<=sizeLine/\(a==sysModules)=false/\
  ∃xs,KT H kvs xs/\h.DictOfH (tupleKind (aS P w)) a xs:=by
 obtain⟨z,y,xs,r,o,b,ep,c,d,f,g,i⟩:=(show cH P w H h a (.dT kvs) from US ok e)
 refine⟨z,y,xs,r,o,b,ep,c,d,f,g,λx hx=>?_,i⟩
 have all:∀{l:List (List Key×V)} {m:List (List Key×Addr×Value)},KT H l m->∀x∈m,(tupleKind (aS P w)).is h x.1 x.2.1:=by
  intro l m q
  induction q with
  | nil=>intro x hx;exact nomatch hx
  | @cons p q ps qs hq t ih=>
   intro x hx;rcases aH2.mp hx with e | hx
   ·subst e;exact u9 ok (by rw[<-hq.1];exact hq.2.1)
   ·exact ih x hx
 exact all r x hx
theorem O7(ok:qE P w H h)(e:H a=some (.dT kvs)):kvs.length<=sizeLine/\(a==sysModules)=false/\
  ∃xs,KT H kvs xs/\h.DictOfH (tupleKind (aS P w)) a xs:=vN ok (.inl e)
end
def EE(H:Hp)(a:Addr)(y:V)(r:Option V):Prop:=
 (∃kvs k,Rd H a (.dK kvs)/\y=kV k/\r=gC kvs k)\/∃kvs k b,Rd H a (.dT kvs)/\y= .ref b/\H b=some (.tup (k.map kV))/\r=gC kvs k
def K1(H:Hp)(a:Addr)(y v:V)(H' :Hp):Prop:=
 (∃kvs k,H a=some (.dK kvs)/\y=kV k/\kvs.length<sizeLine/\H' =upd H a (.dK (putK kvs k v)))\/
 ∃kvs k b,H a=some (.dT kvs)/\y= .ref b/\H b=some (.tup (k.map kV))/\kvs.length<sizeLine/\H' =upd H a (.dT (putK kvs k v))
variable{a:Addr}{kvs:List (Key×V)}
theorem EE.k{k:Key}(e:H a=some (.dK kvs)):EE H a (kV k) (gC kvs k):= .inl ⟨kvs,k,.inl e,rfl,rfl⟩
theorem K1.k{k:Key}{v:V}(e:H a=some (.dK kvs))(b:kvs.length<sizeLine):K1 H a (kV k) v (upd H a (.dK (putK kvs k v))):= .inl ⟨kvs,k,e,rfl,b,rfl⟩
theorem K1.t{a b:Addr}{kvs:List (List Key×V)}{k:List Key}{v:V}(e:H a=some (.dT kvs))(c:H b=some (.tup (k.map kV)))(d:kvs.length<sizeLine):
  K1 H a (.ref b) v (upd H a (.dT (putK kvs k v))):= .inr ⟨kvs,k,b,e,rfl,c,d,rfl⟩
section
variable {X:Cx}{pins:List (Addr×Obj)}{σ:St}{H:Hp}{s:Shared}{a:Addr}{y v:V}{u r:Value}{o:Option V}{A:Around}{E:aL2}
theorem Inv.big(I:Inv X pins σ H s):sysModules<s.heap.objs.size:=by
 have h:mainGlobals<s.heap.objs.size:=(I.mod.glob.keeps I.bk).lt;exact Nat.lt_trans (by decide) h
theorem KA{Q:aL2}(t:A.units+1<cLine)(I:Inv X pins σ H s)(g:EE H a y (some v))(q:RelV y u)(h:∀f r,Inv X pins σ H r ->RelV v f ->Q f r):
  wpAny (model X.prog X.w) A (getItem (.ref a) u) Q E s:=by
 rcases g with ⟨kvs,k,e,i,l⟩ | ⟨kvs,k,b,e,i,x,l⟩
 ·subst i;obtain⟨z,hd,vs,c,j⟩:=yI I.bO e;obtain⟨f,m,d⟩:=qV.some_of (v:=v) (o:=valueAt vs k) (by rw[l];exact c.val k);exact wpAny_getItem_of (rP q) j.mapOf m (h f _ (I.tok _) d)
 ·subst i;cases (show u=Value.ref b from q);obtain⟨z,hd,xs,c,j⟩:=vN I.bO e;obtain⟨f,m,d⟩:=qV.some_of (v:=v) (o:=(atKey xs k).map (·.2)) (by rw[l];exact c.val k);obtain⟨p,B,n⟩:=aHr.mp m;refine wpAny_getItem_heap (aIs t) (u9 I.bO x) j B ?_;rw[n];exact h f _ (I.tok _) d
theorem aGg{Q:aL2}(m:A.units+1<cLine)(I:Inv X pins σ H s)(g:EE H a y o)(i:RelV y u)(h:∀j,Inv X pins σ H j ->Q (.bool o.isSome) j):
  wpAny (model X.prog X.w) A (compareOp .In u (.ref a)) Q E s:=by
 rcases g with ⟨kvs,k,e,d,l⟩ | ⟨kvs,k,b,e,d,n,l⟩
 ·subst d;obtain⟨z,hd,vs,c,f⟩:=yI I.bO e;refine wpAny_in_of (rP i) hd f.mapOf ?_;rw[<-(c.val k).i0,<-l];exact h _ (I.tok _)
 ·subst d;cases (show u=Value.ref b from i);obtain⟨z,hd,xs,c,f⟩:=vN I.bO e;refine wpAny_in_heap (aIs m) (u9 I.bO n) hd f ?_;have q:=(c.val k).i0;rw[Option.isSome_map]at q;rw[<-q,<-l];exact h _ (I.tok _)
theorem p8{h' :Heap}{t' :Nat}{ob:HO}(I:Inv X pins σ H s)(c:K3 (H a))(d:Heap.SameBut a s.heap h')(he:∃q,h'.get? a=some q)(new:cH X.prog X.w (upd H a ob) h' a ob):
  Inv X pins σ (upd H a ob) {s with heap:=h',toks:=t'}:=
 I.write (x:=a) (e:=a) c (.inl rfl) (λb q hb z=>(d.2 b hb).trans z) he new
theorem F6{H' :Hp}{h' :Heap}{vs:List (Key×Value)}(z:kvs.length<=sizeLine)(hd:(a==sysModules)=false)(b:KV kvs vs)(c:h'.DictOf (aS P w) a vs):
  cH P w H' h' a (.dK kvs):=⟨z,hd,vs,b,c⟩
theorem J9{H' :Hp}{Q:Unit->Shared->Prop}(F:A.units+1<cLine)(I:Inv X pins σ H s)(g:K1 H a y v H')(t:RelV y u)(x:RelV v r)(h:∀B,Inv X pins σ H' B ->Q () B):
  wpAny (model X.prog X.w) A (setItem (.ref a) u r) Q E s:=by
 rcases g with ⟨kvs,k,e,j,l,m⟩ | ⟨kvs,k,b,e,j,C,l,m⟩
 ·subst j m;obtain⟨z,hd,vs,d,n⟩:=IE I.bO e;have hz:vs.length<=sizeLine:=by rw[<-d.length];exact z
  have o:(putK kvs k v).length<=sizeLine:=by have:=lS kvs k v;lia
  refine wpAny_setItem_pairs (hsz:=hz) (rP t) n λh' f p=>h _ ?_;have he:∃q,h'.get? a=some q:=let ⟨q,_,_,i,_⟩:=f;⟨q,i⟩;exact p8 I (by rw[e];exact True.intro) p he (F6 o hd (d.put k x) f)
 ·subst j m;cases (show u=Value.ref b from t);obtain⟨z,hd,xs,d,n⟩:=O7 I.bO e;have hz:xs.length<=sizeLine:=by rw[<-Paired.length d];exact z
  have o:(putK kvs k v).length<=sizeLine:=by have:=lS kvs k v;lia
  refine wpAny_setItem_heap (hsz:=hz) (aIs F) (u9 I.bO C) n λh' f p=>h _ ?_;obtain⟨q,G,ep,i,J,K,L,_,M⟩:=f;refine p8 I (by rw[e];exact True.intro) p ⟨q,i⟩ ⟨o,hd,_,(d.put k C x).keeps λc ys D=>?_,q,G,ep,i,J,K,L,M⟩;rw[aL (UY D e (λz=>nomatch z))];exact D
end
section
variable {X:Cx}{pins:List (Addr×Obj)}{σ:St}{H:Hp}{s:Shared}{a:Addr}{kvs:List (Key×V)}{k:Key}{u:Value}{A:Around}{E:aL2}
theorem KC{Q:Unit->Shared->Prop}(I:Inv X pins σ H s)(e:H a=some (.dK kvs))(g:RelV (kV k) u)(l:(gC kvs k).isSome=true)(h:∀f,Inv X pins σ (upd H a (.dK (cC kvs k))) f ->Q () f):
  wpAny (model X.prog X.w) A (delItem (.ref a) u) Q E s:=by
 obtain⟨z,hd,vs,b,d⟩:=IE I.bO e
 refine wpAny_delItem_slot d.typeIs (by decide) PySem.F.slot_dict_delitem
  (aKm PySem.F.slot_dict_delitem d.typeIs PySem.F.entry_dict_delitem (PySem.F.args_dict_delitem_2 _ _) (meets_dict_delitem_pairs (aS X.prog X.w) a (rP g)) ⟨vs,d,by rw[<-b.length];exact z,by rw[<-(b.val k).i0];exact l,λh' c i=>h _ ?_⟩)
 have he:∃q,h'.get? a=some q:=let ⟨q,_,_,hq,_⟩:=c;⟨q,hq⟩;exact p8 I (by rw[e];exact True.intro) i he (F6 (aHm (DT kvs k) z) hd (b.drop k) c)
end
variable{pins:List (Addr×Obj)}
theorem DU{X:Cx}{σ:St}{s:Shared}{y:V}{o:Option V}(I:Inv X pins σ H s)(g:EE H a y o):s.TypeIs (.ref a) "dict":=by
 rcases g with ⟨kvs,k,e,_,_⟩ | ⟨kvs,k,b,e,_,_,_⟩
 ·obtain⟨_,_,vs,_,c⟩:=yI I.bO e;exact c.typeIs
 ·obtain⟨_,_,xs,_,c⟩:=vN I.bO e;exact c.typeIs
def aBj(c ty d:TE):TS:=λD σ H=>d σ H λv e=>c σ e λx f=>ty σ f λy g=>∃a b,x= .ref a/\K1 g a y v b/\D.nx σ b
def aBk(c ty:TE):TS:=λD σ H=>c σ H λx d=>ty σ d λy b=>∃a kvs k,x= .ref a/\b a=some (.dK kvs)/\y=kV k/\(gC kvs k).isSome=true/\D.nx σ (upd b a (.dK (cC kvs k)))
section
variable {X:Cx}{o i e value:Expr}{pos pos' tpos:Pos}{td ty tv:TE}
theorem zH(b:X.A.units+1<cLine)(ho:PE X o td)(hi:PE X i ty)(c:PE X value tv)(d:swapsWith value (some (.Subscript o i pos')) pos.line X.env=pure false):
  PS X (.Assign [.Subscript o i pos'] value pos) (aBj td ty tv):=by
 intro pins s σ H D I h;refine wpAny_Assign_Subscript (cJ (c pins s σ H _ I h) λr s1 ⟨v,e,f,j,k⟩=>cJ (ho pins s1 σ e _ f k) λu s2 ⟨x,l,m,n,p⟩=>cJ (hi pins s2 σ l _ m p) λC E ⟨y,F,q,t,a,w,ex,g,z⟩=>?_) d;subst ex;obtain rfl:u=Value.ref a:=n
 exact J9 b q g t j λG B=>⟨σ,w,B,z⟩
theorem RF(ho:PE X o td)(hi:PE X i ty):PS X (.Delete [.Subscript o i tpos] pos) (aBk td ty):=by
 intro pins s σ H D I h;refine wpAny_Delete (wpAny_deleteEach_cons (wpAny_delete_Subscript (cJ (ho pins s σ H _ I h) λu s1 ⟨x,c,d,f,g⟩=>cJ (hi pins s1 σ c _ d g) λr s2 b=>?_)));obtain⟨y,t,j,m,a,kvs,k,ex,e,n,l,p⟩:=b;subst ex n;obtain rfl:u=Value.ref a:=f;exact KC j e m l λv q=>wpAny_deleteEach_nil ⟨σ,_,q,p⟩
end
theorem PB(h:Heap)(hb:sysModules<h.objs.size):cH P w H (h.push {cls:= .type "dict",data:= .dict #[]}) h.objs.size (.dK []):=
 ⟨aI8 _,aKj.mpr (aHv (aHc hb)),[],.nil,Heap.DictOf.new h⟩
theorem O8(h:Heap)(hb:sysModules<h.objs.size):cH P w H (h.push {cls:= .type "dict",data:= .dict #[]}) h.objs.size (.dT []):=
 ⟨aI8 _,aKj.mpr (aHv (aHc hb)),[],.nil,_,#[],0,aH0 _ rfl,⟨rfl,rfl,rfl⟩,rfl,rfl,List.nodup_nil⟩
def VW:TE:=λ_ H Q=>∀p,H p=none->Q (.ref p) (upd H p (.dK []))
def VV:TE:=λ_ H Q=>∀p,H p=none->Q (.ref p) (upd H p (.dT []))
section
variable {X:Cx}{pos:Pos}
theorem MT:PE X (.Dict [] [] pos) VW:=λpins s σ H Q I h=>
 wpAny_Dict_empty ⟨.ref s.heap.objs.size,_,I.laid (a:=s.heap.objs.size) (o:= .dK []) (t' :=s.toks) (λ_ _ q=>aGv _ q) (aGy _) (PB s.heap I.big),rfl,h _ (I.bO.fresh (aGy _))⟩
theorem MS:PE X (.Dict [] [] pos) VV:=λpins s σ H Q I h=>
 wpAny_Dict_empty ⟨.ref s.heap.objs.size,_,I.laid (a:=s.heap.objs.size) (o:= .dT []) (t' :=s.toks) (λ_ _ q=>aGv _ q) (aGy _) (O8 s.heap I.big),rfl,h _ (I.bO.fresh (aGy _))⟩
end
structure M1(X:Cx)(o:Expr)(m:Str)(apos:Pos)(e:Expr)(cD:Pos):Prop where
 base:attributeBase o m X.env (eval o X.env)=eval o X.env
 FZ:((backTo cD (starEach [e] X.env)).all (λx=>!x.1) && (backToKw cD (keywordEach [] X.env)).all (λx=>x.1.isSome)
  && decide (([e]:List Expr).length+([]:List Keyword).length+(if ([]:List Keyword).isEmpty then 0 else 1)<30))=true
 line:(apos.endLine==cD.line)=true
 trees:backTo cD (starEach [e] X.env)=[(false,eval e X.env)]
structure M2(X:Cx)(o:Expr)(m:Str)(apos:Pos)(e f:Expr)(cD:Pos):Prop where
 base:attributeBase o m X.env (eval o X.env)=eval o X.env
 FZ:((backTo cD (starEach [e,f] X.env)).all (λx=>!x.1) && (backToKw cD (keywordEach [] X.env)).all (λx=>x.1.isSome)
  && decide (([e,f]:List Expr).length+([]:List Keyword).length+(if ([]:List Keyword).isEmpty then 0 else 1)<30))=true
 line:(apos.endLine==cD.line)=true
 trees:backTo cD (starEach [e,f] X.env)=[(false,eval e X.env),(false,eval f X.env)]
def IsD(H:Hp)(a:Addr):Prop:=(∃kvs,Rd H a (.dK kvs))\/∃kvs,Rd H a (.dT kvs)
theorem FR{X:Cx}{σ:St}{s:Shared}(I:Inv X pins σ H s)(d:IsD H a):
  s.TypeIs (.ref a) "dict"/\(∀b,Value.ref a= .ref b->∃ob,s.heap.get? b=some ob/\ob.dict=none)/\(a==sysModules)=false:=by
 rcases d with ⟨kvs,e⟩ | ⟨kvs,e⟩
 ·obtain⟨_,hd,vs,_,c⟩:=yI I.bO e;refine⟨c.typeIs,λb q=>?_,hd⟩;cases q;obtain⟨ob,_,_,f,g,_⟩:=c;exact⟨ob,f,g.2.1⟩
 ·obtain⟨_,hd,xs,_,c⟩:=vN I.bO e;refine⟨c.typeIs,λb q=>?_,hd⟩;cases q;obtain⟨ob,_,_,f,g,_⟩:=c;exact⟨ob,f,g.2.1⟩
section
variable {X:Cx}{pins:List (Addr×Obj)}{σ:St}{H:Hp}{s:Shared}{a:Addr}{y d:V}{u r:Value}{o:Option V}{A:Around}{E:aL2}
theorem ZP{Q:aL2}(q:A.units+1<cLine)(I:Inv X pins σ H s)(g:EE H a y o)(j:RelV y u)(m:RelV d r)(h:∀n p,Inv X pins σ H p ->RelV (o.getD d) n ->Q n p):
  wpAny (model X.prog X.w) A (call (.builtin "dict.get") [.ref a,u,r]) Q E s:=by
 rcases g with ⟨kvs,k,e,i,l⟩ | ⟨kvs,k,b,e,i,t,l⟩
 ·subst i;obtain⟨z,hd,vs,c,f⟩:=yI I.bO e;refine aKm aK6 f.typeIs PySem.F.entry_dict_get (PySem.F.args_dict_get_3 _ _ _) (meets_dict_get_default (aS X.prog X.w) a (rP j) hd r) ⟨_,f.mapOf,h _ _ (I.tok _) ?_⟩;rw[l];exact(c.val k).getD m
 ·subst i;cases (show u=Value.ref b from j);obtain⟨z,hd,xs,c,f⟩:=vN I.bO e;refine aKm aK6 f.typeIs PySem.F.entry_dict_get (PySem.F.args_dict_get_3 _ _ _) (meetsH_dict_get_default (tupleKind (aS X.prog X.w)) a b hd r) ⟨aIs q,k,xs,u9 I.bO t,f,h _ _ (I.tok _) ?_⟩;rw[l];exact(c.val k).getD m
end
def VX(d ty e:TE):TE:=λσ H Q=>d σ H λx b=>∃a,x= .ref a/\IsD b a/\ty σ b λy f=>e σ f λz c=>∃o,EE c a y o/\Q (o.getD z) c
section
variable {X:Cx}{o e f:Expr}{apos cD:Pos}{td ty tx:TE}
theorem MU(j:X.A.units+1<cLine)(ho:PE X o td)(he:PE X e ty)(k:PE X f tx)(m:M2 X o "get" apos e f cD):PE X (.Call (.Attribute o "get" apos) [e,f] [] cD) (VX td ty tx):=by
 intro pins s σ H Q I h;refine wpAny_Call_method m.base m.FZ m.line aJv aK6 PySem.F.type_dict_get (cJ (ho pins s σ H _ I h) λu s1 b=>?_);obtain⟨x,l,i,n,a,ex,d,p⟩:=b;subst ex;obtain rfl:u=Value.ref a:=n;obtain⟨q,r,_⟩:=FR i d;refine⟨q,r,?_⟩;rw[m.trees]
 refine aJ3 rfl (aJe (aIk (cJ (he pins s1 σ l _ i p) λK s2 ⟨y,t,v,w,B⟩=>
  aIk (cJ (k pins s2 σ t _ v B) λL M ⟨z,C,D,E,N,g,G⟩=>aJb ?_))))
 exact ZP j D g w E λO P J c =>⟨_,C,J,c,G⟩
end
end L2
namespace ST
open PySem PySem.SetTable
def GI(xs:Array Nat):Prop:=xs.toList.Pairwise (· < ·)
variable{xs:Array Nat}{i j:Nat}
theorem EZ(h:GI xs)(hi:i<j)(a:j<xs.size):xs[i]'(by lia)<xs[j]:=by
 have:=aHw.mp h i j (by simp;lia) (by simpa using a) hi;simpa using this
theorem MA(h:GI xs)(hi:i<=j)(a:j<xs.size):xs[i]'(by lia)<=xs[j]:=by
 rcases aKo hi with z | z
 ·exact aIz (EZ h z a)
 ·subst z;exact aGy _
theorem AF(xs:Array Nat)(j:Nat)(h:GI xs):∀(fuel lo hi:Nat),hi-lo<=fuel->lo<=hi->hi<=xs.size->(∀k (c:k<xs.size),k<lo->xs[k]<j)->(∀k (c:k<xs.size),hi<=k->j<=xs[k])->
  (below.go xs j fuel lo hi<=xs.size)/\(∀k (c:k<xs.size),k<below.go xs j fuel lo hi->xs[k]<j)/\(∀k (c:k<xs.size),below.go xs j fuel lo hi<=k->j<=xs[k])
 | 0,lo,hi,h1,h2,h3,a,b=>by
  have:lo=hi:=by lia
  subst this;exact⟨h3,a,b⟩
 | fuel+1,lo,hi,h1,h2,h3,a,b=>by
  unfold below.go;by_cases f:lo<hi
  ·rw[if_pos f];have g:(lo+hi) / 2<xs.size:=by lia
   have i:xs.getD ((lo+hi) / 2) j=xs[(lo+hi) / 2]:=by simp[Array.getD,g]
   simp only[i];by_cases e:xs[(lo+hi) / 2]<j
   ·rw[if_pos e];exact AF xs j h fuel _ _ (by lia) (by lia) h3 (λk c d=>Nat.lt_of_le_of_lt (MA h (by lia) g) e) b
   ·rw[if_neg e];exact AF xs j h fuel _ _ (by lia) (by lia) (by lia) a (λk c d=>aHm (aJ2 e) (MA h d c))
  ·rw[if_neg f];have:lo=hi:=by lia
   subst this;exact⟨h3,a,b⟩
theorem jR(j:Nat)(h:GI xs):(below xs j<=xs.size)/\(∀k (a:k<xs.size),k<below xs j->xs[k]<j)/\(∀k (a:k<xs.size),below xs j<=k->j<=xs[k]):=
 AF xs j h xs.size 0 xs.size (by lia) (by lia) (aGy _) (λk a z=>by lia) (λk a z=>by lia)
theorem F9(h:GI xs):below xs 0=0:=by
 obtain⟨a,b,_⟩:=jR 0 h;apply aIv;intro z;have:=b 0 (by lia) (by lia)
 lia
theorem GB(h:GI xs)(hi:i<xs.size):below xs (xs[i]+1)=i+1:=by
 obtain⟨a,b,c⟩:=jR (xs[i]+1) h
 have e:i<below xs (xs[i]+1):=by
  apply aIv;intro z;have:=c i hi (by lia)
  lia
 apply aIv;intro z;have d:i+1<below xs (xs[i]+1):=by lia
 have f:=b (i+1) (by lia) d;have g:=EZ (i:=i) (j:=i+1) h (by lia) (by lia)
 lia
theorem RZ(h:GI xs)(f:xs[below xs j]? ≠some j):j∉xs.toList:=by
 intro g;obtain⟨k,i,e⟩:=aJf.mp g;have d :k<xs.size:=by simpa using i
 have l :xs[k]=j:=by simpa using e
 obtain⟨a,b,c⟩:=jR j h
 have m:below xs j<=k:=by
  apply aIv;intro z;have:=b k d (by lia)
  lia
 rcases aKo m with z | z
 ·have:=EZ h z d;have:=c _ (by lia) (aGy _)
  lia
 ·apply f;rw[z];simp[d,l]
theorem DC{α:Type}(xs:Array α)(p:Nat)(x:α)(a:p<=xs.size):(insertAt xs p x).toList=xs.toList.take p++x::xs.toList.drop p:=by
 unfold insertAt;simp[Array.toList_extract];rw[List.take_of_length_le (by simp)]
theorem E1(h:GI xs)(l:j∉xs.toList):GI (insertAt xs (below xs j) j):=by
 obtain⟨a,b,c⟩:=jR j h;unfold GI;rw[DC _ _ _ a,List.pairwise_append];refine⟨h.sublist (aKs _ _),?_,?_⟩
 ·rw[List.pairwise_cons];refine⟨λy f=>?_,h.sublist (List.drop_sublist _ _)⟩;obtain⟨k,g,e⟩:=aJf.mp f;have d:below xs j+k<xs.size:=by simp at g;lia
  have n:xs[below xs j+k]=y:=by simpa using e
  have:=c _ d (by lia);rcases aKo this with z | z
  ·lia
  ·exfalso;apply l;rw[z];simp
 ·intro x o y f;obtain⟨k,g,e⟩:=aJf.mp o;have d:k<below xs j/\k<xs.size:=by simp at g;lia
  have n:xs[k]=x:=by simpa using e
  have r:=b k d.2 d.1;rcases aH2.mp f with z | z
  ·lia
  ·obtain⟨m,p,q⟩:=aJf.mp z;have i:below xs j+m<xs.size:=by simp at p;lia
   have s:xs[below xs j+m]=y:=by simpa using q
   have:=c _ i (by lia)
   lia
theorem JC(n:Nat):GI (Array.range n):=by
 unfold GI;rw[Array.toList_range];exact List.pairwise_lt_range
structure sA(l:Bool)(t:SetTable):Prop where
 ris:GI t.place
 dum:t.dummies= #[]
 led:t.led=l
variable{l:Bool}
theorem sA.plain{t:SetTable}(h:sA l t)(b:Bool):sA l {t with plain:=b}:=⟨h.ris,h.dum,h.led⟩
theorem sA.fresh(f m:Nat)(l:Bool):sA l (.fresh f m l):=⟨by unfold GI SetTable.fresh;simp,rfl,rfl⟩
theorem sA.G4{t:SetTable}(h:sA l t)(n:Nat):sA l (t.standIn n):=⟨JC n,rfl,h.led⟩
theorem sA.RS{t:SetTable}(h:sA l t)(n:Nat):sA l (t.orStandIn n):=by
 unfold SetTable.orStandIn;split
 ·exact h
 ·exact h.G4 n
theorem uB{t:SetTable}(h:t.dummies= #[])(j:Nat):t.slot j≠ .dummy:=by
 unfold SetTable.slot;simp only[h,SetTable.has];split
 ·exact λz=>by cases z
 ·simp
theorem B8{t:SetTable}(h:t.dummies= #[])(x:Int):∀(fuel:Nat) (p:Probe) (j:Nat) (d:Option Nat),p.dummy=none->probe.go t (λ_=>x+1) x fuel p=some (.empty j d)->t.slot j= .empty/\d=none
 | 0,p,j,d,_,e=>by simp[probe.go]at e
 | fuel+1,p,j,d,hp,e=>by
  unfold probe.go at e
  cases hs:t.slot p.j with
  | empty=>
   rw[hs]at e;simp at e;obtain⟨rfl,rfl⟩:=e;exact⟨hs,hp⟩
  | dummy=>exact absurd hs (uB h _)
  | live i=>
   rw[hs]at e;have:(x+1==x)=false:=by simp;lia
   simp only[this]at e;refine B8 h x fuel _ j d ?_ e;unfold SetTable.advance;split <;> simp[hp]
theorem J4{t:SetTable}(h:t.dummies= #[]){x:Int}{b:Bool}(e:t.freeSlot x=some (j,b)):t.slot j= .empty:=by
 unfold SetTable.freeSlot at e
 cases hp:t.probe (λ_=>x+1) x (t.probeStart x) with
 | none=>rw[hp]at e;cases e
 | some m=>
  rw[hp]at e
  cases m with
  | candidate a b c=>cases e
  | empty k d=>
   obtain⟨f,g⟩:=B8 h x _ _ k d rfl hp;subst g;simp at e;obtain⟨rfl,_⟩:=e;exact f
theorem EV{t:SetTable}(h:sA l t)(e:t.slot j= .empty):j∉t.place.toList:=by
 apply RZ h.ris;intro z;unfold SetTable.slot at e;simp[z]at e
theorem sA.put{t:SetTable}(h:sA l t)(a:j∉t.place.toList):sA l (t.put j).1:=by
 unfold SetTable.put;refine⟨E1 h.ris a,?_,h.led⟩;simp[h.dum,SetTable.has]
theorem sA.lay{t:SetTable}(h:sA l t)(a:Array (Int×Value))(x:Int)(v:Value):sA l (layNew t a x v).2.1:=by
 unfold layNew
 cases hf:t.freeSlot x with
 | none=>exact h.G4 _
 | some p=>
  obtain⟨j,b⟩:=p;have:=h.put (EV h (J4 h.dum hf));exact this.RS _
theorem sA.aBm{t:SetTable}(h:sA l t)(e:Array (Int×Value))(n:Nat):sA l (relayAll t e n).2.1:=by
 unfold relayAll
 cases hr:t.relaid (e.map (·.1)) n with
 | none=>exact h.G4 _
 | some p=>
  obtain⟨t',f⟩:=p;simp only;split
  ·unfold SetTable.relaid SetTable.laid at hr
   cases ho:layClean (sizeAbove n-1) (e.map (·.1)) with
   | none=>rw[ho]at hr;cases hr
   | some ow=>
    rw[ho]at hr;simp at hr;obtain⟨rfl,_⟩:=hr;refine⟨?_,rfl,h.led⟩;unfold GI;simp only[List.map_filterMap];have:(List.range (sizeAbove n-1+1)).Pairwise (· < ·):=List.pairwise_lt_range;rw[List.pairwise_filterMap];refine this.imp_of_mem λ{a b} _ _ g x i y j=>?_;simp at i j;obtain⟨c,k,rfl⟩:=i;obtain⟨d,hd,rfl⟩:=j;exact g
  ·exact h.G4 _
theorem rN{α d:Type}(f:α->d):∀{l:List d} {m:List d},l.Perm m->∀t:List α,m=t.map f->∃t' :List α,t'.Perm t/\t'.map f=l:=by
 intro l m p
 induction p with
 | nil=>
  intro t e
  cases t with
  | nil=>exact⟨[],.refl _,rfl⟩
  | cons a t=>cases e
 | cons x p ih=>
  intro t e
  cases t with
  | nil=>cases e
  | cons a t=>
   simp at e;obtain⟨t',c,g⟩:=ih t e.2;exact⟨a::t',c.cons a,by simp[e.1,g]⟩
 | swap x y l=>
  intro t e
  cases t with
  | nil=>cases e
  | cons a t=>
   cases t with
   | nil=>simp at e
   | cons b t=>
    simp at e;exact⟨b::a::t,.swap a b t,by simp[e]⟩
 | trans c h ih1 ih2=>
  intro t e;obtain⟨i,c,g⟩:=ih2 t e;obtain⟨j,h,k⟩:=ih1 i g.symm;exact⟨j,h.trans c,k⟩
section
variable {prog:Program}{w:World}{K:Type}[DecidableEq K](knd:KeyKind prog w K)
def Es(a:Array (Int×Value))(ks:List K):Prop:=
 ∃ps:List (K×(Int×Value)),ps.map (·.2)=a.toList/\(ps.map (·.1)).Perm ks/\∀p∈ps,knd.is p.1 p.2.2=true/\p.2.1=knd.hash p.1/\p.2.2.scannable=true
def gU(l:Bool)(h:Heap)(a:Addr)(ks:List K):Prop:=
 ∃o b ep t,h.get? a=some o/\o.ExactSet/\o.data= .set b ep t/\Es knd b ks/\ks.Nodup/\b.size<scanBound/\t.fits b.size=true/\sA l t
variable {knd}
variable{es es':Array (Int×Value)}{ks:List K}
theorem Es.perm(h:Es knd es ks)(p:es'.toList.Perm es.toList):Es knd es' ks:=by
 obtain⟨ps,c,d,e⟩:=h;obtain⟨a,b,f⟩:=rN (·.2) p ps c.symm;exact⟨a,f,(b.map _).trans d,λp g=>e p (b.mem_iff.mp g)⟩
theorem Es.size(h:Es knd es ks):es.size=ks.length:=by
 obtain⟨ps,c,d,e⟩:=h;have a:=aHu List.length c;have b:=d.length_eq;simp at a b
 lia
theorem Es.elems(h:Es knd es ks):ElemsOf knd es.toList:=by
 obtain⟨ps,d,i,f⟩:=h;intro e he;rw[<-d]at he;obtain⟨p,g,rfl⟩:=aH5.mp he;obtain⟨a,b,c⟩:=f p g;exact⟨⟨p.1,a,b⟩,c⟩
theorem Es.mem(h:Es knd es ks)(k:K):k∈ks↔∃e∈es.toList,knd.is k e.2=true:=by
 obtain⟨ps,d,f,c⟩:=h;rw[<-f.mem_iff,<-d];constructor
 ·intro b;obtain⟨p,a,rfl⟩:=aH5.mp b;exact⟨p.2,aH5.mpr ⟨p,a,rfl⟩,(c p a).1⟩
 ·rintro⟨e,he,b⟩;obtain⟨p,a,rfl⟩:=aH5.mp he;exact aH5.mpr ⟨p,a,knd.inj _ _ _ (c p a).1 b⟩
theorem Es.push(h:Es knd es ks){k:K}{x:Value}(a:knd.is k x=true)(b:x.scannable=true):Es knd (es.push (knd.hash k,x)) (ks++[k]):=by
 obtain⟨ps,c,d,e⟩:=h;refine⟨ps++[(k,(knd.hash k,x))],by simp[c],by simpa using d.append_right [k],λp hp=>?_⟩;rcases aGz.mp hp with hp | hp
 ·exact e p hp
 ·simp at hp;subst hp;exact⟨a,rfl,b⟩
variable{a:Addr}
theorem gU.typeIs{s:Shared}(h:gU knd l s.heap a ks):s.TypeIs (.ref a) "set":=let ⟨o,_,_,_,ho,hx,_⟩:=h;⟨o,ho,hx.1⟩
theorem gU.keep{h h' :Heap}(x:gU knd l h a ks)(k:∀o,h.get? a=some o->h'.get? a=some o):gU knd l h' a ks:=let ⟨o,es,ep,t,ho,r⟩:=x;⟨o,es,ep,t,k o ho,r⟩
theorem store{h:Heap}{o:Obj}{ep:Nat}{t:SetTable}(ho:h.get? a=some o)(hex:o.ExactSet)(hd:o.data= .set es ep t)
   {t' :SetTable}  (he:Es knd es' ks) (nd:ks.Nodup) (hb:es'.size<scanBound) (b:t'.fits es'.size=true) (ht:sA l t'):
  (h.update a (Obj.putSet es' t')).get? a=some {o with data:= .set es' (ep+1) t'}/\gU knd l (h.update a (Obj.putSet es' t')) a ks:=by
 have hg:(h.update a (Obj.putSet es' t')).get? a=some {o with data:= .set es' (ep+1) t'}:=by
  have:=aHs (Obj.putSet es' t') ho (by rw[putSet_of es' t' hd];rfl);rw[putSet_of es' t' hd]at this;exact this
 exact⟨hg,_,es',ep+1,t',hg,hex,rfl,he,nd,hb,b,ht⟩
variable {A:Around}{E:aL2}{s:Shared}
theorem IL{g:Bool->Sem Unit}(hg:∀(b:Bool) (f:Shared) (B :Unit->Shared->Prop),B () f->wpAny (model prog w) A (g b) B E f)
   {o:Obj}  {ep:Nat} {t:SetTable} (ho:s.heap.get? a=some o) (hex:o.ExactSet) (hd:o.data= .set es ep t)
  {c:Array (Int×Value)} {e:SetTable}  (he:Es knd c ks) (nd:ks.Nodup)
  (j:c.size<scanBound) (u:e.fits c.size=true) (ht:sA l e) {d:Bool} {R:Option Bool->Shared->Prop}
  (h:∀h',Heap.SameBut a s.heap h' ->gU knd l h' a ks->R (some true) {s with heap:=h'}):
  wpAny (model prog w) A (do
    storeSet a c e
    if (!d && e.tooFull)=true then do
      g (relayAll e c (SetTable.grown c.size)).2.2
      storeSet a (relayAll e c (SetTable.grown c.size)).1 (relayAll e c (SetTable.grown c.size)).2.1
      pure (some true)
     else pure (some true)) R E s:=by
 refine aGs (wpAny_storeSet_of ho hd ?_ (fits_of_scanBound j));obtain⟨n,v⟩:=store (knd:=knd) ho hex hd he nd j u ht;have i:=aHt s.heap a (Obj.putSet c e);split
 ·have r:=relayAll_perm e c (SetTable.grown c.size);have k:=relayAll_fits e c (SetTable.grown c.size);have m:=ht.aBm c (SetTable.grown c.size);generalize C:relayAll e c (SetTable.grown c.size)=Rl at r k m⊢;obtain⟨p,D,x⟩:=Rl;dsimp only at r k m⊢;have y:=he.perm r;have hsz:p.size=c.size:=by rw[<-Array.length_toList,r.length_eq,Array.length_toList]
  have q:p.size<scanBound:=by rw[hsz];exact j
  refine aGs (hg _ _ _ ?_);refine aGs (wpAny_storeSet_of n rfl ?_ (fits_of_scanBound q));obtain⟨_,z⟩:=store (knd:=knd) n hex rfl y nd q k m;exact aGu (h _ (i.trans (aHt _ a _)) z)
 ·exact aGu (h _ i v)
def mZ(ks:List K)(k:K):List K:=if k∈ks then ks else ks++[k]
theorem KS{k:K}{x:Value}{Q:Bool->Shared->Prop}(m:knd.is k x=true)(hsc:x.scannable=true)(O:gU knd l s.heap a ks)
  (r:ks.length+1<scanBound) (h:∀(b:Bool) h',Heap.SameBut a s.heap h' ->gU knd l h' a (mZ ks k)->Q b {s with heap:=h'}):
  wpAny (model prog w) A (setAddHashed a x (knd.hash k)) Q E s:=by
 obtain⟨o,es,ep,t,ho,hex,hd,he,nd,hb,H,ht⟩:=O;have P:=he.size;have B:=he.elems;have n:=he.mem;have I:es.size+1<scanBound:=by rw[P];exact r
 unfold setAddHashed setAddHashedIn;refine aHo (aGs (aJ0 ho hd H ?_));dsimp only;rw[byScan_of hsc hb B];simp only[↓reduceIte];unfold setAddByScan;refine aGs ?_;refine aGs (aI2 ?_);refine aGs (wpAny_setScan_of m ho hd H B ?_)
 cases hr:List.findIdx? (λe=>knd.is k e.2) es.toList with
 | some j=>
  dsimp only;obtain⟨R,J,_⟩:=List.findIdx?_eq_some_iff_getElem.mp hr;have i:k∈ks:=(n k).mpr ⟨es.toList[j],aK8 R,J⟩;refine aGu (aGu ?_);have e:s={s with heap:=s.heap}:=by cases s;rfl
  have:=h false s.heap (Heap.SameBut.refl a s.heap) ⟨o,es,ep,t,ho,hex,hd,by unfold mZ;rw[if_pos i];exact he,by unfold mZ;rw[if_pos i];exact nd,hb,H,ht⟩;rw[e];exact this
 | none=>
  dsimp only
  have i:k∉ks:=λS=>by
   obtain⟨e,he,T⟩:=(n k).mp S;have:=List.findIdx?_eq_none_iff.mp hr e he;rw[T]at this;exact Bool.noConfusion this
  have M:∀(b:Bool) {f:Shared} {C :Unit->Shared->Prop},C () f->wpAny (model prog w) A (match b with | true=>rule "set.scan.the-table-gave-way" | false=>pure ()) C E f:=
   λb f C p=>by cases b <;> first | exact aGu p | exact aI2 p
  have d:=layNew_perm t es (knd.hash k) x;have c:=layNew_fits t es (knd.hash k) x;have g:=ht.lay es (knd.hash k) x;generalize U:layNew t es (knd.hash k) x=L at d c g⊢;obtain⟨D,V,y,N⟩:=L;dsimp only at d c g⊢;have F:Es knd D (mZ ks k):=by unfold mZ;rw[if_neg i];exact(he.push m hsc).perm d
  have G:(mZ ks k).Nodup:=by
   unfold mZ;rw[if_neg i,List.nodup_append];exact⟨nd,by simp,λa ha b hb=>by simp at hb;subst hb;exact λz=>i (z▸ha)⟩
  have q :D.size<scanBound:=by rw[<-Array.length_toList,d.length_eq,Array.length_toList,Array.size_push];exact I
  refine aGs (M _ ?_);split
  ·refine aGs ?_;rw[hashByValue_scannable 8 hsc];refine aGu ?_;refine IL (l:=l) ?_ ho hex hd F G q ?_ ?_ ?_
   ·intro b f C p;cases b <;> first | exact aGu p | exact aI2 p
   ·split
    ·exact c
    ·exact SetTable.fits_plain_off c
   ·split
    ·exact g
    ·exact g.plain false
   ·intro h' u v;dsimp only;exact aGu (h _ h' u v)
  ·refine aGs (aGu ?_);simp only[↓reduceIte];refine IL (l:=l) ?_ ho hex hd F G q c g ?_
   ·intro b f C p;cases b <;> first | exact aGu p | exact aI2 p
   ·intro h' u v;dsimp only;exact aGu (h _ h' u v)
end
open PySem.Spec
def iD(w:World):Bool:= !(w.params.followText "set-order")
section
variable {prog:Program}{w:World}{K:Type}[DecidableEq K]{knd:KeyKind prog w K}{A:Around}{E:aL2}{s:Shared}
theorem vI{h:Heap}{a:Addr}(ho:h.get? a=some {cls:= .type "set",dict:=none,data:= .set #[] 0 (.fresh 0 0 (iD w))}):gU knd (iD w) h a []:=
 ⟨_,#[],0,_,ho,⟨rfl,rfl,rfl⟩,rfl,⟨[],rfl,by simp,λp b=>by cases b⟩,by simp,by decide,by rfl,.fresh 0 0 _⟩
def bS(ks:List K)(xs:List K):List K:=xs.foldl mZ ks
theorem PY(ks:List K)(k:K):(mZ ks k).length<=ks.length+1:=by unfold mZ;split <;> simp
theorem GG:∀(xs ks:List K),(bS ks xs).length<=ks.length+xs.length
 | [],ks=>by simp[bS]
 | x::xs,ks=>by
  have a:=GG xs (mZ ks x);have b:=PY ks x;simp only[bS,List.foldl_cons,List.length_cons]at*
  lia
theorem NI{ks:List K}{k j:K}:j∈mZ ks k↔j∈ks\/j=k:=by
 unfold mZ;split
 ·rename_i h;exact⟨.inl,λz=>z.elim id λe=>e▸h⟩
 ·simp
theorem n8{j:K}:∀{xs ks:List K},j∈bS ks xs↔j∈ks\/j∈xs
 | [],ks=>by simp[bS]
 | x::xs,ks=>by
  have:=n8 (j:=j) (xs:=xs) (ks:=mZ ks x);simp only[bS,List.foldl_cons]at*;rw[this,NI];simp[or_assoc]
theorem NG(a:Value){Q₁:aL2}
  (h:Q₁ (.ref s.heap.objs.size) {s with heap:=s.heap.push {cls:= .type "set",dict:=none,data:= .set #[] 0 (.fresh 0 0 (iD w))}}):
  codeAny (model prog w) A (.call (.builtin "set.__new__") ⟨[.type "set",a],[]⟩) (wants Q₁ E) s:=by
 refine aKe ?_;show wpAny _ A.in1 (do checkBuiltinCall "set.__new__" ⟨[.type "set",a],[]⟩;again (.builtin "set.__new__" ⟨[.type "set",a],[]⟩)) _ _ s;refine aGs (aJw (F.newCall_set_1 a) (aGu ⟨aIn F.plain_set_new _,aI3 F.entry_set_new ?_⟩));rw[Around.under_plainId F.plain_set_new _];unfold Builtin.«set.__new__» Builtin.Frozenset.newClass;have b:=sub_set_self;obtain⟨c,g,d,e,os⟩:=s;dsimp only
 wp_walk
 refine aK9 (aGu ?_);dsimp only;simp only[newObj];refine aGs (wpAny_alloc (aGu ?_));exact aGu h
end
theorem slot_next:Slot "set_iterator" "__next__" "set_iterator.__next__":=
 .of (owner:= "set_iterator") (n:= "__next__") (by rw[typeLookup_type,builtinLookup_eq_fast];kernel_rfl) (by decide+kernel) (by decide+kernel) (by decide+kernel)
  (by first | exact .inl (by decide+kernel) | exact .inr (by decide+kernel)) (by rw[isSubtype_type];kernel_rfl)
theorem xD:Slot "set_iterator" "__iter__" "set_iterator.__iter__":=
 .of (owner:= "set_iterator") (n:= "__iter__") (by rw[typeLookup_type,builtinLookup_eq_fast];kernel_rfl) (by decide+kernel) (by decide+kernel) (by decide+kernel)
  (by first | exact .inl (by decide+kernel) | exact .inr (by decide+kernel)) (by rw[isSubtype_type];kernel_rfl)
theorem entry_next:entryFor table "set_iterator.__next__"=some Builtin.«set_iterator.__next__»:=entryFor_of_tree (by kernel_rfl)
theorem CC:Manifest.owners.lookup (String.ofList "rotareti_tes".toList.reverse)=some Manifest.sig_set_iterator:=by kernel_rfl
theorem args_next(a:Value):argsOk "set_iterator.__next__" ⟨[a],[]⟩:=by
 unfold argsOk;rw[signature?_of (id:= "set_iterator.__next__") (n:= "__txen__".toList) (o:= "rotareti_tes".toList) (by kernel_rfl) CC];kernel_rfl
theorem vL:entryFor table "set.__iter__"=some Builtin.«frozenset.__iter__»:=
 entryFor_alias (id' := "frozenset.__iter__") (by kernel_rfl) rfl (by decide+kernel) (by kernel_rfl)
def lU(first:Value)(i:Nat)(a:Addr)(n ep:Nat):Obj:={cls:= .type "set_iterator",dict:=none,data:= .fields #[first,.int i 0,.ref a,.int n 0,.int ep 0],slots:= #[]}
section
variable {prog:Program}{w:World}{A:Around}{E:aL2}{s:Shared}{it a:Addr}{first:Value}{i ep n:Nat}{o:Obj}{es:Array (Int×Value)}{t:SetTable}
variable{Q:Option Value->Shared->Prop}
theorem NF{slot nx:Nat}{x:Value}(b:s.heap.get? it=some (lU (.int slot 0) i a es.size ep))(ho:s.heap.get? a=some o)(hd:o.data= .set es ep t)(c:t.fits es.size=true)
  (hN:∀(A:Around) (E:aL2) (Q:Option (Value×Nat)->Shared->Prop),Q (some (x,nx)) s->wpAny (model prog w) A (setNext a slot i ep) Q E s)
  (q:∀h',h'.get? it=some (lU (.int nx 0) (i+1) a es.size ep)->Heap.SameBut it s.heap h' ->Q (some x) {s with heap:=h'}):wpAny (model prog w) A (pyNext (.ref it)) Q E s:=by
 have ht:s.TypeIs (.ref it) "set_iterator":=⟨_,b,rfl⟩
 unfold pyNext;refine aGs (aIf (aHj (name:=Str.ofString "__next__") ht slot_next (aHe slot_next ht entry_next ?_ (args_next _))));unfold Builtin.«set_iterator.__next__»;refine aGs (m:=slotArgs "__next__" 0 _) (aGu ?_);refine aGs (aJg b rfl ?_);dsimp only;refine aGs (aJ1 ho hd c ?_);rw[if_neg (show ¬(((es.size:Int) !=(es.size:Int))=true) by simp)];simp only[Int.toNat_natCast];refine aGs (hN _ _ _ ?_);dsimp only;refine aGs (aHp b (by simp) λj d e=>?_);refine aGs (aHp d (by simp) λf g h=>?_);refine aGu ⟨x,rfl,aGu (q f ?_ (e.trans h))⟩;rw[g];simp[lU,rawInt]
theorem xB{B:Around}(d:B.handled=none)(h:∀h',(∀b u,s.heap.get? b=some u->h'.get? b=some u)->Q none {s with heap:=h'}):
  wpAny (model prog w) B (do let e<-newExc (.type "StopIteration") [];raiseNew e) (λ(fin:Fin) c =>∃v,fin=Fin.done (Flow.ret v)/\wpAny (model prog w) A (pure (some v)) Q E c)
   (λe c =>wpAny (model prog w) A (do let b<-isInstance e (Value.type "StopIteration");if b=true then pure none else throw e) Q E c) s:=by
 refine aGs ?_;simp only[newExc,newTuple];refine aGs (aHk ?_ (by size_fits));refine aGs (m:=firstArgMember _ _) (aJw (a:=Value.none) (by first | rfl | (simp only[firstArgMember];rfl)) ?_);refine aHk ?_ (by size_fits);simp only[raiseNew];refine aGs (wpAny_handled ?_);rw[d];refine aGs (aGu (wpAny_throw ?_));refine aGs (aJl (T:= "StopIteration") (b:=true) ⟨_,aH0 _ rfl,rfl⟩ isSubtype_stop ?_);exact aGu (h _ λb u e=>aGv _ (aGv _ e))
theorem zP{slot:Nat}(d:A.handled=none)(c:s.heap.get? it=some (lU (.int slot 0) i a es.size ep))(ho:s.heap.get? a=some o)(hd:o.data= .set es ep t)(f:t.fits es.size=true)
  (hN:∀(A:Around) (E:aL2) (Q:Option (Value×Nat)->Shared->Prop),Q none s->wpAny (model prog w) A (setNext a slot i ep) Q E s)
  (q:∀h',Heap.ExtBut it s.heap h' ->Q none {s with heap:=h'}):wpAny (model prog w) A (pyNext (.ref it)) Q E s:=by
 have ht:s.TypeIs (.ref it) "set_iterator":=⟨_,c,rfl⟩
 unfold pyNext;refine aGs (aIf (aHj (name:=Str.ofString "__next__") ht slot_next (aHe slot_next ht entry_next ?_ (args_next _))));unfold Builtin.«set_iterator.__next__»;refine aGs (m:=slotArgs "__next__" 0 _) (aGu ?_);refine aGs (aJg c rfl ?_);dsimp only;refine aGs (aJ1 ho hd f ?_);rw[if_neg (show ¬(((es.size:Int) !=(es.size:Int))=true) by simp)];simp only[Int.toNat_natCast];refine aGs (hN _ _ _ ?_);dsimp only;refine aGs (aHp c (by simp) λg j h=>?_);exact xB (B:=A.in1) (s:={s with heap:=g}) (show A.in1.handled=none from d) λh' k=>q h' λb u hb e=>k b u ((h.2 b hb).trans e)
theorem ND{tp:Addr}{d:Nat}{ns:List Nat}{x:Value}(b:s.heap.get? it=some (lU (.ref tp) i a es.size ep))(ho:s.heap.get? a=some o)(hd:o.data= .set es ep t)(l:t.fits es.size=true)
  (e:s.heap.IsTuple tp (ns.map λ(k:Nat)=>rawInt k).toArray) (f:ns[i]? =some d) (n:(es[d]?).map (·.2)=some x)
  (q:∀h',h'.get? it=some (lU (.ref tp) (i+1) a es.size ep)->Heap.SameBut it s.heap h' ->Q (some x) {s with heap:=h'}):wpAny (model prog w) A (pyNext (.ref it)) Q E s:=by
 have ht:s.TypeIs (.ref it) "set_iterator":=⟨_,b,rfl⟩
 obtain⟨B,g,_,nt,h⟩:=e;obtain⟨⟨p,r⟩,j,c⟩:=aHr.mp n;simp only at c;subst c;unfold pyNext;refine aGs (aIf (aHj (name:=Str.ofString "__next__") ht slot_next (aHe slot_next ht entry_next ?_ (args_next _))));unfold Builtin.«set_iterator.__next__»;refine aGs (m:=slotArgs "__next__" 0 _) (aGu ?_);refine aGs (aJg b rfl ?_);dsimp only;refine aGs (aJ1 ho hd l ?_);rw[if_neg (show ¬(((es.size:Int) !=(es.size:Int))=true) by simp)];refine aGs (aHx g h ?_);dsimp only;have u:(ns.map λ(k:Nat)=>rawInt k).toArray[(i:Int).toNat]? =some (Value.int d 0):=by simp[f,rawInt]
 rw[u];dsimp only;simp only[Int.toNat_natCast];refine aGs (m:=setNextDrawn a d ep) ?_;unfold setNextDrawn;refine aGs (aJ0 ho hd l ?_);dsimp only;rw[if_neg (by simp)];rw[j];dsimp only;refine aGu ?_;refine aGs (aHp b (by simp) λv y z=>?_);refine aGu ⟨r,rfl,aGu (q v ?_ z)⟩;rw[y];simp[lU,rawInt]
theorem zO{tp:Addr}{ns:List Nat}(j:A.handled=none)(c:s.heap.get? it=some (lU (.ref tp) i a es.size ep))(ho:s.heap.get? a=some o)(hd:o.data= .set es ep t)(l:t.fits es.size=true)
  (d:s.heap.IsTuple tp (ns.map λ(k:Nat)=>rawInt k).toArray) (f:ns[i]? =none)
  (q:∀h',Heap.ExtBut it s.heap h' ->Q none {s with heap:=h'}):wpAny (model prog w) A (pyNext (.ref it)) Q E s:=by
 have ht:s.TypeIs (.ref it) "set_iterator":=⟨_,c,rfl⟩
 obtain⟨y,g,_,nt,h⟩:=d;unfold pyNext;refine aGs (aIf (aHj (name:=Str.ofString "__next__") ht slot_next (aHe slot_next ht entry_next ?_ (args_next _))));unfold Builtin.«set_iterator.__next__»;refine aGs (m:=slotArgs "__next__" 0 _) (aGu ?_);refine aGs (aJg c rfl ?_);dsimp only;refine aGs (aJ1 ho hd l ?_);rw[if_neg (show ¬(((es.size:Int) !=(es.size:Int))=true) by simp)];refine aGs (aHx g h ?_);dsimp only;have n:(ns.map λ(k:Nat)=>rawInt k).toArray[(i:Int).toNat]? =none:=by simpa using f
 rw[n];dsimp only;refine aGs (aHp c (by simp) λz p r=>?_);refine aGs (aHp p (by simp) λv C x=>?_);exact xB (B:=A.in1) (s:={s with heap:=v}) (show A.in1.handled=none from j) λh' k=>q h' λb u hb e=>k b u (((r.trans x).2 b hb).trans e)
end
theorem oC{α:Type}:∀{xs:List α} {i:Nat} (h:i<xs.length),(xs[i]::xs.eraseIdx i).Perm xs
 | x::xs,0,h=>.refl _
 | x::xs,i+1,h=>by
  simp only[List.getElem_cons_succ,List.eraseIdx_cons_succ];exact(List.Perm.swap x _ _).trans ((oC (by simpa using h)).cons x)
section
variable {M:Model}{A:Around}{E:aL2}
theorem yH{α:Type}:∀(n:Nat) (xs:List α) (s:Shared) (Q:List α->Shared->Prop),xs.length<=n->(∀ys d,ys.Perm xs->Q ys {s with drawn:=d})->wpAny M A (drawOrder n xs) Q E s
 | 0,[],s,Q,_,h=>by unfold drawOrder;exact aGu (h [] s.drawn (.refl _))
 | 0,x::xs,s,Q,hl,h=>by simp at hl
 | n+1,[],s,Q,_,h=>by unfold drawOrder;exact aGu (h [] s.drawn (.refl _))
 | n+1,x::xs,s,Q,hl,h=>by
  unfold drawOrder;refine aGs ?_;have a:0<(x::xs).length:=by simp
  refine(λc p b=>⟨by simp,?_⟩:wpAny M A (choose .order (x::xs).length) _ E s);have hi:M.w.draws .order (s.drawn.get .order) % (x::xs).length<(x::xs).length:=Nat.mod_lt _ a;generalize M.w.draws .order (s.drawn.get .order) % (x::xs).length=i at hi;revert c p b;show wpAny M A _ _ E _;refine aGu ?_;rw[List.getElem?_eq_getElem hi];dsimp only;refine aGs (yH n ((x::xs).eraseIdx i) _ _ (by rw[List.length_eraseIdx_of_lt hi];simp at hl⊢;lia) λys d e=>aGu (h _ d ?_));exact(e.cons _).trans (oC hi)
end
theorem xO{α:Type}(next:Nat->Nat):∀(fuel k:Nat) (left:List α) (out:Array α),left.length<=fuel->(pickOrder.go next fuel k left out).toList.Perm (out.toList++left)
 | 0,k,left,out,h=>by
  have:left=[]:=aI9.mp (by lia);subst this;simp[pickOrder.go]
 | fuel+1,k,[],out,h=>by simp[pickOrder.go]
 | fuel+1,k,x::xs,out,h=>by
  unfold pickOrder.go
  have hi:next k % (x::xs).length<(x::xs).length:=Nat.mod_lt _ (by simp)
  rw[List.getElem?_eq_getElem hi];dsimp only
  generalize next k % (x::xs).length=i at hi
  have:=xO next fuel (k+1) ((x::xs).eraseIdx i) (out.push (x::xs)[i]) (by rw[List.length_eraseIdx_of_lt hi];simp at h⊢;lia)
  refine this.trans ?_;simp only[Array.toList_push,List.append_assoc,List.singleton_append];exact(oC hi).append_left _
theorem uT{α:Type}(next:Nat->Nat)(xs:Array α):(pickOrder next xs).toList.Perm xs.toList:=by
 unfold pickOrder
 have:=xO next xs.size 0 xs.toList #[] (by simp)
 simpa using this
section
variable {prog:Program}{w:World}{A:Around}{E:aL2}{s:Shared}{a:Addr}{ep:Nat}{o:Obj}{es:Array (Int×Value)}{t:SetTable}
theorem i5{Q:Bool->Shared->Prop}(h:Q (w.params.followText "set-order") s):wpAny (model prog w) A setsByText Q E s:=by
 unfold setsByText;exact aGs (aK9 (aGu h))
def uC(t:SetTable):Nat->Nat
 | 0=>0
 | i+1=>t.place.getD i 0+1
theorem GA(ht:sA l t)(hi:i<=t.place.size):below t.place (uC t i)=i:=by
 cases i with
 | zero=>exact F9 ht.ris
 | succ i=>
  have:t.place.getD i 0=t.place[i]'(by lia):=by simp[Array.getD,show i<t.place.size by lia]
  show below t.place (t.place.getD i 0+1)=i+1;rw[this];exact GB ht.ris (by lia)
theorem J6(a:t.fits es.size=true):t.place.size=es.size:=by
 simp only[SetTable.fits,Bool.and_eq_true,beq_iff_eq]at a;exact a.1
variable{Q:Option (Value×Nat)->Shared->Prop}
theorem E9(ho:s.heap.get? a=some o)(hd:o.data= .set es ep t)(d:t.fits es.size=true)(ht:sA l t)(hb:w.params.followText "set-order"=false)(g:l=true)
  (f:(!t.plain && decide (es.size > 1))=false) (hi:i<=es.size) (q:Q ((es[i]?).map λe=>(e.2,uC t (i+1))) s):wpAny (model prog w) A (setNext a (uC t i) i ep) Q E s:=by
 have m:=J6 d;unfold setNext;refine aGs (aJ0 ho hd d ?_);dsimp only;refine aGs (i5 ?_);rw[hb,if_neg Bool.false_ne_true];have n:(if (!t.plain && decide (es.size > 1))=true then (unsupported "set_iterator.__next__:the-table-is-plain-no-more":Sem Unit) else pure ())=pure ():=by rw[f];rfl
 show wpAny _ _ (if (!t.plain && decide (es.size > 1))=true then _ else _) Q E s;rw[f,if_neg Bool.false_ne_true];have b:t.led=true:=by rw[ht.led,g]
 refine aGs ?_;show wpAny _ _ (if (!t.led && !es.isEmpty)=true then _ else _) _ E s;rw[b];simp only[Bool.not_true,Bool.false_and,Bool.false_eq_true,if_false];refine aGu ?_;rw[GA ht (by lia)];by_cases h:i<es.size
 ·have c:es[i]? =some es[i]:=by simp[h]
  have j:t.place[i]? =some (t.place[i]'(by lia)):=by simp[show i<t.place.size by lia]
  rw[c]at q⊢;rw[j];have k:t.place.getD i 0=t.place[i]'(by lia):=by simp[Array.getD,show i<t.place.size by lia]
  simp only[uC,k,Option.map_some]at q;exact aGu q
 ·have c:es[i]? =none:=by simp;lia
  rw[c]at q⊢;exact aGu q
theorem JL(ho:s.heap.get? a=some o)(hd:o.data= .set es ep t)(b:t.fits es.size=true)(hb:w.params.followText "set-order"=true)
  (q:Q (((pickOrder (w.params.setOrder a ep) es)[i]?).map λe=>(e.2,0)) s):wpAny (model prog w) A (setNext a 0 i ep) Q E s:=by
 unfold setNext;refine aGs (aJ0 ho hd b ?_);dsimp only;refine aGs (i5 ?_);rw[hb,if_pos rfl];rw[if_neg (by simp)];refine aGs ?_;unfold setWalk;refine aGs (aJ0 ho hd b ?_);dsimp only;refine aGs (i5 ?_);rw[hb,if_pos rfl];refine aGs (aK9 ?_);exact aGu (aGu q)
end
theorem wH:entryFor table "set_iterator.__iter__"=some Builtin.«dict_keyiterator.__iter__»:=
 entryFor_alias (id' := "dict_keyiterator.__iter__") (by kernel_rfl) rfl (by decide+kernel) (by kernel_rfl)
theorem A4(a:Value):argsOk "set_iterator.__iter__" ⟨[a],[]⟩:=by
 unfold argsOk;rw[signature?_of (id:= "set_iterator.__iter__") (n:= "__reti__".toList) (o:= "rotareti_tes".toList) (by kernel_rfl) CC];kernel_rfl
theorem xI{α:Type}:∀l:List α,(List.range l.length).filterMap (λk=>l[k]?)=l
 | []=>rfl
 | x::l=>by
  have:=xI l;rw[List.length_cons,List.range_succ_eq_map,List.filterMap_cons];simp only[List.getElem?_cons_zero,List.filterMap_map,Function.comp_def,List.getElem?_cons_succ];rw[this]
section
variable {prog:Program}{w:World}{A:Around}{E:aL2}{s:Shared}
theorem yA{it a:Addr}{first:Value}{i n ep:Nat}{Q:aL2}(b:s.heap.get? it=some (lU first i a n ep))(h:Q (.ref it) s):wpAny (model prog w) A (pyIter (.ref it)) Q E s:=by
 have ht:s.TypeIs (.ref it) "set_iterator":=⟨_,b,rfl⟩
 refine aJc ht xD (aHe xD ht wH ?_ (A4 _));show wpAny _ _ (ret (.ref it)) _ _ s;exact aGu ⟨_,rfl,"set_iterator",_,ht,slot_next.lookup,h⟩
variable{es:Array (Int×Value)}
theorem BG(m:A.handled=none){it a:Addr}(f:a≠it){o:Obj}{ep:Nat}{t:SetTable}(hd:o.data= .set es ep t)(j:t.fits es.size=true)(sl:Nat->Nat)(vs:List Value)(c:vs.length=es.size)
  (hN:∀(i:Nat),i<=es.size->∀(s:Shared),s.heap.get? a=some o->∀(A:Around) (E:aL2) (Q:Option (Value×Nat)->Shared->Prop),Q ((vs[i]?).map λv=>(v,sl (i+1))) s->wpAny (model prog w) A (setNext a (sl i) i ep) Q E s):
  Walks prog w A it [it,a] [it] vs.length (λi v=>vs[i]? =some v) (λi h=>i<=es.size/\h.get? it=some (lU (.int (sl i) 0) i a es.size ep)/\h.get? a=some o) where
 sub:=λb hb=>by simp at hb;simp[hb]
 frame:=λ_ _ _ st l=>⟨st.1,l it (by simp) _ st.2.1,l a (by simp) _ st.2.2⟩
 item:=λi s Q E hi st d=>by
  have e:vs[i]? =some vs[i]:=by simp[hi]
  refine NF (x:=vs[i]) (nx:=sl (i+1)) st.2.1 st.2.2 hd j (λA E Q q=>hN i st.1 s st.2.2 A E Q (by rw[e];exact q)) λh' g k=>?_;refine d _ h' s.toks e ⟨by lia,g,(k.2 a f).trans st.2.2⟩ λb u hb e=>(k.2 b (by simpa using hb)).trans e
 done:=λs Q E st d=>by
  rw[c]at st;refine zP m st.2.1 st.2.2 hd j (λA E Q q=>hN es.size (aGy _) s st.2.2 A E Q (by rw[List.getElem?_eq_none (by lia)];exact q)) λh' k=>?_;exact d h' s.toks λb u hb e=>k b u (by simpa using hb) e
 self:=λ_ _ _ _ st d=>yA st.2.1 d
theorem LH(r:A.handled=none){it a tp:Addr}(d:a≠it)(f:tp≠it){o:Obj}{ep:Nat}{t:SetTable}(hd:o.data= .set es ep t)(m:t.fits es.size=true)(ns:List Nat)(vs:List Value)(n:ns.length=vs.length)
  (y:∀(i p:Nat),ns[i]? =some p->(es[p]?).map (·.2)=vs[i]?):
  Walks prog w A it [it,a,tp] [it] vs.length (λi v=>vs[i]? =some v) (λi h=>h.get? it=some (lU (.ref tp) i a es.size ep)/\h.get? a=some o/\h.IsTuple tp (ns.map λ(k:Nat)=>rawInt k).toArray) where
 sub:=λb hb=>by simp at hb;simp[hb]
 frame:=λ_ _ _ st j=>⟨j it (by simp) _ st.1,j a (by simp) _ st.2.1,st.2.2.at λo e=>j tp (by simp) o e⟩
 item:=λi s Q E hi st c=>by
  have e:vs[i]? =some vs[i]:=by simp[hi]
  have l:i<ns.length:=by lia
  have q:ns[i]? =some ns[i]:=by simp[l]
  refine ND (x:=vs[i]) st.1 st.2.1 hd m st.2.2 q (by rw[y i _ q,e]) λh' g k=>?_;refine c _ h' s.toks e ⟨g,(k.2 a d).trans st.2.1,st.2.2.extBut k.extBut f⟩ λb u hb e=>(k.2 b (by simpa using hb)).trans e
 done:=λs Q E st c=>by
  refine zO r st.1 st.2.1 hd m st.2.2 (by rw[List.getElem?_eq_none (by lia)]) λh' k=>?_;exact c h' s.toks λb u hb e=>k b u (by simpa using hb) e
 self:=λ_ _ _ _ st c=>yA st.1 c
end
section
variable {prog:Program}{w:World}{K:Type}[DecidableEq K]{knd:KeyKind prog w K}{A:Around}{E:aL2}{s:Shared}
def Vof(knd:KeyKind prog w K)(ks:List K)(vs:List Value):Prop:=∃ps:List (K×Value),ps.map (·.2)=vs/\(ps.map (·.1)).Perm ks/\∀p∈ps,knd.is p.1 p.2=true
theorem Es.vof{b:Array (Int×Value)}{ks:List K}(h:Es knd b ks){l:List (Int×Value)}(p:l.Perm b.toList):Vof knd ks (l.map (·.2)):=by
 obtain⟨ps,d,e,f⟩:=h;obtain⟨a,c,g⟩:=rN (·.2) p ps d.symm;refine⟨a.map λp=>(p.1,p.2.2),by rw[<-g];simp,?_,λp i=>?_⟩
 ·have:=(c.map (·.1)).trans e;simpa[Function.comp_def] using this
 ·obtain⟨q,j,rfl⟩:=aH5.mp i;exact(f q (c.mem_iff.mp j)).1
structure ItS(prog:Program)(w:World)(knd:KeyKind prog w K)(ks:List K)(a:Addr)(s s2:Shared)(I:Addr):Prop where
 kept:∀b u,s.heap.get? b=some u->s2.heap.get? b=some u
 new:s.heap.objs.size<=I
 same:s2.gens=s.gens/\s2.os=s.os/\s2.toks=s.toks
 walk:∃(fp:List Addr) (St:Nat->Heap->Prop) (vs:List Value),(∀A:Around,A.handled=none->Walks prog w A I fp [I] vs.length (λi v=>vs[i]? =some v) St)/\St 0 s2.heap/\(∀b∈fp,(b=a\/s.heap.objs.size<=b)/\b<s2.heap.objs.size)/\Vof knd ks vs
theorem N8{a:Addr}{ks:List K}{Q:aL2}(G:gU knd (iD w) s.heap a ks)(h:∀I s2,ItS prog w knd ks a s s2 I->Q (.ref I) s2):wpAny (model prog w) A (pyIter (.ref a)) Q E s:=by
 have H:=G.typeIs;obtain⟨o,c,ep,t,ho,hex,hd,he,nd,hb,g,ht⟩:=G;have f:=aH4 ho;refine aJc H F.slot_set_iter (aHe F.slot_set_iter H vL ?_ (F.args_set_iter_1 _));unfold Builtin.«frozenset.__iter__»;refine aGs (m:=Builtin.Frozenset.slot0 "__iter__" _) (aGu ?_);refine aGs ?_;unfold Builtin.Frozenset.sizeOf;refine aGs (aJ1 ho hd g (aGu ?_));refine aGs ?_;unfold setDrawn;refine aGs (aJ0 ho hd g ?_);dsimp only;refine aGs (i5 (aGu ?_));show wpAny _ _ (if (!w.params.followText "set-order" && (!t.plain && decide (c.size > 1)))=true then _ else _) _ _ s;have P:=he.size;by_cases l:(!w.params.followText "set-order" && (!t.plain && decide (c.size > 1)))=true
 ·rw[if_pos l];refine aGs (yH c.size (List.range c.size) s _ (by simp) λns d p=>?_)
  have hsz:(ns.map λ(i:Nat)=>rawInt i).length<=sizeLine:=by
   have:=p.length_eq;have:=fits_of_scanBound hb;simp at*;lia
  refine aGs (aJh ?_ hsz);dsimp only;refine aGs (m:=setEpoch a) (wpAny_setEpoch_of (o:=o) (aGv _ ho) hd g ?_);refine aGs (m:=newFields "set_iterator" _) (aHk ?_ (by size_fits));refine aGu ⟨_,rfl,"set_iterator",_,⟨_,aH0 _ rfl,rfl⟩,slot_next.lookup,?_⟩;refine h _ _ ⟨λb u e=>aGv _ (aGv _ e),by simp[Heap.size_push],⟨rfl,rfl,rfl⟩,?_⟩;have C:∀k∈ns,k<c.size:=λk B=>by simpa using p.mem_iff.mp B
  have r:(ns.filterMap λk=>c[k]?).Perm c.toList:=by
   have J:=p.filterMap λk=>c[k]?;have M:(List.range c.size).filterMap (λk=>c[k]?)=c.toList:=by simpa using xI c.toList
   rw[M]at J;exact J
  have v:(ns.filterMap λk=>c[k]?).length=ns.length:=by
   have:=r.length_eq;have:=p.length_eq;simp at*;lia
  have x:∀(ns:List Nat),(∀k∈ns,k<c.size)->∀(i n:Nat),ns[i]? =some n->c[n]? =(ns.filterMap λk=>c[k]?)[i]? :=by
   intro ns
   induction ns with
   | nil=>intro _ i n hi;simp at hi
   | cons k ns ih=>
    intro L i n hi;have B:=L k (by simp)
    cases i with
    | zero=>simp at hi;subst hi;simp[B]
    | succ i=>
     simp at hi;rw[ih (λj N=>L j (by simp[N])) i n hi];simp[B]
  refine⟨_,_,(ns.filterMap λk=>c[k]?).map (·.2),λA y=>LH (tp:=s.heap.objs.size) y ?_ ?_ hd g ns _ (by simp[v]) λi n hi=>by rw[x ns C i n hi,List.getElem?_map],⟨aH0 _ rfl,aGv _ (aGv _ ho),?_⟩,?_,he.vof r⟩
  ·rw[Heap.size_push];exact aHc (aI0 f)
  ·rw[Heap.size_push];exact aHc (aIl _)
  ·exact⟨_,aGv _ (aH0 _ rfl),rfl,_,rfl⟩
  ·intro b hb;simp only[List.mem_cons,List.not_mem_nil,or_false]at hb;simp only[Heap.size_push];rcases hb with rfl | rfl | rfl
   ·exact⟨.inr (by simp only[Heap.size_push];exact aKt _),by simp only[Heap.size_push];exact aIl _⟩
   ·exact⟨.inl rfl,aI0 (aI0 f)⟩
   ·exact⟨.inr (aGy _),aI0 (aIl _)⟩
 ·rw[if_neg l];refine aGs (aGu ?_);refine aGs (m:=setEpoch a) (wpAny_setEpoch_of ho hd g ?_);refine aGs (m:=newFields "set_iterator" _) (aHk ?_ (by size_fits));refine aGu ⟨_,rfl,"set_iterator",_,⟨_,aH0 _ rfl,rfl⟩,slot_next.lookup,?_⟩;refine h _ _ ⟨λb u e=>aGv _ e,aGy _,⟨rfl,rfl,rfl⟩,?_⟩;have z:a≠s.heap.objs.size:=aHc f
  cases hbt:w.params.followText "set-order" with
  | true=>
   have r:=uT (w.params.setOrder a ep) c;refine⟨_,_,(pickOrder (w.params.setOrder a ep) c).toList.map (·.2),λA y=>BG y z hd g (λ_=>0) _ (by have:=r.length_eq;simp at*;lia) λi hi O D A E Q q=>JL D hd g hbt (by simpa[Function.comp_def] using q),⟨by lia,aH0 _ rfl,aGv _ ho⟩,?_,he.vof r⟩;intro b hb;simp only[List.mem_cons,List.not_mem_nil,or_false]at hb;simp only[Heap.size_push];rcases hb with rfl | rfl
   ·exact⟨.inr (aGy _),aIl _⟩
   ·exact⟨.inl rfl,aI0 f⟩
  | false=>
   have p:(!t.plain && decide (c.size > 1))=false:=by
    rw[hbt]at l;simpa using l
   refine⟨_,_,c.toList.map (·.2),λA y=>BG y z hd g (uC t) _ (by simp) λi hi O D A E Q q=>E9 D hd g ht hbt (by simp[iD,hbt]) p hi (by simpa[Function.comp_def] using q),⟨by lia,aH0 _ rfl,aGv _ ho⟩,?_,he.vof (.refl _)⟩;intro b hb;simp only[List.mem_cons,List.not_mem_nil,or_false]at hb;simp only[Heap.size_push];rcases hb with rfl | rfl
   ·exact⟨.inr (aGy _),aIl _⟩
   ·exact⟨.inl rfl,aI0 f⟩
end
open PySem.Calls
section
variable {prog:Program}{w:World}{K:Type}[DecidableEq K]{knd:KeyKind prog w K}{A:Around}{E:aL2}{s:Shared}{a:Addr}{ks:List K}
theorem OI{Q:Bool->Shared->Prop}(e:s.TypeIs (.ref a) "set")(h:Q false s):wpAny (model prog w) A (Builtin.List.listLengthHint (.ref a)) Q E s:=by
 unfold Builtin.List.listLengthHint;refine aGs (aKf e PySem.F.slot_set_len.lookup ?_);generalize d:("set.__len__":String)=id0
 wp_delta
 rw[show splitId id0=some ("set","__len__") from by subst d;decide+kernel];subst d;refine aGs (aJl (T:= "set") (b:=true) e (by rw[isSubtype_type];kernel_rfl) ?_);refine aKg (λc=>absurd c (by decide)) (λ_=>?_);refine aKg (λ_=>?_) (λc=>absurd (by decide+kernel) c);refine aGs (aIq e ?_);exact aGu h
theorem N9{vs:List Value}{a:Array Value}(h:ItemsOf (λi v=>vs[i]? =some v) a vs.length):a=vs.toArray:=by
 apply Array.ext_getElem?;intro i;by_cases hi:i<vs.length
 ·have QC:i<a.size:=by rw[h.1];exact hi
  have:=h.2 i a[i] (by simp[QC]);simp[QC,this]
 ·simp[hi,h.1]
theorem EX{R:Result->Shared->Prop}(y:gU knd (iD w) s.heap a ks)(D:A.handled=none)(S:Addr)(n:S≠a)(res:Value)(j:Nat)(p:s.heap.get? S=some {cls:= .type "list",data:= .seq #[] j})
  (J:∀(d :Shared) (vs:List Value) (m :Nat),Vof knd ks vs->d.gens=s.gens->d.os=s.os->(∀b o,b≠S->s.heap.get? b=some o->d.heap.get? b=some o)->d.heap.get? S=some {cls:= .type "list",dict:=none,data:= .seq vs.toArray m,slots:= #[]}->R (.ok (.ret res)) d)
  (U:ks.length<=sizeLine):
  wpAny (model prog w) A.in1 (Builtin.List.listExtendWith (.ref S) (.ref a) res)
   (λfin d =>match fin with | .done f=>R (.ok f) d | .again m =>m.quiet=true/\codeAny (model prog w) A m R d) (λe d =>R (.error e) d) s:=by
 have q:=aH4 p;unfold Builtin.List.listExtendWith;refine aGs (aIq (T:= "set") y.typeIs ?_);have K:Builtin.List.listSameRef (.ref S) (.ref a)=false:=by simp[Builtin.List.listSameRef,n]
 have L:(Value.type "set"==Value.type "list")=false:=by decide
 have M:(Value.type "set"==Value.type "tuple")=false:=by decide
 simp only[K,L,M,Bool.or_false,Bool.false_eq_true,if_false];refine aGs (N8 y λI s2 it=>?_);obtain⟨fp,St,vs,W,st,B,vof⟩:=it.walk
 have E:vs.length=ks.length:=by
  obtain⟨ps,N,O,_⟩:=vof;have:=aHu List.length N;have:=O.length_eq;simp at*;lia
 have r:S∉fp:=λt=>by
  rcases(B S t).1 with z | z
  ·exact n z
  ·exact absurd q (Nat.not_lt.mpr z)
 have key:∀(h:Heap) (g G:Nat),St 0 h->(∀b o,b≠S->s.heap.get? b=some o->h.get? b=some o)->
   h.get? S=some {cls:= .type "list",data:= .seq #[] g}->codeAny (model prog w) A (.builtin "list.extend.loop" ⟨[.ref S,.ref I,res],[]⟩) R {s2 with heap:=h,toks:=G}:=by
  intro h g G C P c;refine codeAny_extend_loopS (W A.in1 D).toS (by lia) S r res vs.length 0 _ #[] g rfl (aI8 _) C c (ItemsOf.nil _) λd H m t u v=>?_;rw[N9 v]at u;refine J d vs m vof (t.gens.trans it.same.1) (t.os.trans it.same.2.1) (λb o hb e=>t.heap b o (λhmem=>?_) (P b o hb e)) u;rcases aH2.mp hmem with Q | hmem
  ·exact hb Q
  ·rw[List.mem_singleton.mp hmem]at e;exact absurd (aH4 e) (Nat.not_lt.mpr it.new)
 have c:=it.kept _ _ p;have k:gU knd (iD w) s2.heap a ks:=y.keep λo e=>it.kept _ _ e;refine aGs (aHo (OI k.typeIs ?_));refine aKg (λ_=>?_) (λ_=>aGu ⟨aIn PySem.F.plain_extend_loop _,key s2.heap j s2.toks st (λb o _ e=>it.kept _ _ e) c⟩);refine aGs (aI2 ?_);refine aGs ?_;show wpAny _ _ (updateSeq S (·.push .none) >>=λ_=>updateSeq S (·.pop)) _ _ _;refine aGs (aI5 c rfl ?_);have i:=aHs (Obj.mapSeq (·.push Value.none)) c rfl;refine aI5 (hz:=by seq_fits) i rfl ?_;have l:=aHs (Obj.mapSeq (·.pop)) i rfl;refine aGu ⟨aIn PySem.F.plain_extend_loop _,key _ _ s2.toks ?_ (λb o hb e=>?_) l⟩
 ·refine(W A.in1 D).frame 0 _ _ st λb hb o e=>?_;have x:b≠S:=λh=>r (h▸hb);exact(aHq _ _ (aHv x)).trans ((aHq _ _ (aHv x)).trans e)
 ·exact(aHq _ _ (aHv hb)).trans ((aHq _ _ (aHv hb)).trans (it.kept _ _ e))
theorem BS{R:List Value->Shared->Prop}(p:gU knd (iD w) s.heap a ks)(r:A.handled=none)(t:ks.length<=sizeLine)
  (h:∀(c :Shared) (vs:List Value),Vof knd ks vs->c.gens=s.gens->c.os=s.os->(∀b o,s.heap.get? b=some o->c.heap.get? b=some o)->R vs c):
  wpAny (model prog w) A (collect (.ref a)) R E s:=by
 have n:a<s.heap.objs.size:=by obtain⟨o,_,_,_,ho,_⟩:=p;exact aH4 ho
 unfold collect;refine aGs (wpAny_runValue (aI3 PySem.F.entry_proto_collect ?_));rw[Around.under_plainId PySem.F.plain_proto_collect _];show wpAny _ A.in1 (newList [] >>=λl=>again (.builtin "list.__iadd__" ⟨[l,.ref a],[]⟩)) _ _ s;refine aGs (aHk ?_);refine aGu ⟨aIn PySem.F.plain_list_iadd _,aI3 PySem.F.entry_list_iadd ?_⟩;rw[Around.under_plainId PySem.F.plain_list_iadd _];have g:(s.heap.push {cls:= .type "list",data:= .seq ([]:List Value).toArray}).get? s.heap.objs.size=some {cls:= .type "list",data:= .seq #[]}:=aH0 _ rfl;show wpAny _ A.in1 (Builtin.List.listExtendWith (.ref s.heap.objs.size) (.ref a) (.ref s.heap.objs.size)) _ _ _
 have key:=EX (A:=A) (s:={s with heap:=s.heap.push {cls:= .type "list",data:= .seq ([]:List Value).toArray}}) (knd:=knd) (ks:=ks)
  (R:=λ(q:Result) (c :Shared)=>∃(vs:List Value) (i :Nat),q= .ok (.ret (.ref s.heap.objs.size))/\Vof knd ks vs/\c.gens=s.gens/\c.os=s.os/\
   (∀b o,s.heap.get? b=some o->c.heap.get? b=some o)/\c.heap.get? s.heap.objs.size=some {cls:= .type "list",dict:=none,data:= .seq vs.toArray i,slots:= #[]})
  (p.keep λo e=>aGv _ e) r s.heap.objs.size (aJj n) (.ref s.heap.objs.size) 0 g
  (λc vs i j hg ho k d =>⟨vs,i,rfl,j,hg,ho,λb o e=>k b o (aHc (aH4 e)) (aGv _ e),d⟩) t
 refine aIg key (λfin c x=>?_) λe c x=>?_
 ·cases fin with
  | done f=>
   obtain⟨vs,i,e,j,hg,ho,k,d⟩:=x;cases e;show wpAny _ A (load s.heap.objs.size >>=_) _ _ _;refine aGs (aKn d ?_);exact aGu (by simpa using h c vs j hg ho k)
  | again c₁=>
   refine⟨x.1,aJk x.2 λq m y=>?_⟩;obtain⟨vs,i,rfl,j,hg,ho,k,d⟩:=y;show wpAny _ A (load s.heap.objs.size >>=_) _ _ _;refine aGs (aKn d ?_);exact aGu (by simpa using h m vs j hg ho k)
 ·obtain⟨_,_,u,_⟩:=x;cases u
end
end ST
namespace L2
open PySem PySem.Spec PyProof.Rows
def lZ:List (Str×NameKind)->List (Str×Addr)->List (Str×Addr)->List (Str×Addr)
 | [],_,acc=>acc
 | (n,k)::r,cells,acc=>lZ r cells (if k== .free then (n,(cells.lookup n).getD 0)::acc else acc)
theorem yM{env:Env}:∀(names:List (Str×NameKind)) (b:List (Str×Addr)),(∀x∈names,x.2= .free->∃c,env.cells.lookup x.1=some c)->
  (forIn names b λ(x:Str×NameKind) (f:List (Str×Addr))=>(if (x.2==NameKind.free)=true then do let a<-cellOf env x.1;pure (ForInStep.yield ((x.1,a)::f)) else pure (ForInStep.yield f):Sem _))=(pure (lZ names env.cells b):Sem _)
 | [],b,_=>by simp[lZ]
 | (n,k)::r,b,h=>by
  have g:=λd =>yM (env:=env) r d λx j=>h x (aGx _ j);rw[List.forIn_cons];by_cases i:k= .free
  ·subst i;obtain⟨c,l⟩:=h (n,.free) aGw rfl;have e :env.cells.lookup n=some c:=l;simp only[lZ,beq_self_eq_true,if_true,cellOf,e,pure_bind,Option.getD_some];exact g _
  ·have hb:(k==NameKind.free)=false:=by simpa using i
   simp only[lZ,hb,Bool.false_eq_true,if_false,pure_bind];exact g _
variable{scope:Scope}{env:Env}
theorem wK(h:∀x∈scope.names,x.2= .free->∃c,env.cells.lookup x.1=some c):closureFor scope env=pure (lZ scope.names env.cells []):=by
 have e:=yM (env:=env) scope.names [] h;unfold closureFor;simp only[bind_pure_comp]at e⊢
 first
  | (rw[<-e];rfl)
  | (simp at e⊢;rw[<-e];rfl)
  | (simp at e⊢;exact e)
theorem yN{cells:List (Str×Addr)}{P:Str->Addr->Prop}:∀(names:List (Str×NameKind)) (a:List (Str×Addr)),(∀x∈a,P x.1 x.2)->(∀n,(n,NameKind.free)∈names->P n ((cells.lookup n).getD 0))->∀x∈lZ names cells a,P x.1 x.2
 | [],a,h,_,x,hx=>h x hx
 | (n,k)::r,a,h,b,x,hx=>by
  refine yN (cells:=cells) r _ (λy hy=>?_) (λm d=>b m (aGx _ d)) x hx;by_cases c:k= .free
  ·subst c;simp only[beq_self_eq_true,if_true]at hy;rcases aH2.mp hy with rfl | hy
   ·exact b n aGw
   ·exact h y hy
  ·have hb:(k==NameKind.free)=false:=by simpa using c
   simp only[hb,Bool.false_eq_true,if_false]at hy;exact h y hy
theorem fE{α:Type}:∀{l:List (Str×α)} {n:Str} {c:α},(n,c)∈l->∃a,l.lookup n=some a
 | (k,v)::r,n,c,h=>by
  rw[List.lookup_cons]
  cases hb:n==k with
  | true=>exact⟨v,rfl⟩
  | false=>
   rcases aH2.mp h with e | h
   ·injection e with b _;rw[b]at hb;simp at hb
   ·exact fE h
theorem r6{cells:List (Str×Addr)}:∀(names:List (Str×NameKind)) (a:List (Str×Addr)) (x:Str×Addr),x∈a->x∈lZ names cells a
 | [],_,_,h=>h
 | (n,k)::r,a,x,h=>by
  refine r6 r _ x ?_;by_cases b:(k==NameKind.free)=true
  ·rw[if_pos b];exact aGx _ h
  ·rw[if_neg b];exact h
theorem yO{cells:List (Str×Addr)}:∀(names:List (Str×NameKind)) (a:List (Str×Addr)) (n:Str),(n,NameKind.free)∈names->∃c,(n,c)∈lZ names cells a
 | (m,k)::r,a,n,h=>by
  rcases aH2.mp h with e | h
  ·injection e with b d;subst b d;exact⟨(cells.lookup n).getD 0,r6 r _ _ (by simp)⟩
  ·exact yO r _ n h
theorem pI{x:Str}{b :NameKind}:(relabel scope env).names.lookup x=some b ->∃k,scope.names.lookup x=some k/\(b =k\/(k= .free/\b = .cell)):=by
 unfold relabel;dsimp only;generalize scope.names=l
 induction l with
 | nil=>intro h;simp at h
 | cons p r ih=>
  obtain⟨n,k⟩:=p;intro h;rw[List.map_cons]at h;by_cases a:(k==NameKind.free && env.scope.kind== .function && env.kindOf n==some .cell)=true
  ·simp only[a,if_true,List.lookup_cons]at h⊢
   cases hb:x==n with
   | true=>
    rw[hb]at h;simp only[Bool.and_eq_true,beq_iff_eq]at a;exact⟨k,rfl,.inr ⟨a.1.1,(aHd h).symm⟩⟩
   | false=>rw[hb]at h;exact ih h
  ·have c :(k==NameKind.free && env.scope.kind== .function && env.kindOf n==some .cell)=false:=by simpa using a
   simp only[c,Bool.false_eq_true,if_false,List.lookup_cons]at h⊢
   cases hb:x==n with
   | true=>rw[hb]at h;exact⟨k,rfl,.inl (aHd h).symm⟩
   | false=>rw[hb]at h;exact ih h
theorem zF{x:Str}:scope.names.lookup x=some .free->(relabel scope env).names.lookup x=some .cell\/(relabel scope env).names.lookup x=some .free:=by
 unfold relabel;dsimp only;generalize scope.names=l
 induction l with
 | nil=>intro h;simp at h
 | cons p r ih=>
  obtain⟨n,k⟩:=p;intro h;rw[List.map_cons];rw[List.lookup_cons]at h
  cases hb:x==n with
  | true=>
   rw[hb]at h;have c:k= .free:=aHd h;subst c;by_cases b:(NameKind.free==NameKind.free && env.scope.kind== .function && env.kindOf n==some .cell)=true
   ·simp only[b,if_true,List.lookup_cons,hb];first | exact .inl rfl | exact .inl trivial
   ·have a :(NameKind.free==NameKind.free && env.scope.kind== .function && env.kindOf n==some .cell)=false:=by simpa using b
    simp only[a,Bool.false_eq_true,if_false,List.lookup_cons,hb];first | exact .inr rfl | exact .inr trivial
  | false=>
   rw[hb]at h;by_cases b:(k==NameKind.free && env.scope.kind== .function && env.kindOf n==some .cell)=true
   ·simp only[b,if_true,List.lookup_cons,hb];exact ih h
   ·have a :(k==NameKind.free && env.scope.kind== .function && env.kindOf n==some .cell)=false:=by simpa using b
    simp only[a,Bool.false_eq_true,if_false,List.lookup_cons,hb];exact ih h
def bV(X:Cx)(own:List Str)(aO:List Nat)(scope:Scope)(cl:List (Str×Addr))(C:Addr)(fp:List Addr)(s₀:Shared)(H₀:Hp):Cx where
 prog:=X.prog
 w:=X.w
 K:=X.K
 mg:=X.mg
 base:=X.base
 A:=X.A
 N:=own++aO.map λi=>X.N.getD i ""
 s₀:=s₀
 H₀:=H₀
 env:=compEnvC scope cl C X.env
 outer:=X.stack
 stack:=X.stack
 ex:=fp
 fn:=λ_=>false
 calm:=X.calm
 pn:=[]
 xe:=λ_ _=>False
def qQ(own:List Str)(aO:List Nat)(σ:St):St:=own.map (λ_=>none)++aO.map λi=>(σ[i]?).join
def mR(N:List Str)(sc scope:Scope)(aO:List Nat):Bool:=
 scope.kind== .function && scope.names.all (λy=>y.2 != .cell) && scope.names.all (λy=>y.2 != .local || scope.names.lookup y.1==some .local) &&
 scope.names.all (λy=>y.2 != .free || (sc.names.lookup y.1==some .cell || sc.names.lookup y.1==some .free)) &&
 aO.all (λi=>match N[i]? with | some x=>scope.names.lookup x==some .free | none=>false)
structure GN(X:Cx)(scope:Scope)(aO:List Nat):Prop where
 kind:scope.kind= .function
 NB:∀y∈scope.names,y.2≠ .cell
 loc:∀y∈scope.names,y.2= .local->scope.names.lookup y.1=some .local
 fr:∀y∈scope.names,y.2= .free->X.env.kindOf y.1=some .cell\/X.env.kindOf y.1=some .free
 cap:∀i∈aO,∃x,X.N[i]? =some x/\scope.names.lookup x=some .free
variable{X:Cx}
theorem GN.of{scope sc:Scope}{N:List Str}{aO:List Nat}(hN:X.N=N)(b:X.env.scope=sc)(h:mR N sc scope aO=true):GN X scope aO:=by
 subst hN b;unfold mR at h;simp only[Bool.and_eq_true,List.all_eq_true]at h;obtain⟨⟨⟨⟨c,d⟩,f⟩,g⟩,j⟩:=h;refine⟨beq_iff_eq.mp c,λy a z=>?_,λy a z=>?_,λy a z=>?_,λi hi=>?_⟩
 ·have:=d y a;rw[z]at this;exact absurd this (by decide)
 ·have:=f y a;rw[z]at this;simpa using this
 ·have:=g y a;rw[z]at this;have this:(X.env.scope.names.lookup y.1==some NameKind.cell || X.env.scope.names.lookup y.1==some NameKind.free)=true:=by simpa using this
  rcases Bool.or_eq_true_iff.mp this with q | q
  ·exact .inl (beq_iff_eq.mp q)
  ·exact .inr (beq_iff_eq.mp q)
 ·have:=j i hi
  cases e:X.N[i]? with
  | none=>rw[e]at this;simp at this
  | some x=>rw[e]at this;exact⟨x,rfl,beq_iff_eq.mp this⟩
def PTs(X:Cx)(a:List Expr)(t:TT):Prop:=
 ∀(pins:List (Addr×Obj)) (s:Shared) (σ:St) (H:Hp) (Q:Bool->Hp->Prop),Inv X pins σ H s->t σ H Q->
  wpAny (model X.prog X.w) X.A (forIn a true λc r=>if r=true then do let ok<-isTrue c X.env (eval c X.env);pure (ForInStep.yield ok) else pure (ForInStep.yield r)) (TP X pins σ Q) X.xe s
def aEh:TT:=λ_ H Q=>Q true H
theorem RA:PTs X [] aEh:=λ_ _ _ H _ I h=>wpAny_tests_nil ⟨H,I,h⟩
theorem Q9{c:Expr}{t:TT}(h:PT X c t):PTs X [c] t:=λpins s σ H Q I q=>wpAny_tests_one (h pins s σ H Q I q)
def GK(n:Nat)(g:TG):Prop:=∀v σ H Q,g v σ H Q->g v σ H λa H' =>Q a H' /\a.length=σ.length/\∀j,n<=j->a[j]? =σ[j]?
def IT(n:Nat)(g:IP):Prop:=∀vs σ H Q,g vs σ H Q->g vs σ H λa H' =>Q a H' /\a.length=σ.length/\∀j,n<=j->a[j]? =σ[j]?
variable{n i:Nat}
theorem J1(h:i<n):GK n (vG i):=λv σ H Q q=>⟨q,by simp,λj a=>by rw[List.getElem?_set_ne (by lia)]⟩
theorem OX:IT n OY:=λvs σ H Q q=>⟨q.1,q.2,rfl,λ_ _=>rfl⟩
theorem J2{t:TG}{u:IP}(mt:∀v σ H Q b,(∀a H',Q a H' ->b a H')->t v σ H Q->t v σ H b)(d:∀v σ H Q b,(∀a H',Q a H' ->b a H')->u v σ H Q->u v σ H b)(f:GK n t)(g:IT n u):IT n (DF t u):=by
 intro vs σ H Q q;obtain⟨v,r,e,q⟩:=q;refine⟨v,r,e,mt _ _ _ _ _ (λa H' ⟨h,l,k⟩=>?_) (f _ _ _ _ q)⟩;refine d _ _ _ _ _ (λi s ⟨m,o,p⟩=>?_) (g _ _ _ _ h);exact⟨m,o.trans l,λj c=>(p j c).trans (k j c)⟩
theorem OW{n m:Nat}{K:aL1}{u:IP}(h:IT n u):GK n (ZH K m u):=by
 intro v σ H Q q;obtain⟨a,xs,e,b,c,q⟩:=q;exact⟨a,xs,e,b,c,h _ _ _ _ q⟩
theorem FV:∀v σ H Q b,(∀a H',Q a H' ->b a H')->vG i v σ H Q->vG i v σ H b :=λ_ _ _ _ _ h q=>h _ _ q
theorem J3:∀v σ H Q b,(∀a H',Q a H' ->b a H')->OY v σ H Q->OY v σ H b :=λ_ _ _ _ _ h q=>⟨q.1,h _ _ q.2⟩
theorem FW{t:TG}{u:IP}(mt:∀v σ H Q b,(∀a H',Q a H' ->b a H')->t v σ H Q->t v σ H b)(c:∀v σ H Q b,(∀a H',Q a H' ->b a H')->u v σ H Q->u v σ H b):
  ∀v σ H Q b,(∀a H',Q a H' ->b a H')->DF t u v σ H Q->DF t u v σ H b :=by
 intro vs σ H Q b h ⟨v,r,e,q⟩;exact⟨v,r,e,mt _ _ _ _ _ (λa H' d =>c _ _ _ _ _ h d) q⟩
variable{w:World}{A:Around}{R:Result->Shared->Prop}{s:Shared}{pos:Pos}
theorem D4{prog:Program}{k a iter:Expr}{l:List Expr}{it o:Value}(I:Nat->Shared->Prop)
  (p:∀n s,I n s->wpAny (model prog w) A (pyNext it) (λr b=>match r with
   | none=>R (.ok .next) b
   | some v=>wpAny (model prog w) A (letOwnedTupleGo a it v) (λ_ b=>wpAny (model prog w) A (assign a env v) (λ_ f=>
     wpAny (model prog w) A (forIn l true λc r=>if r=true then do let ok<-isTrue c env (eval c env);pure (ForInStep.yield ok) else pure (ForInStep.yield r)) (λok e=>
      if ok=true then wpAny (model prog w) A (eval k env) (λx g=>
       wpAny (model prog w) A (call (.builtin "list.append") [o,x]) (λ_ i=>∃m,m<n/\I m i) (λ_ _=>False) g) (λ_ _=>False) e
      else ∃m,m<n/\I m e) (λ_ _=>False) f) (λ_ _=>False) b) (λ_ _=>False) b) (λ_ _=>False) s)
  (n:Nat) (h:I n s):codeAny (model prog w) A (.compLoop (.ListComp k [⟨a,iter,l,0⟩] scope pos) 0 it o env) R s:=by
 refine codeAny_loop rfl I (λn s y=>?_) n h;show wpAny _ A ((compTurn (.ListComp k [⟨a,iter,l,0⟩] scope pos) 0 it o env).onRaise (λx=>do noteFrame x env;theTreesLotGoes x)) _ _ s;refine wpAny_noted ?_;rw[compTurn_list];refine aGs (wpAny_standAt (aGs (aIg (p n s y) (λr b d=>?_) λ_ _ h' =>h'.elim)))
 cases r with
 | none=>exact aGu d
 | some v=>
  refine aGs (aIg d (λ_ b d=>?_) λ_ _ h' =>h'.elim);refine aGs (aIg d (λ_ f q=>aGs (aIg q (λok e j=>?_) λ_ _ h' =>h'.elim)) λ_ _ h' =>h'.elim)
  cases ok with
  | false=>exact aGu ⟨rfl,j⟩
  | true=>
   exact aGs (aGs (aIg j (λx g t=>aGs (aIg t (λ_ i u=>aGu (aGu ⟨rfl,u⟩)) λ_ _ h' =>h'.elim)) λ_ _ h' =>h'.elim))
def GH(P:Program)(w:World)(p:Addr)(ks:List Key):HO:= .ext λh=>ST.gU (aS P w) (ST.iD w) h p ks
variable{P:Program}{h:Heap}
theorem G7{H:Hp}{p:Addr}{ks:List Key}(x:ST.gU (aS P w) (ST.iD w) h p ks):cH P w H h p (GH P w p ks):=
 ⟨x,by obtain⟨o,_,_,_,ho,_⟩:=x;exact⟨o,ho⟩,λa b q k=>q.keep λo e=>k o e⟩
def aEf:V->Option Key
 | .int i=>some (.inl i)
 | .str x=>some (.inr x)
 | _=>none
abbrev QD(b:Bool)(a:Expr)(c:List Comprehension)(sc:Scope)(pos:Pos):Expr:=match b with
 | false=>.ListComp a c sc pos
 | true=>.SetComp a c sc pos
def cmO(P:Program)(w:World)(b:Bool)(a:Addr)(ys:List V):HO:=match b with
 | false=>.lst ys
 | true=>GH P w a (ST.bS [] (ys.filterMap aEf))
abbrev cmN(b:Bool):Sem Value:=match b with
 | false=>newList []
 | true=>newSet (.type "set")
variable{Q:aL2}
theorem ZS{E:aL2}{b:Bool}(h:∀G:Heap,(∀c o,s.heap.get? c=some o->G.get? c=some o)->G.objs.size=s.heap.objs.size+1->
  (∀H,cH P w H G s.heap.objs.size (cmO P w b s.heap.objs.size []))->Q (.ref s.heap.objs.size) {s with heap:=G}):wpAny (model P w) A (cmN b) Q E s:=by
 cases b with
 | false=>exact aHk (h _ (λc o e=>aGv _ e) (aJi _ _) λH=>⟨aI8 _,[],0,.nil,aH0 _ rfl⟩)
 | true=>
  unfold cmN newSet;exact aGs (ST.i5 (aHk (h _ (λc o e=>aGv _ e) (aJi _ _) λH=>G7 (ST.vI (aH0 _ rfl)))))
theorem PM{prog:Program}{b:Bool}{a:Expr}{e:List Comprehension}{d:Nat}{g:Comprehension}{it c:Value}(j:e[d]? =some g)(ha:g.is_async=0)
  (h0:codeAny (model prog w) A (.compLoop (QD b a e scope pos) d it c env) R s)
  (h:wpAny (model prog w) A (pyIter it) (λf i =>codeAny (model prog w) A (.compLoop (QD b a e scope pos) d f c env) R i) (notedBy (model prog w) A env λx i =>R (.error x) i) s):
  codeAny (model prog w) A (.compStart (QD b a e scope pos) d it c env) R s:=by
 have k:clausesOf (QD b a e scope pos)=e:=by cases b <;> rfl
 have hd:(model prog w).den (.compStart (QD b a e scope pos) d it c env)=(compStart (QD b a e scope pos) d it c env).onRaise (λx=>do noteFrame x env;standAt theWindowsPlace):=by cases b <;> rfl
 refine aKe ?_;rw[hd];have l:A.under (.compStart (QD b a e scope pos) d it c env)=A:=by cases b <;> rfl
 rw[l];refine wpAny_notedAt ?_;unfold compStart;rw[k,j];simp only[Option.elim,ha,bne_self_eq_false,Bool.false_eq_true,if_false];refine aGs (aK9 (wpAny_ite ?_));split
 ·exact aGu (And.intro rfl h0)
 ·exact aGs (aI2 (aGs (wpAny_standAt (aGs (aIg h (λf i h' =>aGu (And.intro rfl h')) λ_ _ x=>x)))))
abbrev TBd:=List V->St->Hp->(List V->Hp->Prop)->Prop
def aB6(P:Program)(w:World)(b:Bool)(own:List Str)(aO:List Nat)(wi:TI)(g:TG)(tt:TT)(j:Addr->TBd):TE:=λσ H Q=>wi σ H λJ e=>∀a,e a=none->
 ∃W:Nat->Nat->List V->Hp->Prop,(∃m,W 0 m [] (upd e a (cmO P w b a [])))/\∀i m ys H,W i m ys H->H a=some (cmO P w b a ys)/\
  ((J.stop i H/\Q (.ref a) H)\/(J.go i H/\∃N:List V->Hp->Prop,(∀c H',N c H' ->∃f,f<m/\W (i+1) f c H')/\
   ∀x H',J.yld i H x H' ->g x (qQ own aO σ) H' λd k=>tt d k λb h=>if b=true then j a ys d h N else N ys h))
def tbE(te:TE)(a:Addr):TBd:=λys σ H N=>ys.length<sizeLine/\te σ H λy b=>b a=some (.lst ys)/\N (ys++[y]) (upd b a (.lst (ys++[y])))
def tLC(own:List Str)(aO:List Nat)(wi:TI)(g:TG)(tt:TT)(te:TE):TE:=λσ H Q=>∀P w,aB6 P w false own aO wi g tt (tbE te) σ H Q
variable{pins:List (Addr×Obj)}{use:Option (Value->Sem Unit)}
theorem KH{bm:Bool}{tg iter elt:Expr}{l:List Expr}{more:List Comprehension}{scope sc:Scope}{N:List Str}{wi:TI}{g:TG}{tt:TT}{tb:Addr->TBd}(own:List Str)(o1:Nat)(aO:List Nat)(B:Env->Addr->(Shared->Prop)->Shared->Prop)
  (hN:X.N=N) (hsc:X.env.scope=sc) (chk:mR N sc scope aO=true) (hcalm:X.calm=true) (hi:PI X tg iter wi) (ho1:o1<=own.length) (ho:GK o1 g)
  (hg:∀cl C fp s₀ H₀,PG (bV X own aO scope cl C fp s₀ H₀) tg g) (ht:∀cl C fp s₀ H₀,PTs (bV X own aO scope cl C fp s₀ H₀) l tt)
  (hbody:∀D cl C fp s₀ H₀ pins s σ H ys NN K,Inv (bV X own aO scope cl C fp s₀ H₀) pins σ H s->(∀j,o1<=j->j<own.length->σ[j]? =some none)->tb D ys σ H NN->
   (∀E H' s',Inv (bV X own aO scope cl C fp s₀ H₀) pins σ H' s' ->NN E H' ->K s')->B (compEnvC scope cl C X.env) D K s)
  (hloop:∀(it D:Addr) (env:Env) (R:Result->Shared->Prop) (I:Nat->Shared->Prop),(∀n s,I n s->wpAny (model X.prog X.w) X.A (pyNext (.ref it)) (λr O=>match r with
   | none=>R (.ok .next) O
   | some v=>wpAny (model X.prog X.w) X.A (letOwnedTupleGo tg (.ref it) v) (λ_ O=>wpAny (model X.prog X.w) X.A (assign tg env v) (λ_ s₂=>
     wpAny (model X.prog X.w) X.A (forIn l true λc r=>if r=true then do let ok<-isTrue c env (eval c env);pure (ForInStep.yield ok) else pure (ForInStep.yield r)) (λok s₃=>
      if ok=true then B env D (λs=>∃m,m<n/\I m s) s₃ else ∃m,m<n/\I m s₃) (λ_ _=>False) s₂) (λ_ _=>False) O) (λ_ _=>False) O) (λ_ _=>False) s)->
   ∀n s,I n s->codeAny (model X.prog X.w) X.A (.compLoop (QD bm elt (⟨tg,iter,l,0⟩::more) scope pos) 0 (.ref it) (.ref D) env) R s)
  (hs:∀x,foldedSetIterable iter X.env x=pure x)   {σ:St} {H:Hp} {Q:VK}  {Q' :aL2} (I:Inv X pins σ H s) (h:aB6 X.prog X.w bm own aO wi g tt tb σ H Q)
  (hend:∀(D C:Addr) (m:aL4) (H5:Hp) (s6:Shared) (r:Flow),Inv X pins σ H5 s6->H5 C=none->C≠X.env.locals->X.s₀.heap.objs.size<=C->(∀x c,X.env.cells.lookup x=some c->c≠C)->(∀p∈X.pn++pins,p.1≠C)->s6.heap.Ns C m->Q (.ref D) H5->
   compPost (model X.prog X.w) X.A X.xe use Q' (.ref D) C (.ok r) s6):
  wpAny (model X.prog X.w) X.A (comprehension (QD bm elt (⟨tg,iter,l,0⟩::more) scope pos) scope X.env (firstIterPos (⟨tg,iter,l,0⟩::more) pos) (cmN bm) (firstAsync (⟨tg,iter,l,0⟩::more)) (firstIter (⟨tg,iter,l,0⟩::more) X.env) use) Q' X.xe s:=by
 have ck:=GN.of hN hsc chk;have hcl:∀x∈scope.names,x.2= .free->∃c,X.env.cells.lookup x.1=some c:=λx hx hf=>I.ok.has x.1 (ck.fr x hx hf);refine wpAny_comprehension_free (use:=use) (cl:=lZ scope.names X.env.cells []) (by cases bm <;> rfl) hs (wK hcl) ck.kind ck.loc (cJ (hi pins s σ H _ I h) λv s1 h1=>cJ h1 λitv s2 h2=>?_);obtain⟨it,fp,tn,J,H2,e,I2,T,st2,f2,hW⟩:=h2;subst e
 refine ZS λG hGk hGs hGo=>(wpAny_newFunctionEnv ck.NB (by intro y hy;simp at hy) (λS U Y=>?_) ck.kind)
 dsimp only at U Y⊢;have hacc0:H2 s2.heap.objs.size=none:=I2.bO.fresh (aGy _);obtain⟨W,⟨m0,w0⟩,turn⟩:=hW s2.heap.objs.size hacc0;have a:Inv X pins σ (upd H2 s2.heap.objs.size (cmO X.prog X.w bm s2.heap.objs.size [])) {s2 with heap:=G}:=I2.laid (t' :=s2.toks) hGk (aGy _) (hGo _);generalize hH3:upd H2 s2.heap.objs.size (cmO X.prog X.w bm s2.heap.objs.size [])=H3 at a w0;generalize hcl' :lZ scope.names X.env.cells []=cl at⊢
 have f:∀x c,cl.lookup x=some c->X.env.cells.lookup x=some c:=λx c e=>by
  have:=yN (cells:=X.env.cells) (P:=λx c=>X.env.cells.lookup x=some c) scope.names [] (by simp) (λn hn=>by
   obtain⟨c,hc⟩:=hcl (n,.free) hn rfl;have hc' :X.env.cells.lookup n=some c:=hc
   rw[hc'];rfl) (x,c) (by rw[hcl'];exact aI1 e)
  exact this
 have F:∀x,scope.names.lookup x=some .free->∃c,cl.lookup x=some c:=λx e=>by
  obtain⟨c,hc⟩:=yO (cells:=X.env.cells) scope.names [] x (aI1 e);rw[hcl']at hc;exact fE hc
 have fpObj:=T.obj _ _ st2;have fpLt:∀b∈fp,b<s2.heap.objs.size:=λb hb=>by obtain⟨o,e,_⟩:=fpObj b hb;exact aH4 e
 have bO:(bV X own aO scope cl G.objs.size fp {s2 with heap:=G} H3).Ok:=by
  refine⟨a.ok.mod,ck.kind,a.ok.glob,a.ok.blt,aGy _,λx y c e1 t=>a.ok.inj x y c (f x c e1) (f y c t),λx hx=>?_,λx c hf _=>absurd hf (by simp[bV]),a.ok.hd,a.ok.frames,.inl rfl,λb hb=>⟨?_,λx c e=>?_⟩,a.bs,aHm a.ok.T5 a.sz,λb o e hb=>?_,λb hb z=>?_,a.stack,a.G3⟩
  ·have hx:(relabel scope X.env).names.lookup x=some .cell\/(relabel scope X.env).names.lookup x=some .free:=hx;rcases hx with q | q
   ·obtain⟨k,hk,z | ⟨z,_⟩⟩:=pI q
    ·exact absurd z.symm (ck.NB _ (aI1 hk))
    ·exact F x (by rw[hk,z])
   ·obtain⟨k,hk,z | ⟨_,z⟩⟩:=pI q
    ·exact F x (by rw[hk,<-z])
    ·cases z
  ·exact aHc (Nat.lt_trans (fpLt b hb) (by show s2.heap.objs.size<G.objs.size;rw[hGs];exact aIl _))
  ·exact(f2 b hb).2.2.2.2.1 x c (f x c e)
  ·rcases(f2 b hb).2.2.2.1 with z | z
   ·exact a.ok.NA b o e z
   ·exact absurd (aHf (aH4 e) (aHm a.ok.T5 z)) (aIe _)
  ·rcases aH2.mp (a.EO b z) with q | q
   ·exact(f2 b hb).2.1 q
   ·exact(f2 b hb).2.2.1 q
 have kept:∀b o,G.get? b=some o->S.get? b=some o:=λb o e=>Y.extBut b o (aHc (aH4 e)) (aGv _ e);have hCn:H3 G.objs.size=none:=a.bO.fresh (aGy _)
 have I4:Inv (bV X own aO scope cl G.objs.size fp {s2 with heap:=G} H3) [] (qQ own aO σ) H3 {s2 with heap:=S,toks:=s2.toks+([]:List (Str×Value)).length}:=by
  refine⟨bO,rfl,a.bare,Un.kept kept,⟨_,U,λi x v e1 t e3=>?_⟩,λx c e=>?_,hCn,λx c e=>a.lV x c (f x c e),λp hp=>absurd hp (by simp[bV]),a.bO.kept kept,by simp[qQ,bV]⟩
  ·have hge:own.length<=i:=by
    refine aJ2 λhlt=>?_;unfold qQ at t;rw[List.getElem?_append_left (by simpa using hlt),List.getElem?_map]at t
    cases q:own[i]? with
    | none=>rw[q]at t;simp at t
    | some z=>rw[q]at t;simp at t
   unfold qQ at t;have Z :(own++aO.map λi=>X.N.getD i "")[i]? =some x:=e1;rw[List.getElem?_append_right hge,List.getElem?_map]at Z;rw[List.getElem?_append_right (by simpa using hge),List.getElem?_map]at t;simp only[List.length_map]at t
   cases q:aO[i-own.length]? with
   | none=>rw[q]at Z;simp at Z
   | some k=>
    rw[q]at Z t;simp only[Option.map_some,Option.some.injEq]at Z t;obtain⟨x',hx',L⟩:=ck.cap k (aH1 q);have ex:x' =x:=by rw[<-Z,List.getD_eq_getElem?_getD,hx'];rfl
    subst ex
    have e2' :σ[k]? =some (some v):=by
     cases w:σ[k]? with
     | none=>rw[w]at t;simp at t
     | some z=>rw[w]at t;simp at t;rw[t]
    have kx:=ck.fr _ (aI1 L) rfl
    have visX:Vis X.env.scope x' :=by
     rcases kx with z | z
     ·exact .inr (.inl z)
     ·exact .inr (.inr z)
    obtain⟨m,hn,hl⟩:=a.loc;obtain⟨u,ru,lk⟩:=hl k x' v hx' e2' visX;refine⟨u,ru,.inr ⟨zF L,?_⟩⟩
    rcases lk with ⟨z,_⟩ | ⟨_,c,hc,hcell⟩
    ·rcases kx with z' | z' <;> (have z'' :=z.symm.trans z';cases z'')
    ·obtain⟨c',hc'⟩:=F x' L;have:=f x' c' hc';rw[hc]at this;cases this;obtain⟨o,ho,hd⟩:=hcell;exact⟨c,hc',⟨o,kept _ _ ho,hd⟩⟩
  ·obtain⟨v,o,ho,hd⟩:=a.cell x c (f x c e);exact⟨v,o,kept _ _ ho,hd⟩
 have st4:tn 0 S:=T.keep _ _ _ st2 λb hb o e=>kept b o (hGk b o e);have fp4:∀b∈fp,H3 b=none:=λb hb=>by rw[<-hH3,aL (Nat.ne_of_lt (fpLt b hb))];exact(f2 b hb).1
 have stat:∀{H' :Hp},(∀b∈fp,H' b=none)->∀b∈fp,oH (bV X own aO scope cl G.objs.size fp {s2 with heap:=G} H3) [] H' b:=λhn b hb=>
  ⟨hn b hb,(bO.exf b hb).1,bO.O3 b hb,.inl hb,(bO.exf b hb).2,λp hp=>absurd hp (by simp[bV])⟩
 have loop:codeAny (model X.prog X.w) X.A (.compLoop (QD bm elt (⟨tg,iter,l,0⟩::more) scope pos) 0 (.ref it) (.ref s2.heap.objs.size) (compEnvC scope cl G.objs.size X.env))
   (compPost (model X.prog X.w) X.A X.xe use Q' (.ref s2.heap.objs.size) G.objs.size) {s2 with heap:=S,toks:=s2.toks+([]:List (Str×Value)).length}:=by
  refine hloop _ _ _ _ (λn s' =>∃i ys H',Inv (bV X own aO scope cl G.objs.size fp {s2 with heap:=G} H3) [] (qQ own aO σ) H' s' /\tn i s'.heap/\(∀b∈fp,H' b=none)/\W i n ys H') ?_ m0 _ ⟨0,[],H3,I4,st4,fp4,w0⟩;rintro n s5 ⟨i,ys,H5,I5,st5,fr5,w5⟩;obtain⟨hacc,turn5⟩:=turn i n ys H5 w5
  rcases turn5 with ⟨stop,q⟩ | ⟨go,NN,hNN,step⟩
  ·refine cJ (T.done (bV X own aO scope cl G.objs.size fp {s2 with heap:=G} H3) rfl rfl rfl hcalm i [] s5 _ H5 (λ_ _=>False) I5 (stat fr5) st5 stop) λr s6 zz0=>?_;obtain⟨hr,I6⟩:=zz0;subst hr;obtain⟨m,hm,_⟩:=id I6.loc
   have I7:Inv X pins σ H5 s6:=a.aD7 (ch:=fp) I6.os I6.base I6.bO I6.bare λb hb=>⟨(f2 b hb).2.2.2.1,(f2 b hb).2.1,λx c e=>(f2 b hb).2.2.2.2.1 x c e,λp hp=>(f2 b hb).2.2.2.2.2 p hp⟩
   exact hend _ _ m H5 s6 _ I7 I6.free (aJj (by have:=a.lt;exact this)) a.sz (λx c e=>by obtain⟨v,z⟩:=a.cell x c e;exact aHc z.lt) (λp hp=>aHc (aH4 (a.pin p hp).1)) hm q
  ·refine cJ (T.item (bV X own aO scope cl G.objs.size fp {s2 with heap:=G} H3) rfl rfl rfl hcalm i [] s5 _ H5 (λ_ _=>False) I5 (stat fr5) st5 go) λr s6 zz1=>?_;obtain⟨u,hr,h6⟩:=zz1;subst hr;refine cJ h6 λ_ s7 zz2=>?_;obtain⟨x,H7,I7,r7,y7,st7,fr7⟩:=zz2;have I7' :=I7.pinned (stat fr7) (T.obj _ _ st7);refine cJ (hg _ _ _ _ _ _ s7 _ H7 x u _ I7' r7 (ho _ _ _ _ (step x H7 y7))) λ_ s8 zz3=>?_;obtain⟨σ8,H8,I8,q8,l8,k8⟩:=zz3;refine cJ (ht _ _ _ _ _ _ s8 σ8 H8 _ I8 q8) λok s9 zz4=>?_;obtain⟨H9,I9,q9⟩:=zz4
   have again:∀{E:List V} {M:Hp} {s10:Shared},Inv (bV X own aO scope cl G.objs.size fp {s2 with heap:=G} H3) ([]++uS fp s7.heap) σ8 M s10->NN E M->
     ∃m,m<n/\∃i ys H',Inv (bV X own aO scope cl G.objs.size fp {s2 with heap:=G} H3) [] (qQ own aO σ) H' s10/\tn i s10.heap/\(∀b∈fp,H' b=none)/\W i m ys H' :=λ{E M s10} I10 n10=>by
    obtain⟨m',hm,w10⟩:=hNN E M n10
    have I10' :Inv (bV X own aO scope cl G.objs.size fp {s2 with heap:=G} H3) ([]:List (Addr×Obj)) (qQ own aO σ) M s10:=I10.oW.weak l8.symm λj v e=>by
     have hge:own.length<=j:=by
      refine aJ2 λhlt=>?_;unfold qQ at e;rw[List.getElem?_append_left (by simpa using hlt),List.getElem?_map]at e
      cases q:own[j]? with
      | none=>rw[q]at e;simp at e
      | some z=>rw[q]at e;simp at e
     rw[k8 j (Nat.le_trans ho1 hge)];exact e
    refine⟨m',hm,i+1,E,M,I10',T.keep _ _ _ st7 λb hb o e=>(I10.pin (b,o) (aHb _ (aHb _ (jH hb e)))).1,λb hb=>?_,w10⟩;obtain⟨o,e,d⟩:=T.obj _ _ st7 b hb;exact(I10.pin (b,o) (aHb _ (aHb _ (jH hb e)))).2.1
   cases ok with
   | false=>exact again I9 q9
   | true=>
    rw[if_pos rfl];refine hbody _ _ _ _ _ _ _ s9 σ8 H9 ys NN _ I9 (λj hj1 hj2=>?_) q9 λE M s10 I10 q10=>again I10 q10;rw[k8 j hj1];unfold qQ;rw[List.getElem?_append_left (by simpa using hj2),List.getElem?_map];simp[hj2]
 exact PM (g:=⟨tg,iter,l,0⟩) (by cases bm <;> rfl) rfl loop (T.self _ 0 _ _ _ st4 loop)
theorem PK{σ:St}{Q:VK}(a C:Addr)(m:aL4)(d:Hp)(f:Shared)(r:Flow)(g:Inv X pins σ d f)(h:d C=none)(i:C≠X.env.locals)(j:X.s₀.heap.objs.size<=C)(k:∀x c,X.env.cells.lookup x=some c->c≠C)(l:∀p∈X.pn++pins,p.1≠C)(n:f.heap.Ns C m)(q:Q (.ref a) d):
  compPost (model X.prog X.w) X.A X.xe none (EP X pins σ Q) (.ref a) C (.ok r) f:=
 ⟨m,n,λh' sb=>⟨.ref a,d,g.turned (t' :=f.toks) (it:=C) (λb o hb e=>sb.extBut b o hb e) h i (.inr j) k l,rfl,q⟩⟩
section
variable {X:Cx}{tg iter elt:Expr}{ifs:List Expr}{scope sc:Scope}{N:List Str}{pos:Pos}{wi:TI}{g:TG}{tt:TT}{te:TE}(own:List Str)(aO:List Nat)
  (hN:X.N=N) (hsc:X.env.scope=sc) (chk:mR N sc scope aO=true) (hcalm:X.calm=true) (hi:PI X tg iter wi) (ho:GK own.length g)
  (hg:∀cl C fp s₀ H₀,PG (bV X own aO scope cl C fp s₀ H₀) tg g) (ht:∀cl C fp s₀ H₀,PTs (bV X own aO scope cl C fp s₀ H₀) ifs tt)
  (he:∀cl C fp s₀ H₀,PE (bV X own aO scope cl C fp s₀ H₀) elt te)
include hN hsc chk hcalm hi ho hg ht he
theorem S0(F:∀x,foldedSetIterable iter X.env x=pure x){σ:St}{H:Hp}{Q:VK}{E :aL2}(I:Inv X pins σ H s)(h:tLC own aO wi g tt te σ H Q)
  (d:∀(a C:Addr) (m:aL4) (f:Hp) (i:Shared) (r:Flow),Inv X pins σ f i->f C=none->C≠X.env.locals->X.s₀.heap.objs.size<=C->(∀x c,X.env.cells.lookup x=some c->c≠C)->(∀p∈X.pn++pins,p.1≠C)->i.heap.Ns C m->Q (.ref a) f->
   compPost (model X.prog X.w) X.A X.xe use E (.ref a) C (.ok r) i):
  wpAny (model X.prog X.w) X.A (comprehension (.ListComp elt [⟨tg,iter,ifs,0⟩] scope pos) scope X.env (firstIterPos [⟨tg,iter,ifs,0⟩] pos) (newList []) (firstAsync [⟨tg,iter,ifs,0⟩]) (firstIter [⟨tg,iter,ifs,0⟩] X.env) use) E X.xe s:=by
 refine KH (bm:=false) own own.length aO (λenv a K s=>wpAny (model X.prog X.w) X.A (eval elt env) (λx G=>wpAny (model X.prog X.w) X.A (call (.builtin "list.append") [.ref a,x]) (λ_ J=>K J) (λ_ _=>False) G) (λ_ _=>False) s)
  hN hsc chk hcalm hi (aGy _) ho hg ht (λa cl C fp s₀ H₀ pins s σ H ys L K M _ q k=>?_) (λit a env R I e n s h=>D4 I e n h) F I (h _ _) d
 refine cJ (he _ _ _ _ _ _ s σ H _ M q.2) λN j l=>?_;obtain⟨y,o,t,O,b,u⟩:=l;refine cJ (xU _ j σ o (.ref a) [y] (.ref a) [N] (λv H' =>v= .b9/\L (ys++[y]) H') t rfl (.cons O .nil) ⟨_,_,_,rfl,rfl,b,q.1,rfl,u⟩) λ_ P z=>?_;obtain⟨_,S,B,_,_,D⟩:=z;exact k _ _ _ B D
theorem aBw(a:∀x,foldedSetIterable iter X.env x=pure x:=by intro _;rfl):PE X (.ListComp elt [⟨tg,iter,ifs,0⟩] scope pos) (tLC own aO wi g tt te):=by
 intro pins s σ H Q I h;rw[eval_ListComp];exact S0 own aO hN hsc chk hcalm hi ho hg ht he a I h PK
end
structure Src where
 it:Addr
 l:Addr
 tup:Bool
def Src.At(q:Src)(h:Heap)(i:Nat):Prop:=match q.tup with | true=>h.IsTupleIter q.it q.l i | false=>h.IsListIter q.it q.l i
def Src.Sq(q:Src)(h:Heap)(items:Array Value):Prop:=match q.tup with | true=>h.IsTuple q.l items | false=>h.IsList q.l items
variable{q:Src}{h':Heap}
theorem Src.At.to(x:q.At h i)(e:∀o,h.get? q.it=some o->h'.get? q.it=some o):q.At h' i:=by
 obtain⟨it,l,t⟩:=q;cases t <;> (obtain⟨o,ho,r⟩:=x;exact⟨o,e o ho,r⟩)
theorem Src.At.obj(x:q.At h i):∃o,h.get? q.it=some o/\o.data= .fields #[.ref q.l,.int i 0]:=by
 obtain⟨it,l,t⟩:=q;cases t <;> (obtain⟨o,ho,_,r⟩:=x;exact⟨o,ho,r⟩)
variable{items:Array Value}
theorem Src.Sq.to(x:q.Sq h items)(e:∀o,h.get? q.l=some o->h'.get? q.l=some o):q.Sq h' items:=by
 obtain⟨it,l,t⟩:=q;cases t <;> (obtain⟨o,ho,r⟩:=x;exact⟨o,e o ho,r⟩)
theorem Src.Sq.obj(x:q.Sq h items):∃o n,h.get? q.l=some o/\o.data= .seq items n:=by
 obtain⟨it,l,t⟩:=q;cases t <;> (obtain⟨o,ho,_,n,r⟩:=x;exact⟨o,n,ho,r⟩)
section
variable {prog:Program}{w:World}{A:Around}{E:aL2}{s:Shared}
theorem sG{it l:Addr}{x:Value}(c:s.heap.IsTupleIter it l i)(g:s.heap.IsTuple l items)(h:items[i]? =some x)
  (j:∀h',h'.IsTupleIter it l (i+1)->Heap.SameBut it s.heap h' ->Q x {s with heap:=h'}):wpAny (model prog w) A (Builtin.SmallTypes.nextOf (.ref it)) Q E s:=by
 obtain⟨k,b,d,a⟩:=id c;obtain⟨os,e,_,ns,f⟩:=g;unfold Builtin.SmallTypes.nextOf;refine aGs (aHj (name:=Str.ofString "__next__") c.typeIs aIt (aHe aIt c.typeIs F.entry_tuple_iterator_next ?_ (F.args_tuple_iterator_next_1 _)));refine aGs (m:=field (.ref it) 0) (aHz b a (x:= .ref l) rfl ?_);show wpAny _ _ (if (Value.ref l==Value.none)=true then _ else field (.ref it) 1 >>=_) _ _ s;rw[if_neg (show ¬((Value.ref l==Value.none)=true) from Bool.false_ne_true)];refine aGs (aHz b a (x:= .int i 0) rfl ?_);refine aGs (m:=seqItems? (.ref l)) (aHx e f ?_);simp only[Int.toNat_natCast,h];refine aGs (aKp b a (by simp) (aGu ⟨x,rfl,aGu (j _ ⟨_,aHs _ b (Obj.isFreed_of_fields (Obj.data_mapFields a _)),(Obj.cls_mapFields ..).trans d,?_⟩ (aHt ..))⟩));rw[Obj.data_mapFields a];simp[rawInt]
theorem uX{it l:Addr}(h:A.handled=none)(b:s.heap.IsTupleIter it l i)(j:s.heap.IsTuple l items)(k:items[i]? =none)
  (n:∀h' e,Heap.ExtBut it s.heap h' ->(∃o,h'.get? e=some o/\o.cls= .type "StopIteration")->E (.ref e) {s with heap:=h'}):wpAny (model prog w) A (Builtin.SmallTypes.nextOf (.ref it)) Q E s:=by
 obtain⟨q,c,p,d⟩:=id b;obtain⟨os,f,_,ns,g⟩:=j;unfold Builtin.SmallTypes.nextOf;refine aGs (aHj (name:=Str.ofString "__next__") b.typeIs aIt (aHe aIt b.typeIs F.entry_tuple_iterator_next ?_ (F.args_tuple_iterator_next_1 _)));refine aGs (m:=field (.ref it) 0) (aHz c d (x:= .ref l) rfl ?_);show wpAny _ _ (if (Value.ref l==Value.none)=true then _ else field (.ref it) 1 >>=_) _ _ s;rw[if_neg (show ¬((Value.ref l==Value.none)=true) from Bool.false_ne_true)];refine aGs (aHz c d (x:= .int i 0) rfl ?_);refine aGs (m:=seqItems? (.ref l)) (aHx f g ?_);simp only[Int.toNat_natCast,k];refine aGs (aI2 (aGs (aKp c d (by simp) ?_)));refine aGs (m:=newExc (.type "StopIteration") []) ?_;simp only[newExc,newTuple];refine aGs (aHk ?_ (by size_fits));refine aGs (m:=firstArgMember _ _) (aJw (a:=Value.none) (by first | rfl | (simp only[firstArgMember];rfl)) ?_);refine aHk (?_:_) (by size_fits);simp only[raiseNew];refine aGs (wpAny_handled (?_:_))
 first | rw[show A.in1.handled=none from h] | rw[h]
 refine aGs (aGu (wpAny_throw (?_:_)));exact n _ _ (((aHt ..).extBut.push _).push _) ⟨_,aH0 _ rfl,rfl⟩
theorem Src.item{x:Value}(a:q.At s.heap i)(b:q.Sq s.heap items)(c:items[i]? =some x)
  (d:∀h',q.At h' (i+1)->Heap.SameBut q.it s.heap h' ->Q x {s with heap:=h'}):wpAny (model prog w) A (Builtin.SmallTypes.nextOf (.ref q.it)) Q E s:=by
 obtain⟨it,l,t⟩:=q;cases t
 ·exact wpAny_nextOf_list_item a b c d
 ·exact sG a b c d
theorem Src.done(b:A.handled=none)(a:q.At s.heap i)(c:q.Sq s.heap items)(d:items[i]? =none)
  (f:∀h' e,Heap.ExtBut q.it s.heap h' ->(∃o,h'.get? e=some o/\o.cls= .type "StopIteration")->E (.ref e) {s with heap:=h'}):wpAny (model prog w) A (Builtin.SmallTypes.nextOf (.ref q.it)) Q E s:=by
 obtain⟨it,l,t⟩:=q;cases t
 ·exact wpAny_nextOf_list_end b a c d f
 ·exact uX b a c d f
theorem Src.start(a:q.Sq s.heap items)
  (c:∀h',(⟨s.heap.objs.size,q.l,q.tup⟩:Src).At h' 0->h'.objs.size=s.heap.objs.size+1->(∀b o,s.heap.get? b=some o->h'.get? b=some o)->Q (.ref s.heap.objs.size) {s with heap:=h'}):wpAny (model prog w) A (pyIter (.ref q.l)) Q E s:=by
 obtain⟨it,l,t⟩:=q;cases t
 ·exact wpAny_pyIter_list a (c _ ⟨_,aH0 _ rfl,rfl,rfl⟩ (aJi ..) λb o e=>aGv _ e)
 ·exact wpAny_pyIter_tuple a (c _ ⟨_,aH0 _ rfl,rfl,rfl⟩ (aJi ..) λb o e=>aGv _ e)
structure fG(h:Heap)(z TI TO:Addr)(qs:List Src)(f0:Value)(i:Nat):Prop where
 obj:h.get? z=some {cls:= .type "zip",dict:=none,data:= .fields #[f0,.bool false,.bool false,.ref TI,.ref TO],slots:= #[]}
 aH:∃n,h.get? TI=some {cls:= .type "tuple",data:= .seq (qs.map λq=>Value.ref q.it).toArray n}
 own:∃(xs:List Value) (n:Nat),xs.length=qs.length/\h.get? TO=some {cls:= .type "tuple",data:= .seq xs.toArray n}
 at_:∀q∈qs,q.At h i
structure dC(z TI TO:Addr)(qs:List Src):Prop where
 ne1:TI≠z
 ne2:TO≠z
 ne3:TI≠TO
 FP:∀q∈qs,q.it≠z/\q.it≠TI/\q.it≠TO
 nd:(qs.map (·.it)).Nodup
 src:∀q∈qs,q.l≠z/\q.l≠TO/\∀r∈qs,q.l≠r.it
end
section
variable {prog:Program}{w:World}{A:Around}{E:aL2}{s:Shared}
structure IU(h0 h:Heap)(z TI TO:Addr)(qs:List Src)(vals:List Value)(i j:Nat):Prop where
 obj:h.get? z=some {cls:= .type "zip",dict:=none,data:= .fields #[.ellipsis,.bool false,.bool false,.ref TI,.ref TO],slots:= #[]}
 own:∃(xs:List Value) (n:Nat),xs.length=qs.length/\xs.take j=vals.take j/\h.get? TO=some {cls:= .type "tuple",data:= .seq xs.toArray n}
 done:∀q∈qs.take j,q.At h (i+1)
 todo:∀q∈qs.drop j,q.At h i
 size:h.objs.size=h0.objs.size
 keep:∀c o,c≠z->c≠TO->(∀q∈qs,c≠q.it)->h0.get? c=some o->h.get? c=some o
theorem K6{z TI TO:Addr}{qs:List Src}{vals:List Value}(D:dC z TI TO qs)(Z:fG s.heap z TI TO qs .none i)(G:qs≠[])
  (hv:vals.length=qs.length) (C:∀(k:Nat) q x,qs[k]? =some q->vals[k]? =some x->∃items,q.Sq s.heap items/\items[i]? =some x) (hsz:qs.length<=sizeLine)
  (hQ:∀h',fG h' z TI TO qs (rawInt s.heap.objs.size) (i+1)->h'.get? s.heap.objs.size=some {cls:= .type "tuple",data:= .seq vals.toArray}->h'.objs.size=s.heap.objs.size+1->
   (∀c o,c≠z->c≠TO->(∀q∈qs,c≠q.it)->s.heap.get? c=some o->h'.get? c=some o)->Q (.ref s.heap.objs.size) {s with heap:=h'}):
  wpAny (model prog w) A (Builtin.«zip.__next__» ⟨[.ref z],[]⟩) (λfin s' =>∃v,fin= .done (.ret v)/\Q v s') E s:=by
 obtain⟨nI,N⟩:=Z.aH;obtain⟨xs0,n0,hx0,hTO⟩:=Z.own;refine aGs (m:=field (.ref z) 2) (aHz Z.obj rfl (x:= .bool false) rfl ?_);refine aGs (m:=field (.ref z) 3) (aHz Z.obj rfl (x:= .ref TI) rfl ?_);refine aGs (m:=seqItems? (.ref TI)) (aHx N rfl ?_)
 have O:(qs.map λq=>Value.ref q.it).toArray.isEmpty=false:=by cases qs with | nil=>exact absurd rfl G | cons a r=>rfl
 simp only[O];refine aGs (m:=Builtin.SmallTypes.ownedTupleIsFree (.ref z)) ?_;refine aGs (m:=field (.ref z) 0) (aHz Z.obj rfl (x:= .none) rfl (aGu ?_));simp only[if_true];refine aGs (aI2 ?_);refine aGs (aHz Z.obj rfl (x:= .ref TO) rfl ?_);refine aGs (aHp Z.obj (by simp) λh1 z1 t=>?_);refine aGs ?_;refine wpAny_forIn_list _ (λF b s' =>b.1=none/\∃j h',s' ={s with heap:=h'}/\F=((qs.map λq=>Value.ref q.it).zipIdx).drop j/\j<=qs.length/\IU s.heap h' z TI TO qs vals i j) _ ?turn ?fin _ _ ?start
 case start=>
  refine⟨rfl,0,h1,rfl,by simp,aI8 _,?_⟩;refine⟨z1,⟨xs0,n0,hx0,by simp,t.extBut _ _ D.ne2 hTO⟩,by simp,λq C=>?_,t.1,λc o f _ _ e=>t.extBut _ _ f e⟩;have P :q∈qs:=by simpa using C
  exact(Z.at_ q P).to λo e=>t.extBut _ _ (D.FP q P).1 e
 case turn=>
  rintro x F b s5 ⟨hb,j,h',rfl,hd,hj,d⟩
  have g:j<qs.length:=by
   refine aKy λhle=>?_;rw[List.drop_eq_nil_of_le (by simpa using hle)]at hd;cases hd
  have R :=hd;rw[List.drop_eq_getElem_cons (by simpa using g)]at R;injection R with ex er;have S:x=(Value.ref qs[j].it,j):=by rw[ex];simp
  have h:qs[j]? =some qs[j]:=aH6 g;have H:vals[j]? =some vals[j]:=aH6 (by lia);generalize hqq:qs[j]=q at h S;generalize hvv:vals[j]'(by lia)=v at H;subst S;have I:q∈qs:=aH1 h;obtain⟨items,hSq,hit⟩:=C j q v h H;obtain⟨l1,l2,l3⟩:=D.src q I;have T :q.Sq h' items:=hSq.to λo e=>d.keep _ o l1 l2 l3 e;have hAt:q.At h' i:=d.todo q (by rw[List.drop_eq_getElem_cons g,hqq];exact aGw);refine aGs (wpAny_onRaise ?_);show wpAny _ _ (Builtin.SmallTypes.nextOf (.ref q.it) >>=_) _ _ _;refine aGs (Src.item (s:={s with heap:=h'}) hAt T hit λY at2 J=>aGu ?_);obtain⟨xs,n,u,y,hO⟩:=d.own;have K:=D.FP q I;have L:Y.get? TO=some {cls:= .type "tuple",data:= .seq xs.toArray n}:=J.extBut _ _ (aHv K.2.2) hO;refine aGs (m:=seqItems? (.ref TO)) (aHx L rfl ?_);refine aGs (aI5 L rfl ?_);refine aGs (wpAny_letGo (aGu ?_))
  have apart:∀(k:Nat) p,qs[k]? =some p->k≠j->p.it≠q.it:=λk p l G e=>by
   have h1:(qs.map (·.it))[k]? =some q.it:=by rw[List.getElem?_map,l];simp[e]
   have Y:(qs.map (·.it))[j]? =some q.it:=by rw[List.getElem?_map,h];rfl
   obtain⟨a1,b1⟩:=aGt.mp h1;obtain⟨a2,b2⟩:=aGt.mp Y;refine G ?_;have pw:=aHw.mp D.nd;rcases aKu k j with hlt | heq | hlt
   ·exact absurd (b1.trans b2.symm) (pw k j a1 a2 hlt)
   ·exact heq
   ·exact absurd (b2.trans b1.symm) (pw j k a2 a1 hlt)
  have up:∀c o,c≠TO->c≠q.it->h'.get? c=some o->(Y.update TO (Obj.mapSeq λx=>x.setIfInBounds j v)).get? c=some o:=λc o f M e=>(aHt ..).extBut _ _ f (J.extBut _ _ M e);refine⟨rfl,j+1,_,rfl,er,g,⟨up _ _ (aHv D.ne2) (aHv K.1) d.obj,⟨xs.set j v,n,by simpa using u,?_,?_⟩,λp U=>?_,λp U=>?_,?_,λc o f M c3 e=>up c o M (c3 q I) (d.keep c o f M c3 e)⟩⟩
  ·have V :vals[j]? =some v:=H;have hjx:j<xs.length:=by lia
   rw[List.take_add_one,List.take_add_one,V,List.getElem?_set_self hjx,List.take_set_of_le (Nat.le_refl j),y]
  ·rw[Heap.get?_update_self _ L (by rfl)];simp[Obj.mapSeq]
  ·rw[List.take_add_one,h]at U;rcases aGz.mp U with z | z
   ·obtain⟨k,l⟩:=aIo z
    have hkj:k<j:=by
     have:=(aGt.mp l).1;rw[List.length_take]at this;lia
    rw[List.getElem?_take_of_lt hkj]at l;exact(d.done p z).to λo e=>up _ o (D.FP p (aH1 l)).2.2 (apart k p l (by lia)) e
   ·have:p=q:=by simpa using z
    subst this;exact at2.to λo e=>(aHt ..).extBut _ _ K.2.2 e
  ·obtain⟨k,l⟩:=aIo U;rw[List.getElem?_drop]at l;have hp' :p∈qs.drop j:=by rw[List.drop_eq_getElem_cons g];exact aGx _ U
   exact(d.todo p hp').to λo e=>up _ o (D.FP p (aH1 l)).2.2 (apart _ p l (by lia)) e
  ·rw[Heap.size_update,J.1];exact d.size
 case fin=>
  rintro⟨b1,b2⟩ s5 ⟨hb,j,h',rfl,hd,hj,d⟩
  have hje:j=qs.length:=by
   have:=aHu List.length hd;simp at this
   lia
  subst hje;have hb' :b1=none:=hb;subst hb';obtain⟨xs,n,u,y,hO⟩:=d.own
  have hxv:xs=vals:=by
   rw[List.take_of_length_le (by lia),List.take_of_length_le (by lia)]at y;exact y
  subst hxv;refine aGs (m:=seqItems? (.ref TO)) (aHx hO rfl ?_);refine aGs (aJh ?_ (by simpa using aHm (Nat.le_of_eq u) hsz));refine aGs (m:=Builtin.SmallTypes.ownedTupleHandOut (.ref z) (.ref h'.objs.size)) ?_;have z5:(h'.push {cls:= .type "tuple",data:= .seq xs.toArray}).get? z=some {cls:= .type "zip",dict:=none,data:= .fields #[.ellipsis,.bool false,.bool false,.ref TI,.ref TO],slots:= #[]}:=aGv _ d.obj;refine aGs (aHp z5 (by simp) λh7 z7 W=>?_);refine aHp z7 (by simp) λh8 z8 X=>aGu ⟨_,rfl,?_⟩;have zlt:z<h'.objs.size:=aH4 d.obj;have up:∀c o,c≠z->(h'.push {cls:= .type "tuple",data:= .seq xs.toArray}).get? c=some o->h8.get? c=some o:=λc o f e=>X.extBut _ _ f (W.extBut _ _ f e);have B:∀c o,c≠z->h'.get? c=some o->h8.get? c=some o:=λc o f e=>up c o f (aGv _ e);show Q (.ref h'.objs.size) _;have hs:=d.size;rw[hs];refine hQ h8 ⟨?_,⟨nI,?_⟩,⟨xs,n,u,B _ _ D.ne2 hO⟩,λq C=>?_⟩ ?_ ?_ λc o f M c3 e=>B c o f (d.keep c o f M c3 e)
  ·rw[z8,hs];rfl
  ·exact B _ _ D.ne1 (d.keep _ _ D.ne1 D.ne3 (λq C=>aHv (D.FP q C).2.1) N)
  ·exact(d.done q (by rw[List.take_length];exact C)).to λo e=>B _ o (D.FP q C).1 e
  ·rw[<-hs];exact up _ _ (aJj zlt) (aH0 _ rfl)
  ·rw[X.1,W.1,Heap.size_push,hs]
end
section
variable {prog:Program}{w:World}{A:Around}{E:aL2}{s:Shared}
variable{qs:List Src}
theorem QH{z TI TO:Addr}{i k:Nat}{Q:PySem.Fin->Shared->Prop}(hh:A.handled=none)(D:dC z TI TO qs)(Z:fG s.heap z TI TO qs .none i)
  (X:∀(j:Nat) q,qs[j]? =some q->j<k->∃items x,q.Sq s.heap items/\items[i]? =some x) (g:∃q items,qs[k]? =some q/\q.Sq s.heap items/\items[i]? =none) (hsz:qs.length<=sizeLine)
  (hE:∀h' e,(∀c o,c≠z->c≠TO->(∀q∈qs,c≠q.it)->s.heap.get? c=some o->h'.get? c=some o)->(∃o,h'.get? e=some o/\o.cls= .type "StopIteration")->E (.ref e) {s with heap:=h'}):
  wpAny (model prog w) A (Builtin.«zip.__next__» ⟨[.ref z],[]⟩) Q E s:=by
 obtain⟨nI,Y⟩:=Z.aH;obtain⟨K,n0,hx0,hTO⟩:=Z.own;obtain⟨qk,W,L,hSk,hik⟩:=g;have hkl:k<qs.length:=(aGt.mp L).1;refine aGs (m:=field (.ref z) 2) (aHz Z.obj rfl (x:= .bool false) rfl ?_);refine aGs (m:=field (.ref z) 3) (aHz Z.obj rfl (x:= .ref TI) rfl ?_);refine aGs (m:=seqItems? (.ref TI)) (aHx Y rfl ?_)
 have M:(qs.map λq=>Value.ref q.it).toArray.isEmpty=false:=by cases qs with | nil=>simp at hkl | cons a r=>rfl
 simp only[M];refine aGs (m:=Builtin.SmallTypes.ownedTupleIsFree (.ref z)) ?_;refine aGs (m:=field (.ref z) 0) (aHz Z.obj rfl (x:= .none) rfl (aGu ?_));simp only[if_true];refine aGs (aI2 ?_);refine aGs (aHz Z.obj rfl (x:= .ref TO) rfl ?_);refine aGs (aHp Z.obj (by simp) λh1 z1 t=>?_);refine aGs ?_;refine wpAny_forIn_list _ (λC b s' =>∃j h' vals,s' ={s with heap:=h'}/\C=((qs.map λq=>Value.ref q.it).zipIdx).drop j/\j<=k/\IU s.heap h' z TI TO qs vals i j) _ ?turn ?fin _ _ ?start
 case start=>
  refine⟨0,h1,K,rfl,by simp,aI8 _,?_⟩;refine⟨z1,⟨K,n0,hx0,by simp,t.extBut _ _ D.ne2 hTO⟩,by simp,λq X=>?_,t.1,λc o F _ _ e=>t.extBut _ _ F e⟩;have N :q∈qs:=by simpa using X
  exact(Z.at_ q N).to λo e=>t.extBut _ _ (D.FP q N).1 e
 case fin=>
  rintro b s5 ⟨j,h',vals,rfl,hd,hj,h⟩;have:=aHu List.length hd;simp at this
  lia
 case turn=>
  rintro x C b s5 ⟨j,h',vals,rfl,hd,hj,h⟩;have u:j<qs.length:=by lia
  have O :=hd;rw[List.drop_eq_getElem_cons (by simpa using u)]at O;injection O with ex er;have P:x=(Value.ref qs[j].it,j):=by rw[ex];simp
  have d:qs[j]? =some qs[j]:=aH6 u;generalize hqq:qs[j]=q at d P;subst P;have y:q∈qs:=aH1 d;have B:=D.FP q y;obtain⟨l1,l2,l3⟩:=D.src q y;have R:q.At h' i:=h.todo q (by rw[List.drop_eq_getElem_cons u,hqq];exact aGw);refine aGs (wpAny_onRaise ?_);show wpAny _ _ (Builtin.SmallTypes.nextOf (.ref q.it) >>=_) _ _ _;by_cases hjk:j=k
  ·subst hjk;obtain rfl:qk=q:=(aHd (d.symm.trans L)).symm;have l :=hSk.to (h' :=h') λo e=>h.keep _ o l1 l2 l3 e;refine aGs (Src.done (s:={s with heap:=h'}) hh R l hik λI e f he=>?_);obtain⟨oe,G,S⟩:=he;have z2:I.get? z=some {cls:= .type "zip",dict:=none,data:= .fields #[.ellipsis,.bool false,.bool false,.ref TI,.ref TO],slots:= #[]}:=f _ _ (aHv B.1) h.obj;have hez:e≠z:=λx=>by subst x;rw[z2]at G;cases G;simp at S
   refine aHp z2 (by simp) λh3 _ T=>hE h3 e (λc o F J U q' =>T.extBut _ _ F (f _ _ (U _ y) (h.keep c o F J U q'))) ⟨oe,T.extBut _ _ hez G,S⟩
  ·obtain⟨items,v,hSq,hit⟩:=X j q d (by lia);have l :q.Sq h' items:=hSq.to λo e=>h.keep _ o l1 l2 l3 e;refine aGs (Src.item (s:={s with heap:=h'}) R l hit λI at2 f=>aGu ?_);obtain⟨xs,n,hxl,hxt,hO⟩:=h.own;have H:I.get? TO=some {cls:= .type "tuple",data:= .seq xs.toArray n}:=f.extBut _ _ (aHv B.2.2) hO;refine aGs (m:=seqItems? (.ref TO)) (aHx H rfl ?_);refine aGs (aI5 H rfl ?_);refine aGs (wpAny_letGo (aGu ?_))
   have apart:∀(k:Nat) p,qs[k]? =some p->k≠j->p.it≠q.it:=λk p g hne e=>by
    have h1:(qs.map (·.it))[k]? =some q.it:=by rw[List.getElem?_map,g];simp[e]
    have I:(qs.map (·.it))[j]? =some q.it:=by rw[List.getElem?_map,d];rfl
    obtain⟨a1,b1⟩:=aGt.mp h1;obtain⟨a2,b2⟩:=aGt.mp I;refine hne ?_;have pw:=aHw.mp D.nd;rcases aKu k j with hlt | heq | hlt
    ·exact absurd (b1.trans b2.symm) (pw k j a1 a2 hlt)
    ·exact heq
    ·exact absurd (b2.trans b1.symm) (pw j k a2 a1 hlt)
   have up:∀c o,c≠TO->c≠q.it->h'.get? c=some o->(I.update TO (Obj.mapSeq λx=>x.setIfInBounds j v)).get? c=some o:=λc o F J e=>(aHt ..).extBut _ _ F (f.extBut _ _ J e);refine⟨j+1,_,xs.set j v,rfl,er,by lia,⟨up _ _ (aHv D.ne2) (aHv B.1) h.obj,⟨xs.set j v,n,by simpa using hxl,rfl,?_⟩,λp V=>?_,λp V=>?_,?_,λc o F J U e=>up c o J (U q y) (h.keep c o F J U e)⟩⟩
   ·rw[Heap.get?_update_self _ H (by rfl)];simp[Obj.mapSeq]
   ·rw[List.take_add_one,d]at V;rcases aGz.mp V with z | z
    ·obtain⟨k,g⟩:=aIo z
     have hkj:k<j:=by
      have:=(aGt.mp g).1;rw[List.length_take]at this;lia
     rw[List.getElem?_take_of_lt hkj]at g;exact(h.done p z).to λo e=>up _ o (D.FP p (aH1 g)).2.2 (apart k p g (by lia)) e
    ·have:p=q:=by simpa using z
     subst this;exact at2.to λo e=>(aHt ..).extBut _ _ B.2.2 e
   ·obtain⟨k,g⟩:=aIo V;rw[List.getElem?_drop]at g;have hp' :p∈qs.drop j:=by rw[List.drop_eq_getElem_cons u];exact aGx _ V
    exact(h.todo p hp').to λo e=>up _ o (D.FP p (aH1 g)).2.2 (apart _ p g (by lia)) e
   ·rw[Heap.size_update,f.1];exact h.size
variable{Q:Option Value->Shared->Prop}
theorem nN{z TI TO:Addr}{vals:List Value}(D:dC z TI TO qs)(Z:fG s.heap z TI TO qs .none i)(a:qs≠[])
  (d:vals.length=qs.length) (e:∀(k:Nat) q x,qs[k]? =some q->vals[k]? =some x->∃items,q.Sq s.heap items/\items[i]? =some x) (hsz:qs.length<=sizeLine)
  (f:∀h',fG h' z TI TO qs (rawInt s.heap.objs.size) (i+1)->h'.get? s.heap.objs.size=some {cls:= .type "tuple",data:= .seq vals.toArray}->h'.objs.size=s.heap.objs.size+1->
   (∀c o,c≠z->c≠TO->(∀q∈qs,c≠q.it)->s.heap.get? c=some o->h'.get? c=some o)->Q (some (.ref s.heap.objs.size)) {s with heap:=h'}):
  wpAny (model prog w) A (pyNext (.ref z)) Q E s:=by
 have b:s.TypeIs (.ref z) "zip":=⟨_,Z.obj,rfl⟩
 unfold pyNext
 exact aGs (aIf (aHj (name:=Str.ofString "__next__") b aI6 (aHe aI6 b aKa
  (K6 D Z a d e hsz λh' g h j l=>aGu (f h' g h j l)) (aK0 _))))
theorem pL{z TI TO:Addr}{i k:Nat}(d:A.handled=none)(D:dC z TI TO qs)(Z:fG s.heap z TI TO qs .none i)
  (f:∀(j:Nat) q,qs[j]? =some q->j<k->∃items x,q.Sq s.heap items/\items[i]? =some x) (g:∃q items,qs[k]? =some q/\q.Sq s.heap items/\items[i]? =none) (hsz:qs.length<=sizeLine)
  (h:∀h',(∀c o,c≠z->c≠TO->(∀q∈qs,c≠q.it)->s.heap.get? c=some o->h'.get? c=some o)->Q none {s with heap:=h'}):wpAny (model prog w) A (pyNext (.ref z)) Q E s:=by
 have a:s.TypeIs (.ref z) "zip":=⟨_,Z.obj,rfl⟩
 unfold pyNext
 refine aGs (aIf (aHj (name:=Str.ofString "__next__") a aI6 (aHe aI6 a aKa
  (QH d D Z f g hsz λh' e kp he=>?_) (aK0 _))))
 obtain⟨o,ho,l⟩:=he;refine aGs (aJl (T:= "StopIteration") (b:=true) ⟨o,ho,l⟩ isSubtype_stop ?_);exact aGu (h _ kp)
theorem ZG{elts:List Expr}{x1}{z TI TO T:Addr}{Q:Unit->Shared->Prop}(D:dC z TI TO qs)(Z:fG s.heap z TI TO qs (rawInt T) i)
  (c:∀h',fG h' z TI TO qs .none i->Heap.SameBut z s.heap h' ->Q () {s with heap:=h'}):wpAny (model prog w) A (letOwnedTupleGo (.Tuple elts x1 pos) (.ref z) (.ref T)) Q E s:=by
 unfold letOwnedTupleGo;refine aGs (aKn Z.obj ?_);show wpAny _ _ (if (["enumerate","zip","dict_itemiterator","dict_reverseitemiterator","odict_iterator","itertools.zip_longest","itertools.pairwise"].contains "zip" && (#[rawInt T,.bool false,.bool false,.ref TI,.ref TO]:Array Value)[0]? ==some (rawInt T))=true then _ else _) Q E s;rw[if_pos (by simp)];refine aGs (aI2 ?_);show wpAny _ _ (setField (.ref z) 0 .none) Q E s;refine aHp Z.obj (by simp) λh' a sb=>c h' ⟨a,?_,?_,λq b=>(Z.at_ q b).to λo e=>sb.extBut _ _ (D.FP q b).1 e⟩ sb
 ·obtain⟨n,e⟩:=Z.aH;exact⟨n,sb.extBut _ _ D.ne1 e⟩
 ·obtain⟨xs,n,l,e⟩:=Z.own;exact⟨xs,n,l,sb.extBut _ _ D.ne2 e⟩
theorem C7{z TI TO:Addr}{f0:Value}{Q:aL2}(Z:fG s.heap z TI TO qs f0 i)(h:Q (.ref z) s):wpAny (model prog w) A (pyIter (.ref z)) Q E s:=by
 have a:s.TypeIs (.ref z) "zip":=⟨_,Z.obj,rfl⟩
 refine aJc a aKh (aHe aKh a F.entry_zip_iter ?_ (F.args_zip_iter_1 _));exact aGu ⟨_,rfl,"zip",_,a,aI6.lookup,h⟩
end
section
variable {prog:Program}{w:World}{A:Around}{E:aL2}{s:Shared}
def bQ:Nat->List Src->List Src
 | _,[]=>[]
 | n,q::r=>⟨n,q.l,q.tup⟩::bQ (n+1) r
theorem eZ:∀(n:Nat) (qs:List Src),(bQ n qs).length=qs.length
 | _,[]=>rfl
 | n,_::r=>by simp[bQ,eZ (n+1) r]
theorem dW:∀{n:Nat} {qs:List Src} {p:Src},p∈bQ n qs->n<=p.it/\p.it<n+qs.length/\∃q∈qs,p.l=q.l/\p.tup=q.tup
 | n,q::r,p,h=>by
  rcases aH2.mp h with rfl | h
  ·exact⟨aGy _,by simp,q,aGw,rfl,rfl⟩
  ·obtain⟨a,b,c,d,e⟩:=dW h;exact⟨Nat.le_of_succ_le a,Nat.lt_of_lt_of_eq b (by simp only[List.length_cons];lia),c,aGx _ d,e⟩
theorem pP:∀(n:Nat) (qs:List Src),((bQ n qs).map (·.it)).Nodup
 | _,[]=>by simp[bQ]
 | n,q::r=>by
  simp only[bQ,List.map_cons,List.nodup_cons];refine⟨λh=>?_,pP (n+1) r⟩;obtain⟨p,a,e⟩:=aH5.mp h;have b:=(dW a).1;have c :p.it=n:=e;exact absurd b (by rw[c];exact Nat.not_succ_le_self n)
theorem rQ{Q:Array Value->Shared->Prop}:∀(qs:List Src) (a:Array Value) (s:Shared),(∀q∈qs,∃items,q.Sq s.heap items)->
  (∀h',h'.objs.size=s.heap.objs.size+qs.length->(∀b o,s.heap.get? b=some o->h'.get? b=some o)->(∀p∈bQ s.heap.objs.size qs,p.At h' 0)->Q (a++((bQ s.heap.objs.size qs).map λp=>Value.ref p.it).toArray) {s with heap:=h'})->
  wpAny (model prog w) A (forIn (qs.map λq=>Value.ref q.l) a λx aH=>do let r<-holding aH.toList (pyIter x);pure (ForInStep.yield (aH.push r))) Q E s
 | [],a,s,_,hQ=>by
  have:=hQ s.heap (by simp) (λ_ _ e=>e) (by simp[bQ]);simp only[List.map_nil,List.forIn_nil];refine aGu ?_;simpa[bQ] using this
 | q::r,a,s,hs,hQ=>by
  obtain⟨items,n⟩:=hs q aGw;simp only[List.map_cons,List.forIn_cons];refine aGs (aGs (aHo (Src.start n λh' h sz kp=>aGu ?_)));refine rQ r (a.push (.ref s.heap.objs.size)) {s with heap:=h'} (λt i =>?_) λg j c k=>?_
  ·obtain⟨m,u⟩:=hs t (aGx _ i);exact⟨m,u.to λo e=>kp _ o e⟩
  ·have v:g.objs.size=s.heap.objs.size+(q::r).length:=by
    have:g.objs.size=h'.objs.size+r.length:=j;rw[this,sz,List.length_cons];lia
   have d :h'.objs.size=s.heap.objs.size+1:=sz;have f :∀p∈bQ (s.heap.objs.size+1) r,p.At g 0:=by rw[<-d];exact k
   have:=hQ g v (λb o e=>c b o (kp b o e)) (λp hp=>by
    rcases aH2.mp hp with rfl | hp
    ·exact h.to λo e=>c _ o e
    ·exact f p hp)
   have y:(a.push (.ref s.heap.objs.size)++((bQ h'.objs.size r).map λp=>Value.ref p.it).toArray)=(a++((bQ s.heap.objs.size (q::r)).map λp=>Value.ref p.it).toArray):=by
    rw[d];simp[bQ]
   show Q (a.push (.ref s.heap.objs.size)++((bQ h'.objs.size r).map λp=>Value.ref p.it).toArray) _;rw[y];exact this
theorem TL:(5:Nat)<=sizeLine+2:=Nat.add_le_add_right (by decide:3<=sizeLine) 2
theorem FD(qs:List Src)(hsz:qs.length<=sizeLine):Meets (Builtin.«zip.__new__» ⟨.type "zip"::(qs.map λq=>Value.ref q.l),[]⟩) (λ_ R s=>(∀q∈qs,∃items,q.Sq s.heap items)/\
   ∀h' z TI TO,s.heap.objs.size+qs.length<=TI->TI≠TO->TI≠z->TO≠z->s.heap.objs.size+qs.length<=TO->s.heap.objs.size+qs.length<=z->fG h' z TI TO (bQ s.heap.objs.size qs) .none 0->(∀b o,s.heap.get? b=some o->h'.get? b=some o)->R (.ok (.ret (.ref z))) {s with heap:=h'}):=
 .of_wp λprog w A R s h=>by
  obtain⟨r,i⟩:=h;unfold Builtin.«zip.__new__»;have j:=sub_zip;refine aGs (m:=Builtin.SmallTypes.newClass "zip" _) ?_;unfold Builtin.SmallTypes.newClass
  wp_walk
  refine rQ qs #[] s r λh' sz kp a =>?_;have d:(bQ s.heap.objs.size qs).length=qs.length:=eZ _ _;have t:((#[]:Array Value)++((bQ s.heap.objs.size qs).map λp=>Value.ref p.it).toArray).toList=(bQ s.heap.objs.size qs).map λp=>Value.ref p.it:=by simp
  refine aGu ?_;simp only[t];refine aGs (aJh ?_ (by simp[d];exact hsz));refine aGs (aJh ?_ (by simp[d];exact hsz));unfold Builtin.SmallTypes.newRecord;dsimp only;refine aGs (aHk ?_ TL);refine aGu ⟨_,rfl,?_⟩;generalize f:bQ s.heap.objs.size qs=ls at d a i⊢;have u:(h'.push {cls:= .type "tuple",data:= .seq ((ls.map λp=>Value.ref p.it).toArray)}).objs.size=h'.objs.size+1:=aJi ..;have k:(h'.push {cls:= .type "tuple",data:= .seq ((ls.map λp=>Value.ref p.it).toArray)}).get? h'.objs.size=some _:=aH0 _ rfl;have g:∀b o,h'.get? b=some o->(h'.push {cls:= .type "tuple",data:= .seq ((ls.map λp=>Value.ref p.it).toArray)}).get? b=some o:=λb o e=>aGv _ e;generalize v:h'.push {cls:= .type "tuple",data:= .seq ((ls.map λp=>Value.ref p.it).toArray)}=h1 at u k g⊢;have y:(h1.push {cls:= .type "tuple",data:= .seq ((List.map (λx=>Value.none) (ls.map λp=>Value.ref p.it)).toArray)}).objs.size=h1.objs.size+1:=aJi ..;have n:(h1.push {cls:= .type "tuple",data:= .seq ((List.map (λx=>Value.none) (ls.map λp=>Value.ref p.it)).toArray)}).get? h1.objs.size=some _:=aH0 _ rfl;have c:∀b o,h1.get? b=some o->(h1.push {cls:= .type "tuple",data:= .seq ((List.map (λx=>Value.none) (ls.map λp=>Value.ref p.it)).toArray)}).get? b=some o:=λb o e=>aGv _ e;generalize B:h1.push {cls:= .type "tuple",data:= .seq ((List.map (λx=>Value.none) (ls.map λp=>Value.ref p.it)).toArray)}=h2 at y n c⊢;refine i _ h2.objs.size h'.objs.size h1.objs.size (by lia) (by lia) (by lia) (by lia) (by lia) (by lia) ⟨?_,⟨0,?_⟩,⟨List.map (λx=>Value.none) (ls.map λp=>Value.ref p.it),0,by simp[f],?_⟩,λq C=>?_⟩ λb o e=>aGv _ (c _ _ (g _ _ (kp b o e)))
  ·exact aH0 _ rfl
  ·exact aGv _ (c _ _ k)
  ·exact aGv _ n
  ·exact(a q C).to λo e=>aGv _ (c _ _ (g _ _ e))
theorem yP{qs:List Src}(hsz:qs.length<=sizeLine)(k:checkTypeCall "zip" ⟨qs.map λq=>Value.ref q.l,[]⟩=pure ())(hN:checkBuiltinCall "zip.__new__" ⟨.type "zip"::qs.map λq=>Value.ref q.l,[]⟩=pure ())
  (m:∀obj,argsOk "object.__init__" ⟨obj::qs.map λq=>Value.ref q.l,[]⟩) (g:∀q∈qs,∃items,q.Sq s.heap items)
  (h:∀h' z TI TO,s.heap.objs.size<=TI->s.heap.objs.size<=TO->s.heap.objs.size<=z->dC z TI TO (bQ s.heap.objs.size qs)->fG h' z TI TO (bQ s.heap.objs.size qs) .none 0->(∀b o,s.heap.get? b=some o->h'.get? b=some o)->Q (.ref z) {s with heap:=h'}):
  wpAny (model prog w) A (call (.type "zip") (qs.map λq=>Value.ref q.l)) Q E s:=by
 refine callType_new F.called_zip (by decide) k hN m F.entry_zip_new (FD qs hsz) ⟨g,λh' z TI TO p t u v i j Z kp=>?_⟩;refine⟨⟨_,Z.obj,rfl⟩,h h' z TI TO (by lia) (by lia) (by lia) ⟨u,v,t,λq d=>?_,pP _ _,λq d=>?_⟩ Z kp⟩
 ·obtain⟨x,c,_⟩:=dW d;exact⟨aHc (aHf c j),aHc (aHf c p),aHc (aHf c i)⟩
 ·obtain⟨x,c,y,e,B,_⟩:=dW d;obtain⟨items,f⟩:=g y e;obtain⟨o,n,ho,_⟩:=f.obj;have a:q.l<s.heap.objs.size:=by rw[B];exact aH4 ho
  exact⟨aHc (aHf a (aHm (Nat.le_add_right _ _) j)),aHc (aHf a (aHm (Nat.le_add_right _ _) i)),λr C=>aHc (aHf a (dW C).1)⟩
end
def IQ(K:aL1)(H:Hp)(t:Bool)(a:Addr)(xs:List V):Prop:=match t with | true=>sL K H a xs | false=>oI K H a xs
def Itz(K:aL1)(src:List (Addr×Bool)):It where
 go:=λi H=>∃vs:List V,vs.length=src.length/\∀(k:Nat) a t v,src[k]? =some (a,t)->vs[k]? =some v->∃xs,IQ K H t a xs/\xs[i]? =some v
 yld:=λi H x H' =>∃p vs,H p=none/\x= .ref p/\H' =upd H p (.tup vs)/\vs.length=src.length/\∀(k:Nat) a t v,src[k]? =some (a,t)->vs[k]? =some v->∀xs,IQ K H t a xs->xs[i]? =some v
 stop:=λi H=>∃(k:Nat) (a:Addr) (t:Bool) (xs:List V),src[k]? =some (a,t)/\IQ K H t a xs/\xs.length<=i/\∀(j:Nat) b u,j<k->src[j]? =some (b,u)->∃ys,IQ K H u b ys/\i<ys.length
section
variable {X:Cx}{pins:List (Addr×Obj)}{σ:St}{H:Hp}{s:Shared}
theorem Inv.sqx{t:Bool}{a:Addr}{xs:List V}(I:Inv X pins σ H s)(h:IQ X.K H t a xs):∃aH:List Value,Vals xs aH/\∀it,(⟨it,a,t⟩:Src).Sq s.heap aH.toArray:=by
 cases t with
 | true=>obtain⟨aH,r,p,_⟩:=I.tuple h;exact⟨aH,r,λ_=>p⟩
 | false=>obtain⟨aH,r,p,_⟩:=I.list h;exact⟨aH,r,λ_=>p.isList⟩
theorem Inv.QW{t:Bool}{a:Addr}{xs ys:List V}(I:Inv X pins σ H s)(h:IQ X.K H t a xs)(h' :IQ X.K H t a ys):xs=ys:=by
 cases t with
 | true=>exact I.xA h h'
 | false=>exact I.CQ h h'
theorem Inv.aD3{fp:List Addr}{t' :Nat}{p:Addr}{o:HO}(I:Inv X pins σ H s)(a:∀b∈fp,oH X pins H b)(k:∀b o,b∉fp->s.heap.get? b=some o->h'.get? b=some o)
  (g:s.heap.objs.size<=p) (new:cH X.prog X.w (upd H p o) h' p o):Inv X pins σ (upd H p o) {s with heap:=h',toks:=t'}:=by
 have d:H p=none:=I.bO.fresh g;have f:∀b u,H b=some u->b∉fp:=λb u e z=>by rw[(a b z).1]at e;cases e
 refine I.step (g' :=s.gens) (d' :=s.drawn) (ch:=fp) (λb hb=>⟨(a b hb).2.2.2.1,(a b hb).2.1,(a b hb).2.2.2.2.1,(a b hb).2.2.2.2.2⟩) (λb o _ _ hc e _=>k b o hc e) (λb o _ _ hc e _=>⟨o.slots,k b o hc e⟩)
  (λb o _ e n=>by rw[aL (Nat.ne_of_lt (Nat.lt_of_lt_of_le (Heap.lt_size e) g))];exact n) (λb o hc e=>⟨o,k b o hc e⟩) (λb xs e=>by rw[aL (bP e d)];exact e) (λb o u e=>by rw[aL (bP e d)];exact e)
  (λb ps e=>⟨#[],by rw[aL (bP e d),e];simp⟩) (λm h=>?_) (λb u e=>?_) I.bare
 ·obtain⟨o,i,ep,ho,r⟩:=h;exact⟨o,i,ep,k _ o (λz=>(a _ z).2.1 rfl) ho,r⟩
 ·by_cases hb:b=p
  ·subst hb;rw[bC]at e;cases e;exact new
  ·rw[aL hb]at e;refine(I.bO b u e).qI (λc v hc q=>k c v ?_ q) (λc q=>by rw[aL (bP q d)];exact q) λc xs q=>by rw[aL (bP q d)];exact q
   rcases hc with rfl | hc
   ·exact f _ u e
   ·exact f _ _ hc
theorem Inv.ZI{fp:List Addr}{t' :Nat}(I:Inv X pins σ H s)(a:∀b∈fp,oH X pins H b)(k:∀b o,b∉fp->s.heap.get? b=some o->h'.get? b=some o):Inv X pins σ H {s with heap:=h',toks:=t'}:=by
 have d:∀b u,H b=some u->b∉fp:=λb u e z=>by rw[(a b z).1]at e;cases e
 refine I.step (g' :=s.gens) (d' :=s.drawn) (ch:=fp) (λb hb=>⟨(a b hb).2.2.2.1,(a b hb).2.1,(a b hb).2.2.2.2.1,(a b hb).2.2.2.2.2⟩) (λb o _ _ hc e _=>k b o hc e) (λb o _ _ hc e _=>⟨o.slots,k b o hc e⟩)
  (λb o _ e n=>n) (λb o hc e=>⟨o,k b o hc e⟩) (λb xs e=>e) (λb o u e=>e) (λb ps e=>⟨#[],by rw[e];simp⟩) (λm f=>?_) (λb u e=>?_) I.bare
 ·obtain⟨o,g,ep,ho,r⟩:=f;exact⟨o,g,ep,k _ o (λz=>(a _ z).2.1 rfl) ho,r⟩
 ·refine(I.bO b u e).qI (λc v hc q=>k c v ?_ q) (λ_ q=>q) λ_ _ q=>q;rcases hc with rfl | hc
  ·exact d _ u e
  ·exact d _ _ hc
end
theorem MK{P:Nat->Value->Prop}:∀{vs:List V},(∀(k:Nat) v,vs[k]? =some v->∃u,RelV v u/\P k u)->∃us,Vals vs us/\∀(k:Nat) u,us[k]? =some u->P k u
 | [],_=>⟨[],.nil,λk u e=>by simp at e⟩
 | v::r,h=>by
  obtain⟨u,a,b⟩:=h 0 v rfl;obtain⟨us,rs,ps⟩:=MK (P:=λk u=>P (k+1) u) (vs:=r) λk v e=>h (k+1) v (by simpa using e);refine⟨u::us,.cons a rs,λk w e=>?_⟩
  cases k with
  | zero=>simp at e;subst e;exact b
  | succ k=>exact ps k w (by simpa using e)
theorem LU{K:aL1}{elts:List Expr}{x1}{z TI TO:Addr}{qs:List Src}(D:dC z TI TO qs)(F:qs≠[])(hsz:qs.length<=sizeLine):
  Turn P w K (.Tuple elts x1 pos) (Itz K (qs.map λq=>(q.l,q.tup))) (z::TI::TO::qs.map (·.it)) z (λi h=>fG h z TI TO qs .none i) where
 mem:=aGw
 obj:=λi h Z b hb=>by
  rcases aH2.mp hb with rfl | hb
  ·exact⟨_,Z.obj,λv e=>by cases e⟩
  rcases aH2.mp hb with rfl | hb
  ·obtain⟨n,e⟩:=Z.aH;exact⟨_,e,λv e=>by cases e⟩
  rcases aH2.mp hb with rfl | hb
  ·obtain⟨xs,n,_,e⟩:=Z.own;exact⟨_,e,λv e=>by cases e⟩
  obtain⟨q,c,rfl⟩:=aH5.mp hb;obtain⟨o,ho,hd⟩:=(Z.at_ q c).obj;exact⟨o,ho,λv e=>by rw[hd]at e;cases e⟩
 keep:=λi h h' Z k=>by
  refine⟨k z (by simp) _ Z.obj,?_,?_,λq c=>(Z.at_ q c).to λo e=>k q.it (by simp;exact .inr (.inr (.inr ⟨q,c,rfl⟩))) o e⟩
  ·obtain⟨n,e⟩:=Z.aH;exact⟨n,k TI (by simp) _ e⟩
  ·obtain⟨xs,n,l,e⟩:=Z.own;exact⟨xs,n,l,k TO (by simp) _ e⟩
 item:=by
  intro X G J L hc i pins s σ H E I B Z hg;subst G J L;obtain⟨vs,C,hv⟩:=hg;have M:vs.length=qs.length:=by simpa using C
  obtain⟨us,ru,pu⟩:=MK (P:=λk u=>∀q,qs[k]? =some q->∃items,q.Sq s.heap items/\items[i]? =some u) (vs:=vs) λk v e=>by
   have g:k<qs.length:=by have:=(aGt.mp e).1;lia
   have d:qs[k]? =some qs[k]:=aH6 g;obtain⟨xs,m,hi⟩:=hv k qs[k].l qs[k].tup v (by rw[List.getElem?_map,d];rfl) e;obtain⟨aH,rv,p⟩:=I.sqx m;obtain⟨u,N,r⟩:=rv.get hi;refine⟨u,r,λq c=>?_⟩;rw[d]at c;cases c;exact⟨aH.toArray,p qs[k].it,by simpa using N⟩
  have O:us.length=qs.length:=by rw[<-ru.length,M]
  refine nN D Z F O (λk q x c m=>pu k x m q c) hsz λh1 Z1 t1 z1 k1=>?_;refine⟨_,rfl,ZG (s:={s with heap:=h1}) D Z1 λh2 Z2 y=>?_⟩;have f:s.heap.objs.size≠z:=aJj (aH4 Z.obj)
  have kk:∀b o,b∉(z::TI::TO::qs.map (·.it))->s.heap.get? b=some o->h2.get? b=some o:=λb o hb e=>by
   have b1:b≠z:=λz=>hb (by simp[z]);have b2:b≠TO:=λz=>hb (by simp[z]);exact y.extBut _ _ b1 (k1 b o b1 b2 (λq c z=>hb (by simp;exact .inr (.inr (.inr ⟨q,c,z.symm⟩)))) e)
  refine⟨.ref s.heap.objs.size,upd H s.heap.objs.size (.tup vs),I.aD3 (t' :=s.toks) B kk (aGy _) ⟨by lia,us,ru,⟨_,y.extBut _ _ f t1,rfl,0,rfl⟩,λo e=>by rw[y.extBut _ _ f t1]at e;cases e;rfl⟩,rfl,?_,Z2,λb hb=>?_⟩
  ·refine⟨s.heap.objs.size,vs,I.bO.fresh (aGy _),rfl,rfl,C,λk a t v p R xs m=>?_⟩;obtain⟨ys,S,hi⟩:=hv k a t v p R;rw[I.QW m S];exact hi
  ·have T:=(B b hb).1
   have:b≠s.heap.objs.size:=by
    rintro rfl
    have ho:∃o,s.heap.get? s.heap.objs.size=some o:=by
     rcases aH2.mp hb with e | hb
     ·rw[e];exact⟨_,Z.obj⟩
     rcases aH2.mp hb with e | hb
     ·rw[e];obtain⟨n,e⟩:=Z.aH;exact⟨_,e⟩
     rcases aH2.mp hb with e | hb
     ·rw[e];obtain⟨xs,n,_,e⟩:=Z.own;exact⟨_,e⟩
     obtain⟨q,c,e⟩:=aH5.mp hb;have e' :q.it=s.heap.objs.size:=e;rw[<-e'];obtain⟨o,ho,_⟩:=(Z.at_ q c).obj;exact⟨o,ho⟩
    obtain⟨o,ho⟩:=ho;exact absurd (aH4 ho) (aIe _)
   rw[aL this];exact T
 done:=by
  intro X G J L hc i pins s σ H E I B Z hg;subst G J L;obtain⟨k,a,t,xs,g,m,hle,U⟩:=hg;rw[List.getElem?_map]at g
  cases d:qs[k]? with
  | none=>rw[d]at g;cases g
  | some q=>
   rw[d]at g;have V :(q.l,q.tup)=(a,t):=aHd g;injection V with e1 e2;subst e1 e2
   refine pL (k:=k) (I.ok.hd hc) D Z (λj W hj Y=>?_) ⟨q,?_⟩ hsz λh' kp=>⟨rfl,I.ZI (t' :=s.toks) B λb o hb e=>kp b o (λz=>hb (by simp[z])) (λz=>hb (by simp[z])) (λq c z=>hb (by simp;exact .inr (.inr (.inr ⟨q,c,z.symm⟩)))) e⟩
   ·obtain⟨ys,S,C⟩:=U j W.l W.tup Y (by rw[List.getElem?_map,hj];rfl);obtain⟨aH,r,p⟩:=I.sqx S;obtain⟨u,N,_⟩:=r.get (aH6 C);exact⟨aH.toArray,u,p W.it,by simpa using N⟩
   ·obtain⟨aH,r,p⟩:=I.sqx m;refine⟨aH.toArray,d,p q.it,?_⟩;have:=r.length;rw[List.getElem?_toArray];exact aIj.mpr (by lia)
 self:=λA i s Q E Z h=>C7 Z h
structure KU(m:Nat):Prop where
 t:∀us:List Value,us.length=m->checkTypeCall "zip" ⟨us,[]⟩=pure ()
 n:∀us:List Value,us.length=m->checkBuiltinCall "zip.__new__" ⟨.type "zip"::us,[]⟩=pure ()
 i:∀(us:List Value) (o:Value),us.length=m->argsOk "object.__init__" ⟨o::us,[]⟩
theorem UJ:KU 2:=⟨λus h=>match us,h with | [a,b],_=>F.typeCall_zip_2 a b,λus h=>match us,h with | [a,b],_=>F.newCall_zip_2 a b,λus o h=>match us,h with | [a,b],_=>F.args_object_init_3 o a b⟩
theorem VC(a b c:Value):checkTypeCall "zip" ⟨[a,b,c],[]⟩=pure ():=by kernel_rfl
theorem VD(a b c:Value):checkBuiltinCall "zip.__new__" ⟨[.type "zip",a,b,c],[]⟩=pure ():=by kernel_rfl
theorem VE(o a b c:Value):argsOk "object.__init__" ⟨[o,a,b,c],[]⟩:=by
 unfold argsOk;rw[signature?_of (id:= "object.__init__") (n:=['_','_','t','i','n','i','_','_']) (o:=['t','c','e','j','b','o']) (by kernel_rfl) F.owner_object];kernel_rfl
theorem aAj:KU 3:=⟨λus h=>match us,h with | [a,b,c],_=>VC a b c,λus h=>match us,h with | [a,b,c],_=>VD a b c,λus o h=>match us,h with | [a,b,c],_=>VE o a b c⟩
def aG8(K:aL1)(n:Nat)(b:TA):TI:=λσ H R=>b σ H λvs a=>∃src:List (Addr×Bool),vs=src.map (λp=>V.ref p.1)/\src.length=n/\(∀p∈src,∃xs,IQ K a p.2 p.1 xs)/\R (Itz K src) a
theorem fY:∀{src:List (Addr×Bool)} {us:List Value},Vals (src.map λp=>V.ref p.1) us->us=src.map λp=>Value.ref p.1
 | [],us,h=>by cases h;rfl
 | p::r,us,h=>by
  cases h with
  | cons a b=>rw[fY b];cases a;rfl
theorem oA:∀(src:List (Addr×Bool)) (m:Nat),((bQ m (src.map λp=>(⟨0,p.1,p.2⟩:Src))).map λq=>(q.l,q.tup))=src
 | [],_=>rfl
 | p::r,m=>by simp only[List.map_cons,bQ];rw[oA r (m+1)]
theorem WM{e:Expr}{f:List Expr}{x:TA}{p pos:Pos}{elts:List Expr}{x1}{a:Pos}(z:KU n)(W:0<n/\n<=1000)(hg:Gl X "zip")(y:X.mg "zip"=none)(ha:PA X (e::f) x)
  (A:bootBuiltins "zip"=some (.type "zip"):=by decide+kernel)
  (he:starEach (e::f) X.env=(false,eval e X.env)::starEach f X.env:=by rfl) (o:(backTo pos (starEach f X.env)).any (·.1)=false:=by rfl):
  PI X (.Tuple elts x1 a) (.Call (.Name "zip" p) (e::f) [] pos) (aG8 X.K n x):=by
 intro pins s σ H R I h;refine aIr (n9 I hg y A ?_);refine aIc (cJ (ha pos pins s σ H _ I h) λus s1 ⟨vs,r,k,B,C⟩=>?_) he o;obtain⟨src,rfl,u,E,F⟩:=C;have G:=fY B;subst G;have em:(src.map λp=>Value.ref p.1)=(src.map λp=>(⟨0,p.1,p.2⟩:Src)).map λq=>Value.ref q.l:=by rw[List.map_map];rfl
 have hz:src.length<=sizeLine:=aIz (xC (by lia));rw[em];refine yP (by simpa using hz) (z.t _ (by simpa using u)) (z.n _ (by simpa using u)) (λobj=>z.i _ obj (by simpa using u)) (λq m=>?_) λh' J TI TO L M N D Z kp=>?_
 ·obtain⟨p,O,rfl⟩:=aH5.mp m;obtain⟨xs,Q⟩:=E p O;obtain⟨aH,_,v⟩:=k.sqx Q;exact⟨aH.toArray,v 0⟩
 ·generalize c:bQ s1.heap.objs.size (src.map λp=>(⟨0,p.1,p.2⟩:Src))=qs at D Z;have g:qs.length=src.length:=by rw[<-c,eZ];simp
  have d:(qs.map λq=>(q.l,q.tup))=src:=by rw[<-c];exact oA _ _
  have S:Inv X pins σ r {s1 with heap:=h'}:=k.kept (t' :=s1.toks) kp;have T:=LU (P:=X.prog) (w:=X.w) (K:=X.K) (elts:=elts) (x1:=x1) (pos:=a) D (by intro U;rw[U]at g;simp at g;lia) (by lia);rw[d]at T;refine C7 Z ⟨J,_,_,Itz X.K src,r,rfl,S,T,Z,λb hb=>?_,F⟩
  have j:s1.heap.objs.size<=b:=by
   rcases aH2.mp hb with e | hb
   ·rw[e];exact N
   rcases aH2.mp hb with e | hb
   ·rw[e];exact L
   rcases aH2.mp hb with e | hb
   ·rw[e];exact M
   obtain⟨q,m,e⟩:=aH5.mp hb;rw[<-c]at m;have V :q.it=b:=e;rw[<-V];exact(dW m).1
  exact(k.J5 j (k.bO.fresh j):oH X pins r b)
variable {b:Bool}
variable {b:Bool}
end L2
namespace TS
open PySem PyProof.Rows
structure Wk(lt:aL3):Prop where
 qU:∀x y,lt x y=true->lt y x=false
 tr:∀x y z,lt y x=false->lt z y=false->lt z x=false
theorem Wk.JX{lt:aL3}(O:Wk lt)(x:Keyed):lt x x=false:=by
 cases h:lt x x with
 | false=>rfl
 | true=>exact(O.qU x x h).symm.trans h |>.symm▸rfl
def aP(xs:aL5)(i:Nat):Keyed:=(xs[i]?).getD (Value.none,Value.none)
variable{i j:Nat}
theorem JV{xs ys:aL5}(h:xs[i]? =ys[j]?):aP xs i=aP ys j:=by unfold aP;rw[h]
variable{xs:aL5}
theorem fW(h:i<xs.size):xs[i]? =some (aP xs i):=by unfold aP;rw[getElem?_pos xs i h];rfl
def Seg(lt:aL3)(xs:aL5)(i j:Nat):Prop:=∀p q,i<=p->p<=q->q<j->lt (aP xs q) (aP xs p)=false
def UI(lt:aL3)(xs:aL5)(i j:Nat):Prop:=∀p q,i<=p->p<=q->q<j->lt (aP xs p) (aP xs q)=false
structure Base(κ:SortKind)(a₀:aL5)(st:SortSt):Prop where
 perm:(arrOf st).Perm a₀
 kind:kindOf st=κ
 J7:failedOf st=none
variable{κ:SortKind}{st:SortSt}
theorem Base.size{a₀:aL5}(h:Base κ a₀ st):(arrOf st).size=a₀.size:=h.perm.size_eq
theorem Base.arr{a₀:aL5}(h:Base κ a₀ st)(p:xs.Perm (arrOf st)):Base κ a₀ (setArr st xs):=⟨p.trans h.perm,h.kind,h.J7⟩
theorem Base.mem{a₀:aL5}(h:Base κ a₀ st)(hi:i<a₀.size):aP (arrOf st) i∈a₀.toList:=by
 have hz:i<(arrOf st).size:=by rw[h.size];exact hi
 have e:=fW hz;have:aP (arrOf st) i∈arrOf st:=Array.mem_of_getElem? e;exact(Array.perm_iff_toList_perm.mp h.perm).mem_iff.mp this.val
def mV(prog:Program)(w:World)(A:Around)(s:Shared)(κ:SortKind)(lt:aL3)(a₀:aL5):Prop:=
 ∀x y,x∈a₀.toList->y∈a₀.toList->∀Q:Bool->Shared->Prop,Q (lt x y) s->wpAny (model prog w) A (keyLt' κ x.1 y.1) Q (λ_ _=>False) s
section
variable {prog:Program}{w:World}{A:Around}{E:aL2}{s:Shared}{a₀:aL5}{κ:SortKind}{lt:aL3}
variable{Q:Option Bool->SortSt->Prop}
theorem wlt{x y:Keyed}(C:mV prog w A s κ lt a₀)(c:kindOf st=κ)(d:x∈a₀.toList)(f:y∈a₀.toList)(h:Q (some (lt x y)) st):wpS (model prog w) A E s (lt' x y) Q st:=by
 rw[lt'_eq];refine aH3 (wpS_get ?_);rw[c];refine aH3 (wpS_lift (aIf (aIg (C x y d f (λb a =>b=lt x y/\a =s) ⟨rfl,rfl⟩) (λb a hb=>?_) λ_ _ e=>e.elim)));obtain⟨rfl,rfl⟩:=hb;exact⟨rfl,aH7 h⟩
theorem cX{arr:aL5}{Q:Keyed->SortSt->Prop}(hi:i<arr.size)(h:Q (aP arr i) st):wpS (model prog w) A E s (elem' arr i) Q st:=by
 rw[elem'_eq,fW hi];exact aH7 h
theorem BE(C:mV prog w A s κ lt a₀)(a:Base κ a₀ st)(hi:i<a₀.size)(b:j<a₀.size)(h:Q (some (lt (aP (arrOf st) i) (aP (arrOf st) j))) st):
  wpS (model prog w) A E s (ltAt' i j) Q st:=by
 rw[ltAt'_eq];refine aH3 (wpS_get ?_);have z:=a.size;exact aH3 (cX (by rw[z];exact hi) (aH3 (cX (by rw[z];exact b) (wlt C a.kind (a.mem hi) (a.mem b) h))))
theorem oB{src d:Nat}(a:src<xs.size)(hd:d<=src)(k:Nat):aP (bubble xs src d) k=if k=src-d then aP xs src else if src-d<k/\k<=src then aP xs (k-1) else aP xs k:=by
 have e:=getElem?_bubble a d hd k;unfold aP;rw[e]
 repeat' split
 all_goals rfl
theorem gK(a:j<=xs.size)(k:Nat):aP (mirror xs i j ((j-i) / 2)) k=if i<=k/\k<j then aP xs (i+j-1-k) else aP xs k:=by
 have e:=getElem?_mirror_all (i:=i) a k;unfold aP;rw[e];split <;> rfl
theorem QO(O:Wk lt)(C:mV prog w A s κ lt a₀){lo n ok:Nat}{Q:Bool->SortSt->Prop}(J:lo+n<=a₀.size)(bO:ok<=n)(L:Base κ a₀ st)(M:Seg lt (arrOf st) lo (lo+ok))
  (h:∀a,Base κ a₀ a ->Seg lt (arrOf a) lo (lo+n)->(∀k,k<lo->aP (arrOf a) k=aP (arrOf st) k)->pendingOf a =pendingOf st->Q true a):wpS (model prog w) A E s (binarySort' lo n ok) Q st:=by
 rw[binarySort'_eq]
 refine aH3 (aIu (aIh (I:=λk c a =>c=(none,())/\Base κ a₀ a /\Seg lt (arrOf a) lo (lo+min k n)/\(∀k,k<lo->aP (arrOf a) k=aP (arrOf st) k)/\pendingOf a =pendingOf st)
  (Q:=λc a =>c=(none,())/\Base κ a₀ a /\Seg lt (arrOf a) lo (lo+n)/\(∀k,k<lo->aP (arrOf a) k=aP (arrOf st) k)/\pendingOf a =pendingOf st) ?step ?fin ?init) ?post)
 case post=>
  rintro c a ⟨rfl,e,d,o,t⟩;exact aH7 (h a e d o t)
 case init=>
  refine⟨rfl,L,λp q B u K=>?_,λ_ _=>rfl,rfl⟩;by_cases z:p=q
  ·subst z;exact O.JX _
  ·exact M p q B u (by lia)
 case fin=>
  rintro c a ⟨N,e,d,r⟩;refine⟨N,e,?_,r⟩
  rwa [show min (max (max ok 1) n) n=n by (clear r bO J;lia)]at d
 case step=>
  rintro k c a D F ⟨rfl,e,d,o,t⟩;rw[show min k n=k by lia]at d;have G:lo+k<a₀.size:=by lia
  refine aH3 (aIu (aIh (I:=λx c b =>b =a /\∃l r,c=(none,l,r)/\l<=r/\r<=k/\r-l<=k-x/\
    (∀i,i<l->lt (aP (arrOf a) (lo+k)) (aP (arrOf a) (lo+i))=false)/\(∀i,r<=i->i<k->lt (aP (arrOf a) (lo+k)) (aP (arrOf a) (lo+i))=true))
   (Q:=λc b =>b =a /\∃l r,c=(none,l,r)/\l<=k/\
    (∀i,i<l->lt (aP (arrOf a) (lo+k)) (aP (arrOf a) (lo+i))=false)/\(∀i,l<=i->i<k->lt (aP (arrOf a) (lo+k)) (aP (arrOf a) (lo+i))=true)) ?istep ?ifin ?iinit) ?ipost)
  case iinit=>exact⟨rfl,0,k,rfl,by lia,by lia,by lia,λi hi=>by lia,λi z P=>by lia⟩
  case ifin=>
   rintro c b ⟨rfl,l,r,rfl,H,v,R,f,g⟩;obtain rfl:l=r:=by lia
   exact⟨rfl,l,l,rfl,v,f,g⟩
  case istep=>
   rintro x c b _ S ⟨rfl,l,r,rfl,H,v,R,f,g⟩;dsimp only;by_cases y:l>=r
   ·rw[if_pos y];obtain rfl:l=r:=by lia
    exact aH7 ⟨rfl,l,l,rfl,v,f,g⟩
   ·rw[if_neg y];refine aH3 (BE C e G (by lia) ?_)
    cases hless:lt (aP (arrOf b) (lo+k)) (aP (arrOf b) (lo+(l+r) / 2)) with
    | true=>
     simp only[if_true];refine aH7 ⟨rfl,l,(l+r) / 2,rfl,by lia,by lia,by lia,f,λi z P=>?_⟩
     cases hx:lt (aP (arrOf b) (lo+k)) (aP (arrOf b) (lo+i)) with
     | true=>rfl
     | false=>rw[O.tr _ _ _ (d (lo+(l+r) / 2) (lo+i) (by lia) (by lia) (by lia)) hx]at hless;cases hless
    | false=>
     simp only[Bool.false_eq_true,if_false];refine aH7 ⟨rfl,(l+r) / 2+1,r,rfl,by lia,by lia,by lia,λi z=>?_,g⟩;exact O.tr _ _ _ (d (lo+i) (lo+(l+r) / 2) (by lia) (by lia) (by lia)) hless
  case ipost=>
   rintro c b ⟨rfl,l,r,rfl,T,f,g⟩;show wpS _ _ _ _ (do moveDown' (lo+k) (lo+l);pure (ForInStep.yield (none,()))) _ _;rw[moveDown'_eq];have m:lo+k<(arrOf b).size:=by rw[e.size];exact G
   have U:lo+k-(lo+l)=k-l:=by lia
   refine aH3 (aKb (aH7 ⟨rfl,e.arr (bubble_perm _ _ _),?_,λj V=>?_,t⟩))
   ·rw[show min (k+1) n=k+1 by lia];intro p q B u K;show lt (aP (bubble (arrOf b) (lo+k) (lo+k-(lo+l))) q) (aP (bubble (arrOf b) (lo+k) (lo+k-(lo+l))) p)=false;rw[oB m (by lia),oB m (by lia),show lo+k-(lo+k-(lo+l))=lo+l by (clear K u B U m G F D bO J;lia)]
    repeat' split
    all_goals first
     | (exfalso;lia)
     | exact O.JX _
     | (have:=f (p-lo) (by lia);rwa [show lo+(p-lo)=p by lia]at this)
     | (have:=O.qU _ _ (g (q-1-lo) (by lia) (by lia));rwa [show lo+(q-1-lo)=q-1 by lia]at this)
     | exact d _ _ (by lia) (by lia) (by lia)
   ·show aP (bubble (arrOf b) (lo+k) (lo+k-(lo+l))) j=_;rw[oB m (by lia),if_neg (by lia),if_neg (by lia)];exact o j V
end
def upL(lo a d:Nat):StateT SortSt Sem (Option (Option Nat)×Nat):=
 forIn [a:d] ((none,a):Option (Option Nat)×Nat) λ_ c=>do
  let x<-ltAt' (lo+c.snd) (lo+c.snd-1)
  match x with
  | some b=>if b=true then pure (ForInStep.done (none,c.snd)) else pure (ForInStep.yield (none,c.snd+1))
  | _=>pure (ForInStep.done (some none,c.snd))
def CU(lo n a:Nat):StateT SortSt Sem (Option Nat):=do
 reverseSlice' lo (lo+n)
 let c<-upL lo n a
 match c.fst with
 | some r=>pure r
 | none=>pure (some c.snd)
def ID(lo n d:Nat):StateT SortSt Sem (Option (Option Nat)×Nat×Nat):=
 forIn [n:d] ((none,n,0):Option (Option Nat)×Nat×Nat) λ_ c=>do
  let x<-ltAt' (lo+c.snd.fst) (lo+c.snd.fst-1)
  match x with
  | some a=>
   if a=true then
    if c.snd.snd > 0 then do
     reverseSlice' (lo+c.snd.fst-(c.snd.snd+1)) (lo+c.snd.fst)
     pure (ForInStep.yield (none,c.snd.fst+1,0))
    else pure (ForInStep.yield (none,c.snd.fst+1,0))
   else do
    let y<-ltAt' (lo+c.snd.fst-1) (lo+c.snd.fst)
    match y with
    | some b=>if b=true then pure (ForInStep.done (none,c.snd.fst,c.snd.snd)) else pure (ForInStep.yield (none,c.snd.fst+1,c.snd.snd+1))
    | _=>pure (ForInStep.done (some none,c.snd.fst,c.snd.snd))
  | _=>pure (ForInStep.done (some none,c.snd.fst,c.snd.snd))
def DG(lo n a:Nat):StateT SortSt Sem (Option Nat):=do
 liftM (rule "list.sort.descending-run")
 let c<-ID lo (n+1) a
 match c.fst with
 | some r=>pure r
 | none=>
  if c.snd.snd > 0 then do
   reverseSlice' (lo+c.snd.fst-(c.snd.snd+1)) (lo+c.snd.fst)
   CU lo c.snd.fst a
  else CU lo c.snd.fst a
theorem KG(lo e:Nat):countRun' lo e=(do
  let c<-upL lo 1 e
  match c.fst with
  | some r=>pure r
  | none=>
   if (c.snd==e)=true then pure (some c.snd)
   else if c.snd > 1 then do
    let x<-ltAt' lo (lo+c.snd-1)
    match x with
    | some b=>if b=true then pure (some c.snd) else do
      reverseSlice' lo (lo+c.snd)
      DG lo c.snd e
    | _=>pure none
   else DG lo c.snd e):=by
 rw[countRun'_eq];dsimp only;unfold DG CU ID upL;congr 1;funext c;obtain⟨r,n⟩:=c
 cases r with
 | some r=>rfl
 | none=>
  dsimp only;have fin:∀(a:Option (Option Nat)×Nat),(match a.fst with | some r=>(pure r:StateT SortSt Sem (Option Nat)) | none=>pure (some a.snd))=(match a.fst with | some r=>pure r | none=>pure (some a.snd)):=λ_=>rfl;split
  ·rfl
  ·split
   ·congr 1;funext x
    cases x with
    | none=>rfl
    | some b=>
     dsimp only;split
     ·rfl
     ·congr 1;funext u;congr 1;funext u1;congr 1;congr 1;funext c2;obtain⟨f,h,i⟩:=c2
      cases f with
      | some f=>rfl
      | none=>
       dsimp only;split
       ·congr 1;funext v;congr 1;funext v1;congr 1;funext a;obtain⟨d,g⟩:=a;cases d <;> rfl
       ·congr 1;funext v1;congr 1;funext a;obtain⟨d,g⟩:=a;cases d <;> rfl
   ·congr 1;funext u1;congr 1;congr 1;funext c2;obtain⟨f,h,i⟩:=c2
    cases f with
    | some f=>rfl
    | none=>
     dsimp only;split
     ·congr 1;funext v;congr 1;funext v1;congr 1;funext a;obtain⟨d,g⟩:=a;cases d <;> rfl
     ·congr 1;funext v1;congr 1;funext a;obtain⟨d,g⟩:=a;cases d <;> rfl
section
variable {prog:Program}{w:World}{A:Around}{E:aL2}{s:Shared}{a₀:aL5}{κ:SortKind}{lt:aL3}
theorem QK{Q:Unit->SortSt->Prop}(h:Q () (setArr st (mirror (arrOf st) i j ((j-i) / 2)))):wpS (model prog w) A E s (reverseSlice' i j) Q st:=by
 rw[reverseSlice'_eq];exact aKb h
def i6(lo:Nat)(st a :SortSt):Prop:=(∀k,k<lo->aP (arrOf a) k=aP (arrOf st) k)/\pendingOf a =pendingOf st
variable{lo:Nat}
theorem i6.refl:i6 lo st st:=⟨λ_ _=>rfl,rfl⟩
theorem i6.trans{a b c:SortSt}(h:i6 lo a b)(h' :i6 lo b c):i6 lo a c:=⟨λk d=>(h'.1 k d).trans (h.1 k d),h'.2.trans h.2⟩
theorem i6.mirror(hi:lo<=i)(a:j<=(arrOf st).size):i6 lo st (setArr st (PyProof.Rows.mirror (arrOf st) i j ((j-i) / 2))):=
 ⟨λk b=>by show aP (PyProof.Rows.mirror (arrOf st) i j ((j-i) / 2)) k=_;rw[gK a,if_neg (by lia)],rfl⟩
theorem wup(O:Wk lt)(C:mV prog w A s κ lt a₀){lo a e:Nat}{Q:Option (Option Nat)×Nat->SortSt->Prop}(t:lo+e<=a₀.size)(ha:1<=a)(f:a<=e)(m:Base κ a₀ st)(o:Seg lt (arrOf st) lo (lo+a))
  (h:∀n,a<=n->n<=e->Seg lt (arrOf st) lo (lo+n)->(n=e\/lt (aP (arrOf st) (lo+n)) (aP (arrOf st) (lo+n-1))=true)->Q (none,n) st):wpS (model prog w) A E s (upL lo a e) Q st:=by
 unfold upL;refine aIh (I:=λx c d =>d =st/\c=(none,x)/\Seg lt (arrOf st) lo (lo+x)) ?step ?fin ⟨rfl,rfl,o⟩
 case fin=>
  rintro c d ⟨rfl,rfl,b⟩;rw[show max a e=e by lia]at b ⊢;exact h e f (aGy _) b (.inl rfl)
 case step=>
  rintro x c d g r ⟨rfl,rfl,b⟩;dsimp only;refine aH3 (BE C m (by lia) (by lia) ?_)
  cases hless:lt (aP (arrOf d) (lo+x)) (aP (arrOf d) (lo+x-1)) with
  | true=>
   simp only[if_true];exact aH7 (h x g (by lia) b (.inr hless))
  | false=>
   simp only[Bool.false_eq_true,if_false];refine aH7 ⟨rfl,rfl,λp q l i u=>?_⟩;by_cases j:q<lo+x
   ·exact b p q l i j
   ·obtain rfl:q=lo+x:=by lia
    by_cases k :p=lo+x
    ·subst k;exact O.JX _
    ·exact O.tr _ _ _ (b p (lo+x-1) l (by lia) (by lia)) hless
variable{n b8:Nat}{Q:Option Nat->SortSt->Prop}
theorem UK(O:Wk lt)(C:mV prog w A s κ lt a₀)(g:lo+b8<=a₀.size)(i:1<=n)(c:n<=b8)(f:Base κ a₀ st)(j:UI lt (arrOf st) lo (lo+n))
  (h:∀m a,Base κ a₀ a ->1<=m->m<=b8->Seg lt (arrOf a) lo (lo+m)->i6 lo st a ->Q (some m) a):wpS (model prog w) A E s (CU lo n b8) Q st:=by
 unfold CU;have hsz:lo+n<=(arrOf st).size:=by rw[f.size];lia
 refine aH3 (QK ?_);have b :Base κ a₀ (setArr st (mirror (arrOf st) lo (lo+n) ((lo+n-lo) / 2))):=f.arr (mirror_perm _ _ _ _);refine aH3 (wup O C g i c b ?_ λm k d e _=>aH7 (h m _ b (by lia) d e (i6.mirror (aGy _) hsz)));intro p q o l r;show lt (aP (mirror (arrOf st) lo (lo+n) ((lo+n-lo) / 2)) q) (aP (mirror (arrOf st) lo (lo+n) ((lo+n-lo) / 2)) p)=false;rw[gK hsz,gK hsz,if_pos (by lia),if_pos (by lia)];exact j _ _ (by lia) (by lia) (by lia)
def Alike(lt:aL3)(xs:aL5)(i j:Nat):Prop:=∀p q,i<=p->p<j->i<=q->q<j->lt (aP xs p) (aP xs q)=false
theorem oE(O:Wk lt)(d:j<=xs.size)(he:Alike lt xs i j)(b:UI lt xs lo n)(hi:lo<=i)(h:j<=n):UI lt (mirror xs i j ((j-i) / 2)) lo n:=by
 intro p q e c f;rw[gK d,gK d];by_cases g:i<=p/\p<j
 ·rw[if_pos g];by_cases a:i<=q/\q<j
  ·rw[if_pos a];exact he _ _ (by lia) (by lia) (by lia) (by lia)
  ·rw[if_neg a];exact b _ _ (by lia) (by lia) f
 ·rw[if_neg g];by_cases a:i<=q/\q<j
  ·rw[if_pos a];exact b _ _ e (by lia) (by lia)
  ·rw[if_neg a];exact b _ _ e c f
theorem aAs(O:Wk lt)(C:mV prog w A s κ lt a₀){Q:Option (Option Nat)×Nat×Nat->SortSt->Prop}(J:lo+b8<=a₀.size)(t:1<=n)(u:n<=b8)(z:Base κ a₀ st)(B:UI lt (arrOf st) lo (lo+n))
  (h:∀m b a,Base κ a₀ a ->n<=m->m<=b8->UI lt (arrOf a) lo (lo+m)->b+1<=m->Alike lt (arrOf a) (lo+m-(b+1)) (lo+m)->i6 lo st a ->Q (none,m,b) a):wpS (model prog w) A E s (ID lo n b8) Q st:=by
 unfold ID
 have one:∀(xs:aL5) (x:Nat),1<=x->Alike lt xs (lo+x-(0+1)) (lo+x):=λxs x K p q t D F G=>by
  obtain rfl:p=q:=by lia
  exact O.JX _
 refine aIh (I:=λx c a =>∃b,c=(none,x,b)/\Base κ a₀ a /\UI lt (arrOf a) lo (lo+x)/\b+1<=x/\Alike lt (arrOf a) (lo+x-(b+1)) (lo+x)/\i6 lo st a) ?step ?fin ⟨0,rfl,z,B,by lia,one _ _ t,i6.refl⟩
 case fin=>
  rintro c a ⟨b,rfl,d,e,l,he,o⟩;rw[show max n b8=b8 by lia]at e l he⊢;exact h b8 b a d u (aGy _) e l he o
 case step=>
  rintro x c a v H ⟨b,rfl,d,e,l,he,o⟩;dsimp only;have hsz:lo+x<=(arrOf a).size:=by rw[d.size];lia
  refine aH3 (BE C d (by lia) (by lia) ?_)
  cases hless:lt (aP (arrOf a) (lo+x)) (aP (arrOf a) (lo+x-1)) with
  | true=>
   simp only[if_true]
   have g:UI lt (arrOf a) lo (lo+x+1):=by
    intro p q r j l;by_cases f:q<lo+x
    ·exact e p q r j f
    ·obtain rfl:q=lo+x:=by lia
     by_cases k :p=lo+x
     ·subst k;exact O.JX _
     ·exact O.tr _ _ _ (O.qU _ _ hless) (e p (lo+x-1) r (by lia) (by lia))
   by_cases i:b > 0
   ·rw[if_pos i];refine aH3 (QK (aH7 ⟨0,rfl,d.arr (mirror_perm _ _ _ _),?_,by lia,one _ _ (by lia),o.trans (i6.mirror (by lia) hsz)⟩));exact oE O hsz he g (by lia) (by lia)
   ·rw[if_neg i];exact aH7 ⟨0,rfl,d,g,by lia,one _ _ (by lia),o⟩
  | false=>
   simp only[Bool.false_eq_true,if_false];refine aH3 (BE C d (by lia) (by lia) ?_)
   cases hlarger:lt (aP (arrOf a) (lo+x-1)) (aP (arrOf a) (lo+x)) with
   | true=>
    simp only[if_true];exact aH7 (h x b a d v (by lia) e l he o)
   | false=>
    simp only[Bool.false_eq_true,if_false];refine aH7 ⟨b+1,rfl,d,λp q r j l=>?_,by lia,λp q t D F G=>?_,o⟩
    ·by_cases f:q<lo+x
     ·exact e p q r j f
     ·obtain rfl:q=lo+x:=by lia
      by_cases k :p=lo+x
      ·subst k;exact O.JX _
      ·exact O.tr _ _ _ hlarger (e p (lo+x-1) r (by lia) (by lia))
    ·by_cases y:p=lo+x
     ·subst y;by_cases f:q=lo+x
      ·subst f;exact O.JX _
      ·exact O.tr _ _ _ (he (lo+x-1) q (by lia) (by lia) (by lia) (by lia)) hless
     ·by_cases f:q=lo+x
      ·subst f;exact O.tr _ _ _ hlarger (he p (lo+x-1) (by lia) (by lia) (by lia) (by lia))
      ·exact he p q (by lia) (by lia) (by lia) (by lia)
theorem UM(O:Wk lt)(C:mV prog w A s κ lt a₀)(g:lo+b8<=a₀.size)(i:n+1<=b8)(t:Base κ a₀ st)(u:UI lt (arrOf st) lo (lo+(n+1)))
  (h:∀m a,Base κ a₀ a ->1<=m->m<=b8->Seg lt (arrOf a) lo (lo+m)->i6 lo st a ->Q (some m) a):wpS (model prog w) A E s (DG lo n b8) Q st:=by
 unfold DG;refine aH3 (wpS_lift (aI2 ⟨rfl,?_⟩));refine aH3 (aAs O C g (by lia) i t u λm j a c v e f x he r=>?_);dsimp only;have hsz:lo+m<=(arrOf a).size:=by rw[c.size];lia
 by_cases b:j > 0
 ·rw[if_pos b];refine aH3 (QK (UK O C g (by lia) e (c.arr (mirror_perm _ _ _ _)) ?_ λm d k l o p q=>h m d k l o p (r.trans ((i6.mirror (by lia) hsz).trans q))));exact oE O hsz he f (by lia) (aGy _)
 ·rw[if_neg b];exact UK O C g (by lia) e c f λm d k l o p q=>h m d k l o p (r.trans q)
theorem VG(O:Wk lt)(C:mV prog w A s κ lt a₀)(l:lo+b8<=a₀.size)(x:1<=b8)(d:Base κ a₀ st)
  (h:∀m b,Base κ a₀ b ->1<=m->m<=b8->Seg lt (arrOf b) lo (lo+m)->i6 lo st b ->Q (some m) b):wpS (model prog w) A E s (countRun' lo b8) Q st:=by
 rw[KG]
 refine aH3 (wup O C l (aGy 1) x d (λp q x K L=>by
  obtain rfl:p=q:=by lia
  exact O.JX _) λn g i c o=>?_)
 dsimp only;by_cases e:n=b8
 ·rw[if_pos (by simpa using e)];exact aH7 (h n st d g i c i6.refl)
 ·rw[if_neg (by simpa using e)];have j:lt (aP (arrOf st) (lo+n)) (aP (arrOf st) (lo+n-1))=true:=o.resolve_left e;by_cases k:n > 1
  ·rw[if_pos k];refine aH3 (BE C d (by lia) (by lia) ?_)
   cases hrose:lt (aP (arrOf st) lo) (aP (arrOf st) (lo+n-1)) with
   | true=>
    simp only[if_true];exact aH7 (h n st d g i c i6.refl)
   | false=>
    simp only[Bool.false_eq_true,if_false];have hsz:lo+n<=(arrOf st).size:=by rw[d.size];lia
    have a:Alike lt (arrOf st) lo (lo+n):=λp q M N y P=>by
     have z:=c lo p (aGy _) (by lia) (by lia);have B:=c q (lo+n-1) y (by lia) (by lia);exact O.tr _ _ _ (O.tr _ _ _ B hrose) z
    have hd:UI lt (arrOf st) lo (lo+(n+1)):=λp q r t D=>by
     by_cases u:q<lo+n
     ·exact a p q r (by lia) (by lia) u
     ·obtain rfl:q=lo+n:=by lia
      by_cases f :p=lo+n
      ·subst f;exact O.JX _
      ·exact O.tr _ _ _ (O.qU _ _ j) (a p (lo+n-1) r (by lia) (by lia) (by lia))
    refine aH3 (QK (UM O C l (by lia) (d.arr (mirror_perm _ _ _ _)) ?_ λm v F G H I J=>h m v F G H I ((i6.mirror (aGy _) hsz).trans J)));exact oE O hsz a hd (aGy _) (by lia)
  ·rw[if_neg k];obtain rfl:n=1:=by lia
   refine UM O C l (by lia) d (λp q r t D=>?_) h;by_cases f :p=q
   ·subst f;exact O.JX _
   ·obtain rfl:p=lo:=by lia
    obtain rfl:q=p+1:=by lia
    exact O.qU _ _ j
end
def dP:Bool->Keyed->Array Keyed->Nat->Nat->Nat->StateT SortSt Sem (Option Nat):=sortPriv% PySem.Builtin.gallop
def jP(left:Bool)(key:Keyed)(arr:aL5)(base i:Nat):StateT SortSt Sem (Option Bool):=do
 let x<-elem' arr (base+i)
 if left then lt' x key else return (<-lt' key x).map (!·)
theorem FX(left:Bool)(key:Keyed)(arr:aL5)(base n a:Nat):dP left key arr base n a=(do
 let mut lastofs:=0;let mut ofs:=1;let mut lo:=0;let mut hi:=0
 let some right<-jP left key arr base a | return none
 if right then
  let maxofs:=n-a
  for _ in [0:n] do
   if ofs>=maxofs then break
   let some more<-jP left key arr base (a+ofs) | return none
   if !more then break
   lastofs:=ofs;ofs:=2*ofs+1
  lo:=a+lastofs+1;hi:=a+min ofs maxofs
 else
  let maxofs:=a+1
  for _ in [0:n] do
   if ofs>=maxofs then break
   let some found<-jP left key arr base (a-ofs) | return none
   if found then break
   lastofs:=ofs;ofs:=2*ofs+1
  lo:=a+1-min ofs maxofs;hi:=a-lastofs
 for _ in [0:n] do
  if lo>=hi then break
  let m:=lo+(hi-lo) / 2
  let some more<-jP left key arr base m | return none
  if more then lo:=m+1 else hi:=m
 return some hi):=rfl
section
variable {prog:Program}{w:World}{A:Around}{E:aL2}{s:Shared}{a₀:aL5}{κ:SortKind}{lt:aL3}
def jQ(lt:aL3)(left:Bool)(key:Keyed)(arr:aL5)(base i:Nat):Bool:=if left then lt (aP arr (base+i)) key else !(lt key (aP arr (base+i)))
variable{key:Keyed}{base:Nat}
theorem sO(C:mV prog w A s κ lt a₀){left:Bool}{arr:aL5}{Q:Option Bool->SortSt->Prop}(a:kindOf st=κ)(hi:base+i<arr.size)(b:aP arr (base+i)∈a₀.toList)(c:key∈a₀.toList)
  (h:Q (some (jQ lt left key arr base i)) st):wpS (model prog w) A E s (jP left key arr base i) Q st:=by
 unfold jP;refine aH3 (cX hi ?_)
 cases left with
 | true=>
  simp only[if_true];exact wlt C a b c h
 | false=>
  simp only[Bool.false_eq_true,if_false];exact aH3 (wlt C a c b (aH7 h))
variable{n:Nat}
theorem p9(O:Wk lt){left:Bool}{arr:aL5}(a:Seg lt arr base (base+n))(b:i<=j)(c:j<n)(h:jQ lt left key arr base j=true):jQ lt left key arr base i=true:=by
 have e:=a (base+i) (base+j) (by lia) (by lia) (by lia);unfold jQ at h⊢
 cases left with
 | true=>
  simp only[if_true]at h⊢
  cases hx:lt (aP arr (base+i)) key with
  | true=>rfl
  | false=>rw[O.tr _ _ _ hx e]at h;cases h
 | false=>
  simp only[Bool.false_eq_true,if_false]at h⊢;have h' :lt key (aP arr (base+j))=false:=by simpa using h
  rw[O.tr _ _ _ e h'];rfl
theorem qT(O:Wk lt){left:Bool}{arr:aL5}(b:Seg lt arr base (base+n))(a:i<=j)(c:j<n)(h:jQ lt left key arr base i=false):jQ lt left key arr base j=false:=by
 cases hx:jQ lt left key arr base j with
 | false=>rfl
 | true=>rw[p9 O b a c hx]at h;cases h
def T6(left:Bool)(key:Keyed)(arr:aL5)(base n lo0 hi0:Nat):StateT SortSt Sem (Option Nat):=do
 let mut lo:=lo0;let mut hi:=hi0
 for _ in [0:n] do
  if lo>=hi then break
  let m:=lo+(hi-lo) / 2
  let some more<-jP left key arr base m | return none
  if more then lo:=m+1 else hi:=m
 return some hi
variable{Q:Option Nat->SortSt->Prop}
theorem aAt(O:Wk lt)(C:mV prog w A s κ lt a₀){left:Bool}{arr:aL5}{base n lo hi:Nat}(v:kindOf st=κ)(hb:base+n<=arr.size)(u:Seg lt arr base (base+n))
  (y:∀i,i<n->aP arr (base+i)∈a₀.toList) (z:key∈a₀.toList) (b:lo<=hi) (d:hi<=n) (p:∀i,i<lo->jQ lt left key arr base i=true) (q:∀i,hi<=i->i<n->jQ lt left key arr base i=false)
  (h:∀k,k<=n->(∀i,i<k->jQ lt left key arr base i=true)->(∀i,k<=i->i<n->jQ lt left key arr base i=false)->Q (some k) st):wpS (model prog w) A E s (T6 left key arr base n lo hi) Q st:=by
 unfold T6;dsimp only
 refine aH3 (aIu (aIh (I:=λx c a =>a =st/\∃l r,c=(none,l,r)/\l<=r/\r<=n/\r-l<=n-x/\(∀i,i<l->jQ lt left key arr base i=true)/\(∀i,r<=i->i<n->jQ lt left key arr base i=false))
  (Q:=λc a =>a =st/\∃r,c=(none,r,r)/\r<=n/\(∀i,i<r->jQ lt left key arr base i=true)/\(∀i,r<=i->i<n->jQ lt left key arr base i=false)) ?step ?fin ⟨rfl,lo,hi,rfl,b,d,by lia,p,q⟩) ?post)
 case post=>
  rintro c a ⟨rfl,r,rfl,f,e,g⟩;exact aH7 (h r f e g)
 case fin=>
  rintro c a ⟨rfl,l,r,rfl,f,e,g,m,o⟩;obtain rfl:l=r:=by lia
  exact⟨rfl,l,rfl,e,m,o⟩
 case step=>
  rintro x c a _ t ⟨rfl,l,r,rfl,f,e,g,m,o⟩;dsimp only;by_cases j:l>=r
  ·rw[if_pos j];obtain rfl:l=r:=by lia
   exact aH7 ⟨rfl,l,rfl,e,m,o⟩
  ·rw[if_neg j];refine aH3 (sO C v (by (clear g f t d b;lia)) (y _ (by (clear g f t d b hb;lia))) z ?_)
   cases hb' :jQ lt left key arr base (l+(r-l) / 2) with
   | true=>
    simp only[if_true];exact aH7 ⟨rfl,_,r,rfl,by (clear g e f t d b hb;lia),e,by lia,λi hi=>p9 O u (by lia) (by lia) hb',o⟩
   | false=>
    simp only[Bool.false_eq_true,if_false];exact aH7 ⟨rfl,l,_,rfl,by lia,by lia,by lia,m,λi B D=>qT O u B D hb'⟩
theorem mE(O:Wk lt)(C:mV prog w A s κ lt a₀){left:Bool}{arr:aL5}{base n b:Nat}(r:kindOf st=κ)(hb:base+n<=arr.size)(v:b<n)(q:Seg lt arr base (base+n))
  (t:∀i,i<n->aP arr (base+i)∈a₀.toList) (u:key∈a₀.toList)
  (h:∀k,k<=n->(∀i,i<k->jQ lt left key arr base i=true)->(∀i,k<=i->i<n->jQ lt left key arr base i=false)->Q (some k) st):wpS (model prog w) A E s (dP left key arr base n b) Q st:=by
 rw[FX];refine aH3 (sO C r (by lia) (t b v) u ?_);dsimp only
 cases hr:jQ lt left key arr base b with
 | true=>
  simp only[if_true]
  refine aH3 (aIu (aIh (I:=λx c e =>e =st/\∃a d,c=(none,a,d)/\a<d/\x+1<=d/\b+a<n/\jQ lt left key arr base (b+a)=true)
   (Q:=λc e =>e =st/\∃a d,c=(none,a,d)/\a<d/\b+a<n/\jQ lt left key arr base (b+a)=true/\(n-b<=d\/(b+d<n/\jQ lt left key arr base (b+d)=false))) ?step ?fin ⟨rfl,0,1,rfl,by lia,by lia,by lia,by simpa using hr⟩) ?post)
  case fin=>
   rintro c e ⟨rfl,l,o,rfl,m,y,g,j⟩;exact⟨rfl,l,o,rfl,m,g,j,.inl (by lia)⟩
  case step=>
   rintro x c e _ F ⟨rfl,l,o,rfl,m,y,g,j⟩;dsimp only;by_cases f:o>=n-b
   ·rw[if_pos f];exact aH7 ⟨rfl,l,o,rfl,m,g,j,.inl f⟩
   ·rw[if_neg f];refine aH3 (sO C r (by lia) (t _ (by lia)) u ?_)
    cases hb' :jQ lt left key arr base (b+o) with
    | true=>
     simp only[Bool.not_true,Bool.false_eq_true,if_false];exact aH7 ⟨rfl,o,_,rfl,by lia,by lia,by lia,hb'⟩
    | false=>
     simp only[Bool.not_false,if_true];exact aH7 ⟨rfl,l,o,rfl,m,g,j,.inr ⟨by lia,hb'⟩⟩
  case post=>
   rintro c e ⟨rfl,l,o,rfl,m,g,j,p⟩;dsimp only;show wpS _ _ _ _ (T6 left key arr base n (b+l+1) (b+min o (n-b))) _ _;refine aAt (lo:=b+l+1) (hi:=b+min o (n-b)) O C r hb q t u (by (clear p v hb;lia)) (by (clear p g m hb;lia)) (λi hi=>p9 O q (by lia) g j) (λi D z=>?_) h;rcases p with p | ⟨p,B⟩
   ·lia
   ·exact qT O q (by lia) z B
 | false=>
  simp only[Bool.false_eq_true,if_false]
  refine aH3 (aIu (aIh (I:=λx c e =>e =st/\∃a d,c=(none,a,d)/\a<d/\x+1<=d/\a<=b/\jQ lt left key arr base (b-a)=false)
   (Q:=λc e =>e =st/\∃a d,c=(none,a,d)/\a<d/\a<=b/\jQ lt left key arr base (b-a)=false/\(b+1<=d\/(d<=b/\jQ lt left key arr base (b-d)=true))) ?step ?fin ⟨rfl,0,1,rfl,by lia,by lia,by lia,by simpa using hr⟩) ?post)
  case fin=>
   rintro c e ⟨rfl,l,o,rfl,m,y,g,j⟩;exact⟨rfl,l,o,rfl,m,g,j,.inl (by lia)⟩
  case step=>
   rintro x c e _ F ⟨rfl,l,o,rfl,m,y,g,j⟩;dsimp only;by_cases f:o>=b+1
   ·rw[if_pos f];exact aH7 ⟨rfl,l,o,rfl,m,g,j,.inl f⟩
   ·rw[if_neg f];refine aH3 (sO C r (by lia) (t _ (by lia)) u ?_)
    cases hb' :jQ lt left key arr base (b-o) with
    | true=>
     simp only[if_true];exact aH7 ⟨rfl,l,o,rfl,m,g,j,.inr ⟨by lia,hb'⟩⟩
    | false=>
     simp only[Bool.false_eq_true,if_false];exact aH7 ⟨rfl,o,_,rfl,by lia,by lia,by lia,hb'⟩
  case post=>
   rintro c e ⟨rfl,l,o,rfl,m,g,j,p⟩;dsimp only;show wpS _ _ _ _ (T6 left key arr base n (b+1-min o (b+1)) (b-l)) _ _;refine aAt (lo:=b+1-min o (b+1)) (hi:=b-l) O C r hb q t u (by (clear p g v hb;lia)) (by lia) (λi hi=>?_) (λi D z=>qT O q D z j) h;rcases p with p | ⟨p,B⟩
   ·lia
   ·exact p9 O q (by lia) (by lia) B
end
structure Mg(lt:aL3)(all o p q:List Keyed):Prop where
 perm:(o++(p++q)).Perm all
 so:o.Pairwise λx y=>lt y x=false
 sp:p.Pairwise λx y=>lt y x=false
 sq:q.Pairwise λx y=>lt y x=false
 low:∀x∈o,∀y∈p++q,lt y x=false
theorem Mg.left{lt:aL3}{all o u p q:List Keyed}(M:Mg lt all o (u++p) q)(h:∀x∈u,∀y∈q,lt y x=false):Mg lt all (o++u) p q:=by
 have sp:=aH9.mp M.sp;refine⟨?_,aH9.mpr ⟨M.so,sp.1,λx hx y a=>M.low x hx y (by simp[a])⟩,sp.2.1,M.sq,λx hx y a=>?_⟩
 ·have:=M.perm;simpa[List.append_assoc] using this
 ·rcases aGz.mp hx with hx | hx
  ·exact M.low x hx y (by rcases aGz.mp a with z | z <;> simp[z])
  ·rcases aGz.mp a with z | z
   ·exact sp.2.2 x hx y z
   ·exact h x hx y z
theorem Mg.right{lt:aL3}{all o u p q:List Keyed}(M:Mg lt all o p (u++q))(h:∀x∈u,∀y∈p,lt y x=false):Mg lt all (o++u) p q:=by
 have sq:=aH9.mp M.sq;refine⟨?_,aH9.mpr ⟨M.so,sq.1,λx hx y a=>M.low x hx y (by simp[a])⟩,M.sp,sq.2.1,λx hx y a=>?_⟩
 ·refine List.Perm.trans ?_ M.perm;rw[List.append_assoc];refine aJ7 o ?_;rw[<-List.append_assoc,<-List.append_assoc];exact aJ4 q aJ8
 ·rcases aGz.mp hx with hx | hx
  ·exact M.low x hx y (by rcases aGz.mp a with z | z <;> simp[z])
  ·rcases aGz.mp a with z | z
   ·exact h x hx y z
   ·exact sq.2.2 x hx y z
def Good(lt:aL3)(all r:List Keyed):Prop:=r.Perm all/\r.Pairwise λx y=>lt y x=false
theorem Mg.fin{lt:aL3}{all o p q:List Keyed}(M:Mg lt all o p q)(h:p=[]\/q=[]):Good lt all (o++(p++q)):=by
 refine⟨M.perm,aH9.mpr ⟨M.so,?_,M.low⟩⟩;rcases h with rfl | rfl
 ·simpa using M.sq
 ·simpa using M.sp
variable{x:Keyed}
theorem Mg.aGc{lt:aL3}{all o q:List Keyed}(M:Mg lt all o [x] q)(h:∀y∈q,lt x y=false):Good lt all (o++(q++[x])):=by
 refine⟨(aJ7 o aJ8).trans M.perm,aH9.mpr ⟨M.so,aH9.mpr ⟨M.sq,by simp,λa ha b hb=>?_⟩,λa ha b hb=>M.low a ha b ?_⟩⟩
 ·have:b=x:=by simpa using hb
  rw[this];exact h a ha
 ·rcases aGz.mp hb with z | z <;> simp[z] <;> simp_all
def pN:Array Keyed->Array Keyed->StateT SortSt Sem (aL5):=sortPriv% PySem.Builtin.mergeLo
def eX(g:Nat):StateT SortSt Sem Unit:=modify λs=>SortSt.mk' (kindOf s) (arrOf s) (pendingOf s) g (failedOf s)
def d4(a b out:aL5)(ia ib:Nat):aL5:=out++a.extract ia a.size++b.extract ib b.size
def gM(a b out:aL5)(ia ib:Nat):aL5:=out++b.extract ib b.size++a.extract ia a.size
abbrev QE:=Option (aL5)×aL5×Nat×Nat×Nat×Nat×Nat
abbrev KW:=Option (aL5)×aL5×Nat×Nat×Nat×Nat
abbrev PZ:=Option (aL5)×aL5×Nat×Nat×Nat
def lo4(a b:aL5)(mg c d:Nat)(out:aL5)(ia ib:Nat):StateT SortSt Sem (ForInStep QE):=do
 let y<-elem' a ia
 if (ia+1+1==a.size)=true then pure (.done (some (gM a b (out.push y) (ia+1) ib),out.push y,ia+1,ib,mg,c,d))
 else if (decide (c<7) && decide (d<7))=true then pure (.done (none,out.push y,ia+1,ib,mg,c,d)) else pure (.yield (none,out.push y,ia+1,ib,mg,c,d))
def lo3(a b:aL5)(mg c d:Nat)(out:aL5)(ia ib:Nat):StateT SortSt Sem (ForInStep QE):=do
 let x<-elem' a ia
 let r<-dP true x b ib (b.size-ib) 0
 match r with
 | some k=>if k > 0 then (if (ib+k==b.size)=true then pure (.done (some (d4 a b (out++b.extract ib (ib+k)) ia (ib+k)),out++b.extract ib (ib+k),ia,ib+k,mg,c,k)) else lo4 a b mg c k (out++b.extract ib (ib+k)) ia (ib+k)) else lo4 a b mg c k out ia ib
 | _=>pure (.done (some (d4 a b out ia ib),out,ia,ib,mg,c,d))
def lo2(a b:aL5)(mg c d:Nat)(out:aL5)(ia ib:Nat):StateT SortSt Sem (ForInStep QE):=do
 let y<-elem' b ib
 if (ib+1==b.size)=true then pure (.done (some (d4 a b (out.push y) ia (ib+1)),out.push y,ia,ib+1,mg,c,d)) else lo3 a b mg c d (out.push y) ia (ib+1)
def lo1(a b:aL5)(mg d c:Nat)(out:aL5)(ia ib:Nat):StateT SortSt Sem (ForInStep QE):=do
 eX mg
 let x<-elem' b ib
 let r<-dP false x a ia (a.size-ia) 0
 match r with
 | some k=>if k > 0 then (if (ia+k+1==a.size)=true then pure (.done (some (gM a b (out++a.extract ia (ia+k)) (ia+k) ib),out++a.extract ia (ia+k),ia+k,ib,mg,k,c)) else
   if (ia+k==a.size)=true then pure (.done (some (d4 a b (out++a.extract ia (ia+k)) (ia+k) ib),out++a.extract ia (ia+k),ia+k,ib,mg,k,c)) else lo2 a b mg k c (out++a.extract ia (ia+k)) (ia+k) ib) else lo2 a b mg k c out ia ib
 | _=>pure (.done (some (d4 a b out ia ib),out,ia,ib,mg,d,c))
def loB(a b:aL5)(mg:Nat)(c:KW):StateT SortSt Sem (ForInStep KW):=do
 let y<-elem' b c.snd.snd.snd.fst
 if (c.snd.snd.snd.fst+1==b.size)=true then pure (.done (some (d4 a b (c.snd.fst.push y) c.snd.snd.fst (c.snd.snd.snd.fst+1)),c.snd.fst.push y,c.snd.snd.fst,c.snd.snd.snd.fst+1,0,c.snd.snd.snd.snd.snd+1))
 else if c.snd.snd.snd.snd.snd+1>=mg then pure (.done (none,c.snd.fst.push y,c.snd.snd.fst,c.snd.snd.snd.fst+1,0,c.snd.snd.snd.snd.snd+1))
 else pure (.yield (none,c.snd.fst.push y,c.snd.snd.fst,c.snd.snd.snd.fst+1,0,c.snd.snd.snd.snd.snd+1))
def loA(a b:aL5)(mg:Nat)(c:KW):StateT SortSt Sem (ForInStep KW):=do
 let x<-elem' a c.snd.snd.fst
 if (c.snd.snd.fst+1+1==a.size)=true then pure (.done (some (gM a b (c.snd.fst.push x) (c.snd.snd.fst+1) c.snd.snd.snd.fst),c.snd.fst.push x,c.snd.snd.fst+1,c.snd.snd.snd.fst,c.snd.snd.snd.snd.fst+1,0))
 else if c.snd.snd.snd.snd.fst+1>=mg then pure (.done (none,c.snd.fst.push x,c.snd.snd.fst+1,c.snd.snd.snd.fst,c.snd.snd.snd.snd.fst+1,0))
 else pure (.yield (none,c.snd.fst.push x,c.snd.snd.fst+1,c.snd.snd.snd.fst,c.snd.snd.snd.snd.fst+1,0))
def lo0(a b:aL5)(mg:Nat)(c:KW):StateT SortSt Sem (ForInStep KW):=do
 let y<-elem' b c.snd.snd.snd.fst
 let x<-elem' a c.snd.snd.fst
 let r<-lt' y x
 match r with
 | some d=>if d=true then loB a b mg c else loA a b mg c
 | _=>pure (.done (some (d4 a b c.snd.fst c.snd.snd.fst c.snd.snd.snd.fst),c.snd.fst,c.snd.snd.fst,c.snd.snd.snd.fst,c.snd.snd.snd.snd.fst,c.snd.snd.snd.snd.snd))
def FI(a b:aL5)(c:PZ):StateT SortSt Sem (ForInStep PZ):=do
 let d<-forIn [:a.size+b.size] ((none,c.snd.fst,c.snd.snd.fst,c.snd.snd.snd.fst,0,0):KW) λ_ d=>lo0 a b c.snd.snd.snd.snd d
 match d.fst with
 | some r=>pure (.done (some r,d.snd.fst,d.snd.snd.fst,d.snd.snd.snd.fst,c.snd.snd.snd.snd))
 | none=>do
  liftM (rule "list.sort.gallop")
  let e<-forIn [:a.size+b.size] ((none,d.snd.fst,d.snd.snd.fst,d.snd.snd.snd.fst,c.snd.snd.snd.snd+1,d.snd.snd.snd.snd.fst,d.snd.snd.snd.snd.snd):QE) λ_ e=>
   if e.snd.snd.snd.snd.fst > 1 then lo1 a b (e.snd.snd.snd.snd.fst-1) e.snd.snd.snd.snd.snd.fst e.snd.snd.snd.snd.snd.snd e.snd.fst e.snd.snd.fst e.snd.snd.snd.fst else lo1 a b e.snd.snd.snd.snd.fst e.snd.snd.snd.snd.snd.fst e.snd.snd.snd.snd.snd.snd e.snd.fst e.snd.snd.fst e.snd.snd.snd.fst
  match e.fst with
  | some r=>pure (.done (some r,e.snd.fst,e.snd.snd.fst,e.snd.snd.snd.fst,e.snd.snd.snd.snd.fst))
  | none=>do
   eX (e.snd.snd.snd.snd.fst+1)
   pure (.yield (none,e.snd.fst,e.snd.snd.fst,e.snd.snd.snd.fst,e.snd.snd.snd.snd.fst+1))
theorem CK(a b:aL5):pN a b=(do
 rule "list.sort.merge-lo"
 let total:=a.size+b.size;let mut out:aL5:= #[<-elem' b 0];let mut ia:=0;let mut ib:=1
 if ib==b.size then return d4 a b out ia ib
 if ia+1==a.size then return gM a b out ia ib
 let mut minGallop:=gallopOf (<-get)
 for _ in [0:total] do
  let mut acount:=0;let mut bcount:=0
  for _ in [0:total] do
   let some bWins<-lt' (<-elem' b ib) (<-elem' a ia) | return d4 a b out ia ib
   if bWins then
    out:=out.push (<-elem' b ib);ib:=ib+1;bcount:=bcount+1;acount:=0
    if ib==b.size then return d4 a b out ia ib
    if bcount>=minGallop then break
   else
    out:=out.push (<-elem' a ia);ia:=ia+1;acount:=acount+1;bcount:=0
    if ia+1==a.size then return gM a b out ia ib
    if acount>=minGallop then break
  rule "list.sort.gallop"
  minGallop:=minGallop+1
  for _ in [0:total] do
   if minGallop > 1 then minGallop:=minGallop-1
   eX minGallop
   let some k<-dP false (<-elem' b ib) a ia (a.size-ia) 0 | return d4 a b out ia ib
   acount:=k
   if k > 0 then
    out:=out++a.extract ia (ia+k);ia:=ia+k
    if ia+1==a.size then return gM a b out ia ib
    if ia==a.size then return d4 a b out ia ib
   out:=out.push (<-elem' b ib);ib:=ib+1
   if ib==b.size then return d4 a b out ia ib
   let some k<-dP true (<-elem' a ia) b ib (b.size-ib) 0 | return d4 a b out ia ib
   bcount:=k
   if k > 0 then
    out:=out++b.extract ib (ib+k);ib:=ib+k
    if ib==b.size then return d4 a b out ia ib
   out:=out.push (<-elem' a ia);ia:=ia+1
   if ia+1==a.size then return gM a b out ia ib
   if acount<7 && bcount<7 then break
  minGallop:=minGallop+1
  eX minGallop
 unsupported "internal:list.sort.merge-bound"):=rfl
theorem CJ(a b:aL5):pN a b=(do
 liftM (rule "list.sort.merge-lo")
 let y<-elem' b 0
 if (1==b.size)=true then pure (d4 a b #[y] 0 1)
 else if (0+1==a.size)=true then pure (gM a b #[y] 0 1)
 else do
  let g<-get
  let c<-forIn [:a.size+b.size] ((none,#[y],0,1,gallopOf g):PZ) λ_ c=>FI a b c
  match c.fst with
  | some r=>pure r
  | none=>unsupported "internal:list.sort.merge-bound"):=by
 rw[CK];refine aI4 λu=>?_;refine aI4 λy=>?_;refine aJx rfl (λ_=>rfl) (λ_=>?_);refine aJx rfl (λ_=>rfl) (λ_=>?_);refine aI4 λg=>?_;have key:∀(f h :Nat->PZ->StateT SortSt Sem (ForInStep PZ)) (k j :PZ->StateT SortSt Sem (aL5)) (i:PZ),f=h ->k=j ->(forIn [:a.size+b.size] i f >>=k)=(forIn [:a.size+b.size] i h >>=j):=λf h k j i l m=>by rw[l,m]
 refine key _ _ _ _ _ (funext λx=>funext λc=>?_) ?_
 ·have n:∀(f h :Nat->KW->StateT SortSt Sem (ForInStep KW)) (k j :KW->StateT SortSt Sem (ForInStep PZ)) (i:KW),f=h ->k=j ->(forIn [:a.size+b.size] i f >>=k)=(forIn [:a.size+b.size] i h >>=j):=λf h k j i l m=>by rw[l,m]
  refine n _ _ _ _ _ (funext λx=>funext λd=>?_) (funext λd=>?_)
  ·rfl
  ·obtain⟨p,t⟩:=d
   cases p with
   | some r=>rfl
   | none=>
    refine aI4 λv=>?_;have o:∀(f h :Nat->QE->StateT SortSt Sem (ForInStep QE)) (k j :QE->StateT SortSt Sem (ForInStep PZ)) (i:QE),f=h ->k=j ->(forIn [:a.size+b.size] i f >>=k)=(forIn [:a.size+b.size] i h >>=j):=λf h k j i l m=>by rw[l,m]
    refine o _ _ _ _ _ (funext λx=>funext λe=>?_) (funext λe=>?_)
    ·refine aJx rfl (λ_=>?_) (λ_=>?_)
     ·rfl
     ·rfl
    ·obtain⟨q,w⟩:=e;cases q <;> rfl
 ·funext c;obtain⟨s,z⟩:=c;cases s <;> rfl
def bW(s t:SortSt):Prop:=kindOf t=kindOf s/\arrOf t=arrOf s/\pendingOf t=pendingOf s/\failedOf t=failedOf s
theorem bW.refl(s:SortSt):bW s s:=⟨rfl,rfl,rfl,rfl⟩
theorem bW.trans{a b c:SortSt}(h:bW a b)(h' :bW b c):bW a c:=⟨h'.1.trans h.1,h'.2.1.trans h.2.1,h'.2.2.1.trans h.2.2.1,h'.2.2.2.trans h.2.2.2⟩
variable{a:aL5}
theorem p6(h:i<a.size):a.toList.drop i=aP a i::a.toList.drop (i+1):=by
 have b:i<a.toList.length:=by simpa using h
 rw[List.drop_eq_getElem_cons b]
 have e:aP a i=a.toList[i]:=by
  have:=fW h;rw[getElem?_pos a i h]at this;have:=aHd this;rw[<-this];simp
 rw[e]
theorem dO(h:i<a.size):aP a i∈a.toList:=by
 have:=p6 h;exact List.mem_of_mem_drop (i:=i) (by rw[this];exact aGw)
theorem dA(h:x∈a.toList.drop i):∃j,i<=j/\j<a.size/\x=aP a j:=by
 obtain⟨n,b,e⟩:=aKk h;simp only[List.length_drop,Array.length_toList]at b;refine⟨i+n,by lia,by lia,?_⟩
 have c:aP a (i+n)=a.toList[i+n]'(by simp;lia):=by
  have:=fW (xs:=a) (i:=i+n) (by lia);rw[getElem?_pos a (i+n) (by lia)]at this;have:=aHd this;rw[<-this];simp
 rw[c,<-e];simp
theorem DL{i k:Nat}:(a.extract i (i+k)).toList=(a.toList.drop i).take k:=by
 rw[Array.toList_extract,List.extract_eq_take_drop];congr 1;lia
theorem jG{i k:Nat}(h:x∈(a.toList.drop i).take k):∃j,j<k/\i+j<a.size/\x=aP a (i+j):=by
 obtain⟨n,b,e⟩:=aKk h;simp only[List.length_take,List.length_drop,Array.length_toList]at b;refine⟨n,by lia,by lia,?_⟩
 have c:aP a (i+n)=a.toList[i+n]'(by simp;lia):=by
  have:=fW (xs:=a) (i:=i+n) (by lia);rw[getElem?_pos a (i+n) (by lia)]at this;have:=aHd this;rw[<-this];simp
 rw[c,<-e];simp
theorem bA{lt:aL3}(O:Wk lt)(h:a.toList.Pairwise λx y=>lt y x=false):∀p q,p<=q->q<a.size->lt (aP a q) (aP a p)=false:=by
 intro p q d b;by_cases e:p=q
 ·subst e;exact O.JX _
 ·rw[List.pairwise_iff_getElem]at h;have:=h p q (by simp;lia) (by simpa using b) (by lia)
  have c:∀i (hi:i<a.size),aP a i=a.toList[i]'(by simpa using hi):=λi hi=>by
   have:=fW (xs:=a) (i:=i) hi;rw[getElem?_pos a i hi]at this;have:=aHd this;rw[<-this];simp
  rw[c p (by lia),c q b];exact this
theorem vM(a b out:aL5)(ia ib:Nat):(d4 a b out ia ib).toList=out.toList++(a.toList.drop ia++b.toList.drop ib):=by
 unfold d4;simp only[Array.toList_append,Array.toList_extract,List.extract_eq_take_drop,List.append_assoc];rw[List.take_of_length_le (by simp),List.take_of_length_le (by simp)]
theorem DO(a b out:aL5)(ia ib:Nat):(gM a b out ia ib).toList=out.toList++(b.toList.drop ib++a.toList.drop ia):=by
 unfold gM;simp only[Array.toList_append,Array.toList_extract,List.extract_eq_take_drop,List.append_assoc];rw[List.take_of_length_le (by simp),List.take_of_length_le (by simp)]
section
variable {prog:Program}{w:World}{A:Around}{E:aL2}{s:Shared}{a₀ a b:aL5}{κ:SortKind}{lt:aL3}
structure ED(lt:aL3)(a₀ a b:aL5):Prop where
 ma:∀x∈a.toList,x∈a₀.toList
 mb:∀x∈b.toList,x∈a₀.toList
 sa:a.toList.Pairwise λx y=>lt y x=false
 sb:b.toList.Pairwise λx y=>lt y x=false
 pa:1<=a.size
 pb:1<=b.size
 first:∀x∈a.toList,lt x (aP b 0)=false
 last:∀y∈b.toList,lt (aP a (a.size-1)) y=false
abbrev qD(lt:aL3)(a b out:aL5)(ia ib:Nat):Prop:=Mg lt (a.toList++b.toList) out.toList (a.toList.drop ia) (b.toList.drop ib)
variable{ia ib:Nat}
theorem qD.xK(O:Wk lt){a b out:aL5}(M:qD lt a b out ia ib)(hb:ib<b.size)(h:∀z∈a.toList.drop ia,lt z (aP b ib)=false):qD lt a b (out.push (aP b ib)) ia (ib+1):=by
 unfold qD at*;rw[p6 hb]at M;have:=Mg.right (u:=[aP b ib]) M (by simpa using h);simpa using this
theorem qD.xM(O:Wk lt){a b out:aL5}(M:qD lt a b out ia ib)(ha:ia<a.size)(h:∀z∈b.toList.drop ib,lt z (aP a ia)=false):qD lt a b (out.push (aP a ia)) (ia+1) ib:=by
 unfold qD at*;rw[p6 ha]at M;have:=Mg.left (u:=[aP a ia]) M (by simpa using h);simpa using this
theorem qD.NK{a b out:aL5}{ia ib k:Nat}(M:qD lt a b out ia ib)(h:∀x∈(a.toList.drop ia).take k,∀y∈b.toList.drop ib,lt y x=false):qD lt a b (out++a.extract ia (ia+k)) (ia+k) ib:=by
 unfold qD at*;rw[<-List.take_append_drop k (a.toList.drop ia),List.drop_drop]at M;have:=Mg.left M h;rw[Array.toList_append,DL];exact this
theorem qD.NJ{a b out:aL5}{ia ib k:Nat}(M:qD lt a b out ia ib)(h:∀x∈(b.toList.drop ib).take k,∀y∈a.toList.drop ia,lt y x=false):qD lt a b (out++b.extract ib (ib+k)) ia (ib+k):=by
 unfold qD at*;rw[<-List.take_append_drop k (b.toList.drop ib),List.drop_drop]at M;have:=Mg.right M h;rw[Array.toList_append,DL];exact this
theorem qD.AJ{a b out:aL5}(M:qD lt a b out ia ib)(h:ib=b.size):Good lt (a.toList++b.toList) (d4 a b out ia ib).toList:=by
 rw[vM];exact Mg.fin M (.inr (by rw[h];simp))
theorem qD.F4{a b out:aL5}(M:qD lt a b out ia ib)(h:ia=a.size):Good lt (a.toList++b.toList) (d4 a b out ia ib).toList:=by
 rw[vM];exact Mg.fin M (.inl (by rw[h];simp))
theorem qD.HP(T:ED lt a₀ a b){out:aL5}(M:qD lt a b out ia ib)(h:ia+1=a.size):Good lt (a.toList++b.toList) (gM a b out ia ib).toList:=by
 rw[DO];unfold qD at M
 have e:a.toList.drop ia=[aP a ia]:=by
  rw[p6 (by lia),List.drop_of_length_le (by simp;lia)]
 rw[e]at M⊢;refine Mg.aGc M λy c=>?_;have:=T.last y (List.mem_of_mem_drop c)
 rwa [show a.size-1=ia by lia]at this
structure J(lt:aL3)(a b out:aL5)(ia ib:Nat):Prop where
 m:qD lt a b out ia ib
 ha:ia+1<a.size
 hb:ib<b.size
 n:out.size=ia+ib
variable{γ:Type}
def After(lt:aL3)(a b:aL5)(n:Nat)(c:Option (aL5)×aL5×Nat×Nat×γ):Prop:=
 (∃r,c.1=some r/\Good lt (a.toList++b.toList) r.toList)\/(c.1=none/\J lt a b c.2.1 c.2.2.1 c.2.2.2.1/\n<=c.2.1.size)
def nV(lt:aL3)(a b:aL5)(n:Nat)(st:SortSt)(r:ForInStep (Option (aL5)×aL5×Nat×Nat×γ))(d :SortSt):Prop:=
 bW st d /\match r with | .done c=>After lt a b n c | .yield c=>c.1=none/\After lt a b n c
variable{mg ac bc n:Nat}
theorem aAm(O:Wk lt)(T:ED lt a₀ a b){out:aL5}(M:qD lt a b out ia ib)(ha:ia+1<a.size)(hb:ib<b.size)(e:out.size=ia+ib)(d:n<=out.size+1)(h:∀z∈b.toList.drop ib,lt z (aP a ia)=false):
  wpS (model prog w) A E s (lo4 a b mg ac bc out ia ib) (nV lt a b n st) st:=by
 unfold lo4;refine aH3 (cX (by lia) ?_);have M2:=M.xM O (by lia) h;by_cases c:ia+1+1=a.size
 ·rw[if_pos (by simp[c])];exact aH7 ⟨bW.refl _,.inl ⟨_,rfl,M2.HP T c⟩⟩
 ·rw[if_neg (by simp[c])]
  have j:J lt a b (out.push (aP a ia)) (ia+1) ib:=⟨M2,by lia,hb,by simp;lia⟩
  split
  ·exact aH7 ⟨bW.refl _,.inr ⟨rfl,j,by simpa using d⟩⟩
  ·exact aH7 ⟨bW.refl _,rfl,.inr ⟨rfl,j,by simpa using d⟩⟩
theorem aEa(O:Wk lt)(C:mV prog w A s κ lt a₀)(T:ED lt a₀ a b){out:aL5}(u:kindOf st=κ)(M:qD lt a b out ia ib)(ha:ia+1<a.size)(hb:ib<b.size)(v:out.size=ia+ib)(g:n<=out.size+1):
  wpS (model prog w) A E s (lo3 a b mg ac bc out ia ib) (nV lt a b n st) st:=by
 unfold lo3;have h:=bA O T.sa;have l:=bA O T.sb;refine aH3 (cX (by lia) ?_);refine aH3 (mE O C u (by lia) (by lia) (λp q r m H=>l p q m (by lia)) (λi hi=>T.mb _ (dO (by lia))) (T.ma _ (dO (by lia))) λk B r m=>?_)
 have key:∀z∈a.toList.drop ia,lt z (aP a ia)=false:=λz hz=>by
  obtain⟨j,d,f,rfl⟩:=dA hz;exact h _ _ d f
 have D:∀x∈(b.toList.drop ib).take k,∀y∈a.toList.drop ia,lt y x=false:=λx F y G=>by
  obtain⟨j,d,f,rfl⟩:=jG F;have e:=r j d;simp only[jQ,if_true]at e;exact O.tr _ _ _ (O.qU _ _ e) (key y G)
 have t:∀z∈b.toList.drop (ib+k),lt z (aP a ia)=false:=λz hz=>by
  obtain⟨j,d,f,rfl⟩:=dA hz;have e:=m (j-ib) (by lia) (by lia);simp only[jQ,if_true]at e
  rwa [show ib+(j-ib)=j by lia]at e
 dsimp only;by_cases c:k > 0
 ·rw[if_pos c];have M2:=M.NJ D;by_cases o:ib+k=b.size
  ·rw[if_pos (by simp[o])];exact aH7 ⟨bW.refl _,.inl ⟨_,rfl,M2.AJ o⟩⟩
  ·rw[if_neg (by simp[o])];have sz:(b.extract ib (ib+k)).size=k:=by rw[Array.size_extract];lia
   exact aAm O T M2 ha (by lia) (by rw[Array.size_append,sz];lia) (by rw[Array.size_append,sz];lia) t
 ·obtain rfl:k=0:=by lia
  rw[if_neg (by lia)];exact aAm O T M ha hb v g t
theorem aAn(O:Wk lt)(C:mV prog w A s κ lt a₀)(T:ED lt a₀ a b){out:aL5}(d:kindOf st=κ)(M:qD lt a b out ia ib)(ha:ia+1<a.size)(hb:ib<b.size)(f:out.size=ia+ib)(e:n<=out.size+1)(h:∀z∈a.toList.drop ia,lt z (aP b ib)=false):
  wpS (model prog w) A E s (lo2 a b mg ac bc out ia ib) (nV lt a b n st) st:=by
 unfold lo2;refine aH3 (cX (by lia) ?_);have M2:=M.xK O hb h;by_cases c:ib+1=b.size
 ·rw[if_pos (by simp[c])];exact aH7 ⟨bW.refl _,.inl ⟨_,rfl,M2.AJ c⟩⟩
 ·rw[if_neg (by simp[c])];exact aEa O C T d M2 ha (by lia) (by simp;lia) (by simp;lia)
theorem sN{g:Nat}{Q:Unit->SortSt->Prop}(h:∀a,bW st a ->Q () a):wpS (model prog w) A E s (eX g) Q st:=by
 unfold eX;exact aKb (h _ ⟨rfl,rfl,rfl,rfl⟩)
theorem ER{st c d:SortSt}{r:ForInStep (Option (aL5)×aL5×Nat×Nat×γ)}{a b:aL5}(h:bW st c)(q:nV lt a b n c r d):nV lt a b n st r d:=⟨h.trans q.1,q.2⟩
theorem aAo(O:Wk lt)(C:mV prog w A s κ lt a₀)(T:ED lt a₀ a b){out:aL5}(F:kindOf st=κ)(j:J lt a b out ia ib)(h:n<=out.size+1):
  wpS (model prog w) A E s (lo1 a b mg ac bc out ia ib) (nV lt a b n st) st:=by
 unfold lo1;obtain⟨M,ha,hb,G⟩:=j;have l:=bA O T.sa;have m:=bA O T.sb;refine aH3 (sN λo same=>?_);refine aIu ?_ λr H q=>ER same q;have f:kindOf o=κ:=same.1.trans F;refine aH3 (cX (by lia) ?_);refine aH3 (mE O C f (by lia) (by lia) (λp q B t P=>l p q t (by lia)) (λi hi=>T.ma _ (dO (by lia))) (T.mb _ (dO (by lia))) λk I B t=>?_)
 have key:∀z∈b.toList.drop ib,lt z (aP b ib)=false:=λz hz=>by
  obtain⟨j,d,g,rfl⟩:=dA hz;exact m _ _ d g
 have K:∀x∈(a.toList.drop ia).take k,∀y∈b.toList.drop ib,lt y x=false:=λx L y N=>by
  obtain⟨j,d,g,rfl⟩:=jG L;have e:=B j d;simp only[jQ,Bool.false_eq_true,if_false,Bool.not_eq_true']at e;exact O.tr _ _ _ e (key y N)
 have D:∀z∈a.toList.drop (ia+k),lt z (aP b ib)=false:=λz hz=>by
  obtain⟨j,d,g,rfl⟩:=dA hz;have e:=t (j-ia) (by lia) (by lia);simp only[jQ,Bool.false_eq_true,if_false,Bool.not_eq_false']at e;rw[show ia+(j-ia)=j by lia]at e;exact O.qU _ _ e
 dsimp only;by_cases c:k > 0
 ·rw[if_pos c];have M2:=M.NK K;by_cases u:ia+k+1=a.size
  ·rw[if_pos (by simp[u])];exact aH7 ⟨bW.refl _,.inl ⟨_,rfl,M2.HP T u⟩⟩
  ·rw[if_neg (by simp[u])];by_cases v:ia+k=a.size
   ·rw[if_pos (by simp[v])];exact aH7 ⟨bW.refl _,.inl ⟨_,rfl,M2.F4 v⟩⟩
   ·rw[if_neg (by simp[v])];have sz:(a.extract ia (ia+k)).size=k:=by rw[Array.size_extract];lia
    exact aAn O C T f M2 (by lia) hb (by rw[Array.size_append,sz];lia) (by rw[Array.size_append,sz];lia) D
 ·obtain rfl:k=0:=by lia
  rw[if_neg (by lia)];exact aAn O C T f M ha hb G h D
theorem aEb(O:Wk lt)(C:mV prog w A s κ lt a₀)(T:ED lt a₀ a b){c:KW}(l:kindOf st=κ)(j:J lt a b c.2.1 c.2.2.1 c.2.2.2.1)(d:n<=c.2.1.size+1):
  wpS (model prog w) A E s (lo0 a b mg c) (nV lt a b n st) st:=by
 obtain⟨M,ha,hb,m⟩:=j;have i:=bA O T.sa;have k:=bA O T.sb;unfold lo0;refine aH3 (cX hb ?_);refine aH3 (cX (by lia) ?_);refine aH3 (wlt C l (T.mb _ (dO hb)) (T.ma _ (dO (by lia))) ?_);dsimp only
 cases hlt:lt (aP b c.2.2.2.1) (aP a c.2.2.1) with
 | true=>
  rw[if_pos rfl];unfold loB;refine aH3 (cX hb ?_)
  have M2:=M.xK O hb λz hz=>by
   obtain⟨j,e,f,rfl⟩:=dA hz;exact O.tr _ _ _ (O.qU _ _ hlt) (i _ _ e f)
  by_cases g:c.2.2.2.1+1=b.size
  ·rw[if_pos (by simpa using g)];exact aH7 ⟨bW.refl _,.inl ⟨_,rfl,M2.AJ g⟩⟩
  ·rw[if_neg (by simpa using g)]
   have h:J lt a b (c.2.1.push (aP b c.2.2.2.1)) c.2.2.1 (c.2.2.2.1+1):=⟨M2,ha,by lia,by simp;lia⟩
   split
   ·exact aH7 ⟨bW.refl _,.inr ⟨rfl,h,by simpa using d⟩⟩
   ·exact aH7 ⟨bW.refl _,rfl,.inr ⟨rfl,h,by simpa using d⟩⟩
 | false=>
  rw[if_neg Bool.false_ne_true];unfold loA;refine aH3 (cX (by lia) ?_)
  have M2:=M.xM O (by lia) λz hz=>by
   obtain⟨j,e,f,rfl⟩:=dA hz;exact O.tr _ _ _ hlt (k _ _ e f)
  by_cases g:c.2.2.1+1+1=a.size
  ·rw[if_pos (by simpa using g)];exact aH7 ⟨bW.refl _,.inl ⟨_,rfl,M2.HP T g⟩⟩
  ·rw[if_neg (by simpa using g)]
   have h:J lt a b (c.2.1.push (aP a c.2.2.1)) (c.2.2.1+1) c.2.2.2.1:=⟨M2,by lia,hb,by simp;lia⟩
   split
   ·exact aH7 ⟨bW.refl _,.inr ⟨rfl,h,by simpa using d⟩⟩
   ·exact aH7 ⟨bW.refl _,rfl,.inr ⟨rfl,h,by simpa using d⟩⟩
theorem EI{a b:aL5}{f:Nat->(Option (aL5)×aL5×Nat×Nat×γ)->StateT SortSt Sem (ForInStep (Option (aL5)×aL5×Nat×Nat×γ))}{c:Option (aL5)×aL5×Nat×Nat×γ}{Q:(Option (aL5)×aL5×Nat×Nat×γ)->SortSt->Prop}(x:(Option (aL5)×aL5×Nat×Nat×γ)->Prop)(n:Nat)
  (B:c.1=none) (j:J lt a b c.2.1 c.2.2.1 c.2.2.2.1) (G:n=c.2.1.size)
  (step:∀i g d,bW st d ->g.1=none->J lt a b g.2.1 g.2.2.1 g.2.2.2.1->n+i<=g.2.1.size->wpS (model prog w) A E s (f i g) (λr k=>nV lt a b (g.2.1.size+1) d r k/\∀l,r= .done l->x l) d)
  (h:∀g d,bW st d ->x g ->After lt a b (n+1) g ->Q g d):wpS (model prog w) A E s (forIn [:a.size+b.size] c f) Q st:=by
 refine aIh (I:=λi g d =>bW st d /\g.1=none/\J lt a b g.2.1 g.2.2.1 g.2.2.2.1/\n+i<=g.2.1.size) ?_ ?_ ⟨bW.refl _,B,j,by lia⟩
 ·rintro i g d _ hi ⟨p,C,m,t⟩;refine aIu (step i g d p C m t) λr k q=>?_;obtain⟨⟨y,o⟩,dn⟩:=q
  cases r with
  | done l=>
   refine h l k (p.trans y) (dn l rfl) ?_;rcases o with o | ⟨u,v,D⟩
   ·exact .inl o
   ·exact .inr ⟨u,v,by lia⟩
  | yield l=>
   obtain⟨F,z | ⟨u,v,D⟩⟩:=o
   ·obtain⟨r,e,_⟩:=z;rw[F]at e;cases e
   ·exact⟨p.trans y,u,v,by lia⟩
 ·rintro g d ⟨_,_,m,t⟩;exfalso;have:=m.n;have:=m.ha;have:=m.hb;simp at t
  lia
end
section
variable {prog:Program}{w:World}{A:Around}{E:aL2}{s:Shared}{a₀ a b:aL5}{κ:SortKind}{lt:aL3}
theorem QL(O:Wk lt)(C:mV prog w A s κ lt a₀)(T:ED lt a₀ a b){c:PZ}(u:kindOf st=κ)(j:J lt a b c.2.1 c.2.2.1 c.2.2.2.1):
  wpS (model prog w) A E s (FI a b c) (λr l=>nV lt a b (c.2.1.size+1) st r l/\∀m,r= .done m->∃x,m.1=some x) st:=by
 unfold FI;refine aH3 (EI (lt:=lt) (c:=((none,c.snd.fst,c.snd.snd.fst,c.snd.snd.snd.fst,0,0):KW)) (λ_=>True) c.2.1.size rfl j rfl (λi z n p _ t _=>aIu (aEb O C T (p.1.trans u) t (aGy _)) λ_ _ q=>⟨q,λ_ _=>trivial⟩) λd F f _ G=>?_);obtain⟨L,k⟩:=d
 rcases G with ⟨r,h,g⟩ | ⟨h,B,H⟩
 ·dsimp only at h;subst h;exact aH7 ⟨⟨f,.inl ⟨r,rfl,g⟩⟩,λm e=>by cases e;exact⟨r,rfl⟩⟩
 ·dsimp only at h B H;subst h;dsimp only;refine aH3 (wpS_lift (aI2 ⟨rfl,?_⟩));refine aH3 (EI (lt:=lt) (c:=((none,k.fst,k.snd.fst,k.snd.snd.fst,c.snd.snd.snd.snd+1,k.snd.snd.snd.fst,k.snd.snd.snd.snd):QE)) (λ_=>True) k.1.size rfl B rfl (λi z n p _ t _=>aIu (Q:=nV lt a b (z.2.1.size+1) n) ?_ λ_ _ q=>⟨q,λ_ _=>trivial⟩) λe l o _ v=>?_)
  ·split
   ·exact aAo O C T (p.1.trans (f.1.trans u)) t (aGy _)
   ·exact aAo O C T (p.1.trans (f.1.trans u)) t (aGy _)
  ·obtain⟨M,N⟩:=e
   rcases v with ⟨r,h,g⟩ | ⟨h,D,I⟩
   ·dsimp only at h;subst h;exact aH7 ⟨⟨f.trans o,.inl ⟨r,rfl,g⟩⟩,λm e=>by cases e;exact⟨r,rfl⟩⟩
   ·dsimp only at h D I;subst h;dsimp only;refine aH3 (sN λK y=>?_);exact aH7 ⟨⟨(f.trans o).trans y,rfl,.inr ⟨rfl,D,by dsimp only;lia⟩⟩,λm e=>by cases e⟩
theorem LC(O:Wk lt)(C:mV prog w A s κ lt a₀)(T:ED lt a₀ a b){Q:Array Keyed->SortSt->Prop}(p:kindOf st=κ)
  (h:∀r f,bW st f ->Good lt (a.toList++b.toList) r.toList->Q r f):wpS (model prog w) A E s (pN a b) Q st:=by
 rw[CJ];have pa:=T.pa;have pb:=T.pb;refine aH3 (wpS_lift (aI2 ⟨rfl,?_⟩));refine aH3 (cX (by lia) ?_)
 have q:qD lt a b #[] 0 0:=⟨by simp,by simp,by simpa using T.sa,by simpa using T.sb,by simp⟩
 have M1:qD lt a b #[aP b 0] 0 1:=by
  have:=q.xK O (by lia) λz hz=>T.first z (by simpa using hz);simpa using this
 by_cases l:1=b.size
 ·rw[if_pos (by simp[l])];exact aH7 (h _ _ (bW.refl _) (M1.AJ l))
 ·rw[if_neg (by simpa using l)];by_cases m:0+1=a.size
  ·rw[if_pos (by simpa using m)];exact aH7 (h _ _ (bW.refl _) (M1.HP T m))
  ·rw[if_neg (by simpa using m)];refine aH3 (wpS_get ?_)
   have j:J lt a b #[aP b 0] 0 1:=⟨M1,by lia,by lia,by simp⟩
   refine aH3 (EI (lt:=lt) (c:=((none,#[aP b 0],0,1,gallopOf st):PZ)) (λc=>∃x,c.1=some x) 1 rfl j rfl (λi y f t _ u _=>QL O C T (t.1.trans p) u) λd n o dn v=>?_);obtain⟨B,D⟩:=d;obtain⟨x,e⟩:=dn;dsimp only at e;subst e
   rcases v with ⟨r,k,g⟩ | ⟨k,_⟩
   ·dsimp only at k;cases k;exact aH7 (h x n o g)
   ·cases k
end
def pO:Array Keyed->Array Keyed->StateT SortSt Sem (aL5):=sortPriv% PySem.Builtin.mergeHi
def eK(a b out:aL5)(na nb:Nat):aL5:=a.extract 0 na++b.extract 0 nb++out.reverse
def gO(a b out:aL5)(na nb:Nat):aL5:=b.extract 0 nb++a.extract 0 na++out.reverse
abbrev QG:=Option (aL5)×Nat×Nat×aL5×Nat×Nat×Nat
abbrev KZ:=Option (aL5)×Nat×Nat×aL5×Nat×Nat
abbrev P6:=Option (aL5)×Nat×Nat×aL5×Nat
def hi4(a b:aL5)(mg c d:Nat)(out:aL5)(na nb:Nat):StateT SortSt Sem (ForInStep QG):=do
 let y<-elem' a (na-1)
 if (na-1==0)=true then pure (.done (some (eK a b (out.push y) (na-1) nb),na-1,nb,out.push y,mg,c,d))
 else if (decide (c<7) && decide (d<7))=true then pure (.done (none,na-1,nb,out.push y,mg,c,d)) else pure (.yield (none,na-1,nb,out.push y,mg,c,d))
def hi3(a b:aL5)(mg c d:Nat)(out:aL5)(na nb:Nat):StateT SortSt Sem (ForInStep QG):=do
 let x<-elem' a (na-1)
 let r<-dP true x b 0 nb (nb-1)
 match r with
 | some k=>if nb-k > 0 then (if (k==1)=true then pure (.done (some (gO a b (out++(b.extract k nb).reverse) na k),na,k,out++(b.extract k nb).reverse,mg,c,nb-k)) else
   if (k==0)=true then pure (.done (some (eK a b (out++(b.extract k nb).reverse) na k),na,k,out++(b.extract k nb).reverse,mg,c,nb-k)) else hi4 a b mg c (nb-k) (out++(b.extract k nb).reverse) na k) else hi4 a b mg c (nb-k) out na nb
 | _=>pure (.done (some (eK a b out na nb),na,nb,out,mg,c,d))
def QC(a b:aL5)(mg c d:Nat)(out:aL5)(na nb:Nat):StateT SortSt Sem (ForInStep QG):=do
 let y<-elem' b (nb-1)
 if (nb-1==1)=true then pure (.done (some (gO a b (out.push y) na (nb-1)),na,nb-1,out.push y,mg,c,d)) else hi3 a b mg c d (out.push y) na (nb-1)
def hi1(a b:aL5)(mg d c:Nat)(out:aL5)(na nb:Nat):StateT SortSt Sem (ForInStep QG):=do
 eX mg
 let x<-elem' b (nb-1)
 let r<-dP false x a 0 na (na-1)
 match r with
 | some k=>if na-k > 0 then (if (k==0)=true then pure (.done (some (eK a b (out++(a.extract k na).reverse) k nb),k,nb,out++(a.extract k na).reverse,mg,na-k,c)) else QC a b mg (na-k) c (out++(a.extract k na).reverse) k nb) else QC a b mg (na-k) c out na nb
 | _=>pure (.done (some (eK a b out na nb),na,nb,out,mg,d,c))
def hiA(a b:aL5)(mg:Nat)(c:KZ):StateT SortSt Sem (ForInStep KZ):=do
 let y<-elem' a (c.snd.fst-1)
 if (c.snd.fst-1==0)=true then pure (.done (some (eK a b (c.snd.snd.snd.fst.push y) (c.snd.fst-1) c.snd.snd.fst),c.snd.fst-1,c.snd.snd.fst,c.snd.snd.snd.fst.push y,c.snd.snd.snd.snd.fst+1,0))
 else if c.snd.snd.snd.snd.fst+1>=mg then pure (.done (none,c.snd.fst-1,c.snd.snd.fst,c.snd.snd.snd.fst.push y,c.snd.snd.snd.snd.fst+1,0))
 else pure (.yield (none,c.snd.fst-1,c.snd.snd.fst,c.snd.snd.snd.fst.push y,c.snd.snd.snd.snd.fst+1,0))
def hiB(a b:aL5)(mg:Nat)(c:KZ):StateT SortSt Sem (ForInStep KZ):=do
 let x<-elem' b (c.snd.snd.fst-1)
 if (c.snd.snd.fst-1==1)=true then pure (.done (some (gO a b (c.snd.snd.snd.fst.push x) c.snd.fst (c.snd.snd.fst-1)),c.snd.fst,c.snd.snd.fst-1,c.snd.snd.snd.fst.push x,0,c.snd.snd.snd.snd.snd+1))
 else if c.snd.snd.snd.snd.snd+1>=mg then pure (.done (none,c.snd.fst,c.snd.snd.fst-1,c.snd.snd.snd.fst.push x,0,c.snd.snd.snd.snd.snd+1))
 else pure (.yield (none,c.snd.fst,c.snd.snd.fst-1,c.snd.snd.snd.fst.push x,0,c.snd.snd.snd.snd.snd+1))
def hi0(a b:aL5)(mg:Nat)(c:KZ):StateT SortSt Sem (ForInStep KZ):=do
 let y<-elem' b (c.snd.snd.fst-1)
 let x<-elem' a (c.snd.fst-1)
 let r<-lt' y x
 match r with
 | some d=>if d=true then hiA a b mg c else hiB a b mg c
 | _=>pure (.done (some (eK a b c.snd.snd.snd.fst c.snd.fst c.snd.snd.fst),c.snd.fst,c.snd.snd.fst,c.snd.snd.snd.fst,c.snd.snd.snd.snd.fst,c.snd.snd.snd.snd.snd))
def FU(a b:aL5)(c:P6):StateT SortSt Sem (ForInStep P6):=do
 let d<-forIn [:a.size+b.size] ((none,c.snd.fst,c.snd.snd.fst,c.snd.snd.snd.fst,0,0):KZ) λ_ d=>hi0 a b c.snd.snd.snd.snd d
 match d.fst with
 | some r=>pure (.done (some r,d.snd.fst,d.snd.snd.fst,d.snd.snd.snd.fst,c.snd.snd.snd.snd))
 | none=>do
  liftM (rule "list.sort.gallop")
  let e<-forIn [:a.size+b.size] ((none,d.snd.fst,d.snd.snd.fst,d.snd.snd.snd.fst,c.snd.snd.snd.snd+1,d.snd.snd.snd.snd.fst,d.snd.snd.snd.snd.snd):QG) λ_ e=>
   if e.snd.snd.snd.snd.fst > 1 then hi1 a b (e.snd.snd.snd.snd.fst-1) e.snd.snd.snd.snd.snd.fst e.snd.snd.snd.snd.snd.snd e.snd.snd.snd.fst e.snd.fst e.snd.snd.fst else hi1 a b e.snd.snd.snd.snd.fst e.snd.snd.snd.snd.snd.fst e.snd.snd.snd.snd.snd.snd e.snd.snd.snd.fst e.snd.fst e.snd.snd.fst
  match e.fst with
  | some r=>pure (.done (some r,e.snd.fst,e.snd.snd.fst,e.snd.snd.snd.fst,e.snd.snd.snd.snd.fst))
  | none=>do
   eX (e.snd.snd.snd.snd.fst+1)
   pure (.yield (none,e.snd.fst,e.snd.snd.fst,e.snd.snd.snd.fst,e.snd.snd.snd.snd.fst+1))
theorem CM(a b:aL5):pO a b=(do
 rule "list.sort.merge-hi"
 let total:=a.size+b.size;let mut na:=a.size-1;let mut nb:=b.size;let mut out:aL5:= #[<-elem' a na]
 if na==0 then return eK a b out na nb
 if nb==1 then return gO a b out na nb
 let mut minGallop:=gallopOf (<-get)
 for _ in [0:total] do
  let mut acount:=0;let mut bcount:=0
  for _ in [0:total] do
   let some aWins<-lt' (<-elem' b (nb-1)) (<-elem' a (na-1)) | return eK a b out na nb
   if aWins then
    na:=na-1;out:=out.push (<-elem' a na);acount:=acount+1;bcount:=0
    if na==0 then return eK a b out na nb
    if acount>=minGallop then break
   else
    nb:=nb-1;out:=out.push (<-elem' b nb);bcount:=bcount+1;acount:=0
    if nb==1 then return gO a b out na nb
    if bcount>=minGallop then break
  rule "list.sort.gallop"
  minGallop:=minGallop+1
  for _ in [0:total] do
   if minGallop > 1 then minGallop:=minGallop-1
   eX minGallop
   let some at_<-dP false (<-elem' b (nb-1)) a 0 na (na-1) | return eK a b out na nb
   let k:=na-at_
   acount:=k
   if k > 0 then
    out:=out++(a.extract at_ na).reverse;na:=at_
    if na==0 then return eK a b out na nb
   nb:=nb-1;out:=out.push (<-elem' b nb)
   if nb==1 then return gO a b out na nb
   let some at_<-dP true (<-elem' a (na-1)) b 0 nb (nb-1) | return eK a b out na nb
   let k:=nb-at_
   bcount:=k
   if k > 0 then
    out:=out++(b.extract at_ nb).reverse;nb:=at_
    if nb==1 then return gO a b out na nb
    if nb==0 then return eK a b out na nb
   na:=na-1;out:=out.push (<-elem' a na)
   if na==0 then return eK a b out na nb
   if acount<7 && bcount<7 then break
  minGallop:=minGallop+1
  eX minGallop
 unsupported "internal:list.sort.merge-bound"):=rfl
theorem CL(a b:aL5):pO a b=(do
 liftM (rule "list.sort.merge-hi")
 let y<-elem' a (a.size-1)
 if (a.size-1==0)=true then pure (eK a b #[y] (a.size-1) b.size)
 else if (b.size==1)=true then pure (gO a b #[y] (a.size-1) b.size)
 else do
  let g<-get
  let c<-forIn [:a.size+b.size] ((none,a.size-1,b.size,#[y],gallopOf g):P6) λ_ c=>FU a b c
  match c.fst with
  | some r=>pure r
  | none=>unsupported "internal:list.sort.merge-bound"):=by
 rw[CM];refine aI4 λu=>?_;refine aI4 λy=>?_;refine aJx rfl (λ_=>rfl) (λ_=>?_);refine aJx rfl (λ_=>rfl) (λ_=>?_);refine aI4 λg=>?_;have key:∀(f h :Nat->P6->StateT SortSt Sem (ForInStep P6)) (k j :P6->StateT SortSt Sem (aL5)) (i:P6),f=h ->k=j ->(forIn [:a.size+b.size] i f >>=k)=(forIn [:a.size+b.size] i h >>=j):=λf h k j i l m=>by rw[l,m]
 refine key _ _ _ _ _ (funext λx=>funext λc=>?_) ?_
 ·have n:∀(f h :Nat->KZ->StateT SortSt Sem (ForInStep KZ)) (k j :KZ->StateT SortSt Sem (ForInStep P6)) (i:KZ),f=h ->k=j ->(forIn [:a.size+b.size] i f >>=k)=(forIn [:a.size+b.size] i h >>=j):=λf h k j i l m=>by rw[l,m]
  refine n _ _ _ _ _ (funext λx=>funext λd=>?_) (funext λd=>?_)
  ·rfl
  ·obtain⟨p,t⟩:=d
   cases p with
   | some r=>rfl
   | none=>
    refine aI4 λv=>?_;have o:∀(f h :Nat->QG->StateT SortSt Sem (ForInStep QG)) (k j :QG->StateT SortSt Sem (ForInStep P6)) (i:QG),f=h ->k=j ->(forIn [:a.size+b.size] i f >>=k)=(forIn [:a.size+b.size] i h >>=j):=λf h k j i l m=>by rw[l,m]
    refine o _ _ _ _ _ (funext λx=>funext λe=>?_) (funext λe=>?_)
    ·refine aJx rfl (λ_=>?_) (λ_=>?_)
     ·rfl
     ·rfl
    ·obtain⟨q,w⟩:=e;cases q <;> rfl
 ·funext c;obtain⟨s,z⟩:=c;cases s <;> rfl
structure Mh(lt:aL3)(all p q o:List Keyed):Prop where
 perm:(p++(q++o)).Perm all
 so:o.Pairwise λx y=>lt y x=false
 sp:p.Pairwise λx y=>lt y x=false
 sq:q.Pairwise λx y=>lt y x=false
 high:∀x∈p++q,∀y∈o,lt y x=false
theorem Mh.left{lt:aL3}{all u p q o:List Keyed}(M:Mh lt all (p++u) q o)(h:∀x∈q,∀y∈u,lt y x=false):Mh lt all p q (u++o):=by
 have sp:=aH9.mp M.sp;refine⟨?_,aH9.mpr ⟨sp.2.1,M.so,λx a y hy=>M.high x (by simp[a]) y hy⟩,sp.1,M.sq,λx a y hy=>?_⟩
 ·refine List.Perm.trans ?_ M.perm;rw[List.append_assoc];refine aJ7 p ?_;rw[<-List.append_assoc,<-List.append_assoc];exact aJ4 o aJ8
 ·rcases aGz.mp hy with hy | hy
  ·rcases aGz.mp a with z | z
   ·exact sp.2.2 x z y hy
   ·exact h x z y hy
  ·exact M.high x (by rcases aGz.mp a with z | z <;> simp[z]) y hy
theorem Mh.right{lt:aL3}{all u p q o:List Keyed}(M:Mh lt all p (q++u) o)(h:∀x∈p,∀y∈u,lt y x=false):Mh lt all p q (u++o):=by
 have sq:=aH9.mp M.sq;refine⟨?_,aH9.mpr ⟨sq.2.1,M.so,λx a y hy=>M.high x (by simp[a]) y hy⟩,M.sp,sq.1,λx a y hy=>?_⟩
 ·have:=M.perm;simpa[List.append_assoc] using this
 ·rcases aGz.mp hy with hy | hy
  ·rcases aGz.mp a with z | z
   ·exact h x z y hy
   ·exact sq.2.2 x z y hy
  ·exact M.high x (by rcases aGz.mp a with z | z <;> simp[z]) y hy
theorem Mh.fin{lt:aL3}{all p q o:List Keyed}(M:Mh lt all p q o)(h:p=[]\/q=[]):Good lt all (p++q++o):=by
 refine⟨by rw[List.append_assoc];exact M.perm,aH9.mpr ⟨?_,M.so,M.high⟩⟩;rcases h with rfl | rfl
 ·simpa using M.sq
 ·simpa using M.sp
theorem Mh.aGb{lt:aL3}{all p o:List Keyed}(M:Mh lt all p [x] o)(h:∀y∈p,lt y x=false):Good lt all ([x]++p++o):=by
 refine⟨?_,aH9.mpr ⟨?_,M.so,λa ha b hb=>M.high a ?_ b hb⟩⟩
 ·refine List.Perm.trans ?_ M.perm;rw[<-List.append_assoc];exact aJ4 o aJ8
 ·exact aH9.mpr ⟨by simp,M.sp,λu c v d=>by rw[List.mem_singleton.mp c];exact h v d⟩
 ·rcases aGz.mp ha with z | z <;> simp[z] <;> simp_all
theorem tX(h0:1<=i)(h:i<=a.size):a.toList.take i=a.toList.take (i-1)++[aP a (i-1)]:=by
 have b:i-1<a.toList.length:=by simp;lia
 have e:aP a (i-1)=a.toList[i-1]:=by
  have:=fW (xs:=a) (i:=i-1) (by lia);rw[getElem?_pos a (i-1) (by lia)]at this;have:=aHd this;rw[<-this];simp
 rw[e];have:=List.take_append_getElem (l:=a.toList) (i:=i-1) b;rw[this];congr 1;lia
theorem cS(h:x∈a.toList.take i):∃j,j<i/\j<a.size/\x=aP a j:=by
 have:=jG (i:=0) (k:=i) (a:=a) (by simpa using h);obtain⟨j,b,d,c⟩:=this;exact⟨j,b,by lia,by rw[c];congr 1;lia⟩
theorem AH{i k:Nat}:(a.extract i k).toList=(a.toList.take k).drop i:=by
 rw[Array.toList_extract,List.extract_eq_take_drop,List.take_drop];by_cases h:i<=k
 ·congr 2;lia
 ·rw[List.drop_of_length_le (by simp;lia),List.drop_of_length_le (by simp;lia)]
theorem mem_mid{i k:Nat}(h:x∈(a.toList.take k).drop i):∃j,i<=j/\j<k/\j<a.size/\x=aP a j:=by
 obtain⟨n,b,e⟩:=aKk h;simp only[List.length_take,List.length_drop,Array.length_toList]at b;refine⟨i+n,by lia,by lia,by lia,?_⟩
 have c:aP a (i+n)=a.toList[i+n]'(by simp;lia):=by
  have:=fW (xs:=a) (i:=i+n) (by lia);rw[getElem?_pos a (i+n) (by lia)]at this;have:=aHd this;rw[<-this];simp
 rw[c,<-e];simp
theorem F1(a b out:aL5)(na nb:Nat):(eK a b out na nb).toList=a.toList.take na++b.toList.take nb++out.toList.reverse:=by
 unfold eK;simp[Array.toList_append,Array.toList_extract,List.extract_eq_take_drop]
theorem DP(a b out:aL5)(na nb:Nat):(gO a b out na nb).toList=b.toList.take nb++a.toList.take na++out.toList.reverse:=by
 unfold gO;simp[Array.toList_append,Array.toList_extract,List.extract_eq_take_drop]
section
variable {prog:Program}{w:World}{A:Around}{E:aL2}{s:Shared}{a₀ a b:aL5}{κ:SortKind}{lt:aL3}
abbrev sZ(lt:aL3)(a b out:aL5)(na nb:Nat):Prop:=Mh lt (a.toList++b.toList) (a.toList.take na) (b.toList.take nb) out.toList.reverse
variable{na nb:Nat}
theorem sZ.xM{out:aL5}(M:sZ lt a b out na nb)(h0:1<=na)(c:na<=a.size)(h:∀z∈b.toList.take nb,lt (aP a (na-1)) z=false):sZ lt a b (out.push (aP a (na-1))) (na-1) nb:=by
 unfold sZ at*;rw[tX h0 c]at M;have:=Mh.left (u:=[aP a (na-1)]) M (by simpa using h);simpa using this
theorem sZ.xK{out:aL5}(M:sZ lt a b out na nb)(h0:1<=nb)(c:nb<=b.size)(h:∀z∈a.toList.take na,lt (aP b (nb-1)) z=false):sZ lt a b (out.push (aP b (nb-1))) na (nb-1):=by
 unfold sZ at*;rw[tX h0 c]at M;have:=Mh.right (u:=[aP b (nb-1)]) M (by simpa using h);simpa using this
theorem sZ.NK{out:aL5}{na nb k:Nat}(M:sZ lt a b out na nb)(c:k<=na)(h:∀x∈b.toList.take nb,∀y∈(a.toList.take na).drop k,lt y x=false):sZ lt a b (out++(a.extract k na).reverse) k nb:=by
 unfold sZ at*
 have e:a.toList.take na=a.toList.take k++(a.toList.take na).drop k:=by
  have:=(aJ9 k (a.toList.take na)).symm
  rwa [List.take_take,aL0 c]at this
 rw[e]at M;have:=Mh.left M h;simp only[Array.toList_append,Array.toList_reverse,List.reverse_append,List.reverse_reverse,AH];exact this
theorem sZ.NJ{out:aL5}{na nb k:Nat}(M:sZ lt a b out na nb)(c:k<=nb)(h:∀x∈a.toList.take na,∀y∈(b.toList.take nb).drop k,lt y x=false):sZ lt a b (out++(b.extract k nb).reverse) na k:=by
 unfold sZ at*
 have e:b.toList.take nb=b.toList.take k++(b.toList.take nb).drop k:=by
  have:=(aJ9 k (b.toList.take nb)).symm
  rwa [List.take_take,aL0 c]at this
 rw[e]at M;have:=Mh.right M h;simp only[Array.toList_append,Array.toList_reverse,List.reverse_append,List.reverse_reverse,AH];exact this
theorem sZ.F4{out:aL5}(M:sZ lt a b out na nb)(h:na=0\/nb=0):Good lt (a.toList++b.toList) (eK a b out na nb).toList:=by
 rw[F1];exact Mh.fin M (h.imp (λe=>by simp[e]) λe=>by simp[e])
theorem sZ.AJ(T:ED lt a₀ a b){out:aL5}(M:sZ lt a b out na nb)(h:nb=1):Good lt (a.toList++b.toList) (gO a b out na nb).toList:=by
 rw[DP];have pb:=T.pb
 have e:b.toList.take nb=[aP b 0]:=by
  rw[h,tX (by lia) (by lia)];simp
 unfold sZ at M;rw[e]at M⊢;exact Mh.aGb M λy c=>T.first y (aIa c)
structure Jh(lt:aL3)(a b out:aL5)(na nb:Nat):Prop where
 m:sZ lt a b out na nb
 ha:1<=na
 hb:2<=nb
 la:na<=a.size
 lb:nb<=b.size
 n:out.size+na+nb=a.size+b.size
variable{γ:Type}
def GP(lt:aL3)(a b:aL5)(n:Nat)(c:Option (aL5)×Nat×Nat×aL5×γ):Prop:=
 (∃r,c.1=some r/\Good lt (a.toList++b.toList) r.toList)\/(c.1=none/\Jh lt a b c.2.2.2.1 c.2.1 c.2.2.1/\n<=c.2.2.2.1.size)
def nW(lt:aL3)(a b:aL5)(n:Nat)(st:SortSt)(r:ForInStep (Option (aL5)×Nat×Nat×aL5×γ))(d :SortSt):Prop:=
 bW st d /\match r with | .done c=>GP lt a b n c | .yield c=>c.1=none/\GP lt a b n c
variable{mg ac bc n:Nat}
theorem aAp(T:ED lt a₀ a b){out:aL5}(j:Jh lt a b out na nb)(d:n<=out.size+1)(h:∀z∈b.toList.take nb,lt (aP a (na-1)) z=false):
  wpS (model prog w) A E s (hi4 a b mg ac bc out na nb) (nW lt a b n st) st:=by
 obtain⟨M,ha,hb,la,lb,f⟩:=j;unfold hi4;refine aH3 (cX (by lia) ?_);have M2:=M.xM ha la h;by_cases c:na-1=0
 ·rw[if_pos (by simp[c])];exact aH7 ⟨bW.refl _,.inl ⟨_,rfl,M2.F4 (.inl c)⟩⟩
 ·rw[if_neg (by simpa using c)]
  have e:Jh lt a b (out.push (aP a (na-1))) (na-1) nb:=⟨M2,by lia,hb,by lia,lb,by simp;lia⟩
  split
  ·exact aH7 ⟨bW.refl _,.inr ⟨rfl,e,by simpa using d⟩⟩
  ·exact aH7 ⟨bW.refl _,rfl,.inr ⟨rfl,e,by simpa using d⟩⟩
theorem aEc(O:Wk lt)(C:mV prog w A s κ lt a₀)(T:ED lt a₀ a b){out:aL5}(B:kindOf st=κ)(j:Jh lt a b out na nb)(g:n<=out.size+1):
  wpS (model prog w) A E s (hi3 a b mg ac bc out na nb) (nW lt a b n st) st:=by
 have D:=j;obtain⟨M,ha,hb,la,lb,J⟩:=j;unfold hi3;have h:=bA O T.sa;have l:=bA O T.sb;refine aH3 (cX (by lia) ?_);refine aH3 (mE O C B (by lia) (by lia) (λp q u m K=>l p q m (by lia)) (λi hi=>T.mb _ (dO (by lia))) (T.ma _ (dO (by lia))) λk F u m=>?_)
 have key:∀z∈a.toList.take na,lt (aP a (na-1)) z=false:=λz hz=>by
  obtain⟨j,d,f,rfl⟩:=cS hz;exact h _ _ (by lia) (by lia)
 have G:∀x∈a.toList.take na,∀y∈(b.toList.take nb).drop k,lt y x=false:=λx H y I=>by
  obtain⟨j,o,d,f,rfl⟩:=mem_mid I;have e:=m j o d;simp only[jQ,if_true,Nat.zero_add]at e;exact O.tr _ _ _ (key x H) e
 have v:∀z∈b.toList.take k,lt (aP a (na-1)) z=false:=λz hz=>by
  obtain⟨j,d,f,rfl⟩:=cS hz;have e:=u j d;simp only[jQ,if_true,Nat.zero_add]at e;exact O.qU _ _ e
 dsimp only;by_cases c:nb-k > 0
 ·rw[if_pos c];have M2:=M.NJ (k:=k) (by lia) G;have sz:(b.extract k nb).reverse.size=nb-k:=by rw[Array.size_reverse,Array.size_extract];lia
  by_cases r:k=1
  ·rw[if_pos (by simpa using r)];exact aH7 ⟨bW.refl _,.inl ⟨_,rfl,M2.AJ T r⟩⟩
  ·rw[if_neg (by simpa using r)];by_cases t:k=0
   ·rw[if_pos (by simpa using t)];exact aH7 ⟨bW.refl _,.inl ⟨_,rfl,M2.F4 (.inr t)⟩⟩
   ·rw[if_neg (by simpa using t)];exact aAp T ⟨M2,ha,by lia,la,by lia,by rw[Array.size_append,sz];lia⟩ (by rw[Array.size_append,sz];lia) v
 ·obtain rfl:k=nb:=by lia
  rw[if_neg c];exact aAp T D g v
theorem aAq(O:Wk lt)(C:mV prog w A s κ lt a₀)(T:ED lt a₀ a b){out:aL5}(d:kindOf st=κ)(j:Jh lt a b out na nb)(e:n<=out.size+1)(h:∀z∈a.toList.take na,lt (aP b (nb-1)) z=false):
  wpS (model prog w) A E s (QC a b mg ac bc out na nb) (nW lt a b n st) st:=by
 obtain⟨M,ha,hb,la,lb,f⟩:=j;unfold QC;refine aH3 (cX (by lia) ?_);have M2:=M.xK (by lia) lb h;by_cases c:nb-1=1
 ·rw[if_pos (by simpa using c)];exact aH7 ⟨bW.refl _,.inl ⟨_,rfl,M2.AJ T c⟩⟩
 ·rw[if_neg (by simpa using c)];exact aEc O C T d ⟨M2,ha,by lia,la,by lia,by simp;lia⟩ (by simp;lia)
theorem ES{st c d:SortSt}{r:ForInStep (Option (aL5)×Nat×Nat×aL5×γ)}(h:bW st c)(q:nW lt a b n c r d):nW lt a b n st r d:=⟨h.trans q.1,q.2⟩
theorem aAr(O:Wk lt)(C:mV prog w A s κ lt a₀)(T:ED lt a₀ a b){out:aL5}(F:kindOf st=κ)(j:Jh lt a b out na nb)(h:n<=out.size+1):
  wpS (model prog w) A E s (hi1 a b mg ac bc out na nb) (nW lt a b n st) st:=by
 have G:=j;obtain⟨M,ha,hb,la,lb,N⟩:=j;unfold hi1;have l:=bA O T.sa;have m:=bA O T.sb;refine aH3 (sN λo same=>?_);refine aIu ?_ λr H q=>ES same q;have f:kindOf o=κ:=same.1.trans F;refine aH3 (cX (by lia) ?_);refine aH3 (mE O C f (by lia) (by lia) (λp q B t P=>l p q t (by lia)) (λi hi=>T.ma _ (dO (by lia))) (T.mb _ (dO (by lia))) λk I B t=>?_)
 have key:∀z∈b.toList.take nb,lt (aP b (nb-1)) z=false:=λz hz=>by
  obtain⟨j,d,g,rfl⟩:=cS hz;exact m _ _ (by lia) (by lia)
 have J:∀x∈b.toList.take nb,∀y∈(a.toList.take na).drop k,lt y x=false:=λx K y L=>by
  obtain⟨j,u,d,g,rfl⟩:=mem_mid L;have e:=t j u d;simp only[jQ,Bool.false_eq_true,if_false,Bool.not_eq_false',Nat.zero_add]at e;exact O.tr _ _ _ (key x K) (O.qU _ _ e)
 have D:∀z∈a.toList.take k,lt (aP b (nb-1)) z=false:=λz hz=>by
  obtain⟨j,d,g,rfl⟩:=cS hz;have e:=B j d;simp only[jQ,Bool.false_eq_true,if_false,Bool.not_eq_true',Nat.zero_add]at e;exact e
 dsimp only;by_cases c:na-k > 0
 ·rw[if_pos c];have M2:=M.NK (k:=k) (by lia) J;have sz:(a.extract k na).reverse.size=na-k:=by rw[Array.size_reverse,Array.size_extract];lia
  by_cases v:k=0
  ·rw[if_pos (by simpa using v)];exact aH7 ⟨bW.refl _,.inl ⟨_,rfl,M2.F4 (.inl v)⟩⟩
  ·rw[if_neg (by simpa using v)];exact aAq O C T f ⟨M2,by lia,hb,by lia,lb,by rw[Array.size_append,sz];lia⟩ (by rw[Array.size_append,sz];lia) D
 ·obtain rfl:k=na:=by lia
  rw[if_neg c];exact aAq O C T f G h D
theorem aEd(O:Wk lt)(C:mV prog w A s κ lt a₀)(T:ED lt a₀ a b){c:KZ}(l:kindOf st=κ)(j:Jh lt a b c.2.2.2.1 c.2.1 c.2.2.1)(d:n<=c.2.2.2.1.size+1):
  wpS (model prog w) A E s (hi0 a b mg c) (nW lt a b n st) st:=by
 obtain⟨M,ha,hb,la,lb,m⟩:=j;have g:=bA O T.sa;have h:=bA O T.sb;unfold hi0;refine aH3 (cX (by lia) ?_);refine aH3 (cX (by lia) ?_);refine aH3 (wlt C l (T.mb _ (dO (by lia))) (T.ma _ (dO (by lia))) ?_);dsimp only
 cases hlt:lt (aP b (c.2.2.1-1)) (aP a (c.2.1-1)) with
 | true=>
  rw[if_pos rfl];unfold hiA;refine aH3 (cX (by lia) ?_)
  have M2:=M.xM ha la λz hz=>by
   obtain⟨j,i,k,rfl⟩:=cS hz;exact O.tr _ _ _ (h _ _ (by lia) (by lia)) (O.qU _ _ hlt)
  by_cases e:c.2.1-1=0
  ·rw[if_pos (by simpa using e)];exact aH7 ⟨bW.refl _,.inl ⟨_,rfl,M2.F4 (.inl e)⟩⟩
  ·rw[if_neg (by simpa using e)]
   have f:Jh lt a b (c.2.2.2.1.push (aP a (c.2.1-1))) (c.2.1-1) c.2.2.1:=⟨M2,by lia,hb,by lia,lb,by simp;lia⟩
   split
   ·exact aH7 ⟨bW.refl _,.inr ⟨rfl,f,by simpa using d⟩⟩
   ·exact aH7 ⟨bW.refl _,rfl,.inr ⟨rfl,f,by simpa using d⟩⟩
 | false=>
  rw[if_neg Bool.false_ne_true];unfold hiB;refine aH3 (cX (by lia) ?_)
  have M2:=M.xK (by lia) lb λz hz=>by
   obtain⟨j,i,k,rfl⟩:=cS hz;exact O.tr _ _ _ (g _ _ (by lia) (by lia)) hlt
  by_cases e:c.2.2.1-1=1
  ·rw[if_pos (by simpa using e)];exact aH7 ⟨bW.refl _,.inl ⟨_,rfl,M2.AJ T e⟩⟩
  ·rw[if_neg (by simpa using e)]
   have f:Jh lt a b (c.2.2.2.1.push (aP b (c.2.2.1-1))) c.2.1 (c.2.2.1-1):=⟨M2,ha,by lia,la,by lia,by simp;lia⟩
   split
   ·exact aH7 ⟨bW.refl _,.inr ⟨rfl,f,by simpa using d⟩⟩
   ·exact aH7 ⟨bW.refl _,rfl,.inr ⟨rfl,f,by simpa using d⟩⟩
theorem yX{f:Nat->(Option (aL5)×Nat×Nat×aL5×γ)->StateT SortSt Sem (ForInStep (Option (aL5)×Nat×Nat×aL5×γ))}{c:Option (aL5)×Nat×Nat×aL5×γ}{Q:(Option (aL5)×Nat×Nat×aL5×γ)->SortSt->Prop}(x:(Option (aL5)×Nat×Nat×aL5×γ)->Prop)(n:Nat)
  (B:c.1=none) (j:Jh lt a b c.2.2.2.1 c.2.1 c.2.2.1) (G:n=c.2.2.2.1.size)
  (step:∀i g d,bW st d ->g.1=none->Jh lt a b g.2.2.2.1 g.2.1 g.2.2.1->n+i<=g.2.2.2.1.size->wpS (model prog w) A E s (f i g) (λr k=>nW lt a b (g.2.2.2.1.size+1) d r k/\∀l,r= .done l->x l) d)
  (h:∀g d,bW st d ->x g ->GP lt a b (n+1) g ->Q g d):wpS (model prog w) A E s (forIn [:a.size+b.size] c f) Q st:=by
 refine aIh (I:=λi g d =>bW st d /\g.1=none/\Jh lt a b g.2.2.2.1 g.2.1 g.2.2.1/\n+i<=g.2.2.2.1.size) ?_ ?_ ⟨bW.refl _,B,j,by lia⟩
 ·rintro i g d _ hi ⟨p,C,m,t⟩;refine aIu (step i g d p C m t) λr k q=>?_;obtain⟨⟨y,o⟩,dn⟩:=q
  cases r with
  | done l=>
   refine h l k (p.trans y) (dn l rfl) ?_;rcases o with o | ⟨u,v,D⟩
   ·exact .inl o
   ·exact .inr ⟨u,v,by lia⟩
  | yield l=>
   obtain⟨F,z | ⟨u,v,D⟩⟩:=o
   ·obtain⟨r,e,_⟩:=z;rw[F]at e;cases e
   ·exact⟨p.trans y,u,v,by lia⟩
 ·rintro g d ⟨_,_,m,t⟩;exfalso;have:=m.n;have:=m.ha;have:=m.hb;simp at t
  lia
theorem QM(O:Wk lt)(C:mV prog w A s κ lt a₀)(T:ED lt a₀ a b){c:P6}(u:kindOf st=κ)(j:Jh lt a b c.2.2.2.1 c.2.1 c.2.2.1):
  wpS (model prog w) A E s (FU a b c) (λr l=>nW lt a b (c.2.2.2.1.size+1) st r l/\∀m,r= .done m->∃x,m.1=some x) st:=by
 unfold FU;refine aH3 (yX (lt:=lt) (c:=((none,c.snd.fst,c.snd.snd.fst,c.snd.snd.snd.fst,0,0):KZ)) (λ_=>True) c.2.2.2.1.size rfl j rfl (λi z n p _ t _=>aIu (aEd O C T (p.1.trans u) t (aGy _)) λ_ _ q=>⟨q,λ_ _=>trivial⟩) λd F f _ G=>?_);obtain⟨K,k⟩:=d
 rcases G with ⟨r,h,g⟩ | ⟨h,B,H⟩
 ·dsimp only at h;subst h;exact aH7 ⟨⟨f,.inl ⟨r,rfl,g⟩⟩,λm e=>by cases e;exact⟨r,rfl⟩⟩
 ·dsimp only at h B H;subst h;dsimp only;refine aH3 (wpS_lift (aI2 ⟨rfl,?_⟩));refine aH3 (yX (lt:=lt) (c:=((none,k.fst,k.snd.fst,k.snd.snd.fst,c.snd.snd.snd.snd+1,k.snd.snd.snd.fst,k.snd.snd.snd.snd):QG)) (λ_=>True) k.2.2.1.size rfl B rfl (λi z n p _ t _=>aIu (Q:=nW lt a b (z.2.2.2.1.size+1) n) ?_ λ_ _ q=>⟨q,λ_ _=>trivial⟩) λe l o _ v=>?_)
  ·split
   ·exact aAr O C T (p.1.trans (f.1.trans u)) t (aGy _)
   ·exact aAr O C T (p.1.trans (f.1.trans u)) t (aGy _)
  ·obtain⟨L,M⟩:=e
   rcases v with ⟨r,h,g⟩ | ⟨h,D,I⟩
   ·dsimp only at h;subst h;exact aH7 ⟨⟨f.trans o,.inl ⟨r,rfl,g⟩⟩,λm e=>by cases e;exact⟨r,rfl⟩⟩
   ·dsimp only at h D I;subst h;dsimp only;refine aH3 (sN λJ y=>?_);exact aH7 ⟨⟨(f.trans o).trans y,rfl,.inr ⟨rfl,D,by dsimp only;lia⟩⟩,λm e=>by cases e⟩
theorem LD(O:Wk lt)(C:mV prog w A s κ lt a₀)(T:ED lt a₀ a b){Q:Array Keyed->SortSt->Prop}(t:kindOf st=κ)
  (h:∀r f,bW st f ->Good lt (a.toList++b.toList) r.toList->Q r f):wpS (model prog w) A E s (pO a b) Q st:=by
 rw[CL];have pa:=T.pa;have pb:=T.pb;refine aH3 (wpS_lift (aI2 ⟨rfl,?_⟩));refine aH3 (cX (by lia) ?_)
 have u:sZ lt a b #[] a.size b.size:=by
  have p:a.toList.take a.size=a.toList:=aK1 (by simp);have q:b.toList.take b.size=b.toList:=aK1 (by simp);refine⟨by simp[p,q],by simp,by rw[p];exact T.sa,by rw[q];exact T.sb,by simp⟩
 have M1:sZ lt a b #[aP a (a.size-1)] (a.size-1) b.size:=by
  have:=u.xM pa (aGy _) λz hz=>T.last z (aIa hz);simpa using this
 by_cases l:a.size-1=0
 ·rw[if_pos (by simp[l])];exact aH7 (h _ _ (bW.refl _) (M1.F4 (.inl l)))
 ·rw[if_neg (by simpa using l)];by_cases m:b.size=1
  ·rw[if_pos (by simpa using m)];exact aH7 (h _ _ (bW.refl _) (M1.AJ T m))
  ·rw[if_neg (by simpa using m)];refine aH3 (wpS_get ?_)
   have j:Jh lt a b #[aP a (a.size-1)] (a.size-1) b.size:=⟨M1,by lia,by lia,by lia,aGy _,by simp;lia⟩
   refine aH3 (yX (lt:=lt) (c:=((none,a.size-1,b.size,#[aP a (a.size-1)],gallopOf st):P6)) (λc=>∃x,c.1=some x) 1 rfl j rfl (λi D f v _ y _=>QM O C T (v.1.trans t) y) λd n o dn B=>?_);obtain⟨F,G⟩:=d;obtain⟨x,e⟩:=dn;dsimp only at e;subst e
   rcases B with ⟨r,k,g⟩ | ⟨k,_⟩
   ·dsimp only at k;cases k;exact aH7 (h x n o g)
   ·cases k
end
theorem lT(h:i<a.size):aP a i=a.toList[i]'(by simpa using h):=by
 have:=fW (xs:=a) (i:=i) h;rw[getElem?_pos a i h]at this;have:=aHd this;rw[<-this];simp
def part(a:aL5)(i j:Nat):List Keyed:=(a.toList.take j).drop i
theorem lQ(h:x∈part a i j):∃k,i<=k/\k<j/\k<a.size/\x=aP a k:=mem_mid h
theorem gJ(h:j<=a.size):(part a i j).length=j-i:=by simp[part];lia
theorem E5{i m j:Nat}(b:i<=m)(c:m<=j):part a i j=part a i m++part a m j:=by
 unfold part;have e:(a.toList.take j).drop i=((a.toList.take j).drop i).take (m-i)++((a.toList.take j).drop i).drop (m-i):=(aJ9 _ _).symm;rw[e,List.drop_drop,show i+(m-i)=m by lia];congr 1;rw[<-List.drop_take,List.take_take];congr 2;lia
theorem uF{lt:aL3}(O:Wk lt)(b:j<=a.size):Seg lt a i j↔(part a i j).Pairwise λx y=>lt y x=false:=by
 constructor
 ·intro h;rw[List.pairwise_iff_getElem];intro p q d f g;rw[gJ b]at d f
  have e:∀k (c:k<j-i),(part a i j)[k]'(by rw[gJ b];exact c)=aP a (i+k):=λk c=>by
   rw[lT (by lia)];simp[part]
  rw[e p d,e q f];exact h _ _ (by lia) (by lia) (by lia)
 ·intro h p q d g f;by_cases l:p=q
  ·subst l;exact O.JX _
  ·rw[List.pairwise_iff_getElem]at h;have:=h (p-i) (q-i) (by rw[gJ b];lia) (by rw[gJ b];lia) (by lia)
   have e:∀k (c:k<j-i),(part a i j)[k]'(by rw[gJ b];exact c)=aP a (i+k):=λk c=>by
    rw[lT (by lia)];simp[part]
   rw[e _ (by lia),e _ (by lia),show i+(p-i)=p by lia,show i+(q-i)=q by lia]at this;exact this
theorem BF(b:i<=j)(c:j<=a.size):a.toList=a.toList.take i++(part a i j++a.toList.drop j):=by
 unfold part;rw[<-List.append_assoc]
 have:a.toList.take i++(a.toList.take j).drop i=a.toList.take j:=by
  have:=aJ9 i (a.toList.take j)
  rwa [List.take_take,aL0 b]at this
 rw[this,List.take_append_drop]
theorem B5(s:Nat):∀(r:List Keyed) (n:Nat) (a:aL5),s+n+r.length<=a.size->
  ((r.zipIdx n).foldl (λa (x:Keyed×Nat)=>a.setIfInBounds (s+x.2) x.1) a).toList=a.toList.take (s+n)++r++a.toList.drop (s+n+r.length)
 | [],n,a,h=>by simp
 | p::t,n,a,h=>by
  simp only[List.length_cons]at h;rw[List.zipIdx_cons,List.foldl_cons,B5 s t (n+1) _ (by simp;lia)];have b:(a.setIfInBounds (s+n) p).toList=a.toList.set (s+n) p:=by simp
  simp only[b]
  have c:(a.toList.set (s+n) p).take (s+(n+1))=a.toList.take (s+n)++[p]:=by
   rw[show s+(n+1)=s+n+1 by lia,List.take_add_one,List.take_set_of_le (Nat.le_refl _),List.getElem?_set_self (by simp;lia)];simp
  have d:(a.toList.set (s+n) p).drop (s+(n+1)+t.length)=a.toList.drop (s+n+(p::t).length):=by
   rw[List.drop_set_of_lt (by lia)];congr 1;simp;lia
  rw[c,d];simp
theorem vB{a b:aL5}(h:a.toList[i]? =b.toList[j]?):aP a i=aP b j:=JV (by simpa using h)
theorem CN(i:Nat):mergeAt' i=(do
 let s<-get
 match ((pendingOf s)[i]?,(pendingOf s)[i+1]?) with
 | (some (sa,na,power),some (sb,nb,_))=>do
  set (setPending s (((pendingOf s).setIfInBounds i (sa,na+nb,power)).eraseIdxIfInBounds (i+1)))
  let x<-elem' (arrOf s) sb
  let r<-dP false x (arrOf s) sa na 0
  match r with
  | some k=>
   if (na-k==0)=true then pure true else do
    let y<-elem' (arrOf s) (sa+k+(na-k)-1)
    let r<-dP true y (arrOf s) sb nb (nb-1)
    match r with
    | some m=>
     if (m==0)=true then pure true else do
      let merged<-if na-k<=m then pN ((arrOf s).extract (sa+k) sb) ((arrOf s).extract sb (sb+m)) else pO ((arrOf s).extract (sa+k) sb) ((arrOf s).extract sb (sb+m))
      modify λs=>setArr s (merged.toList.zipIdx.foldl (λa (x:Keyed×Nat)=>a.setIfInBounds (sa+k+x.2) x.1) (arrOf s))
      let s<-get
      pure (failedOf s).isNone
    | _=>pure false
  | _=>pure false
 | _=>unsupported "internal:list.sort.pending"):=by
 rfl
section
variable {prog:Program}{w:World}{A:Around}{E:aL2}{s:Shared}{a₀:aL5}{κ:SortKind}{lt:aL3}
theorem LB{σ:Type}{M:Model}{A:Around}{E:aL2}{s:Shared}{x:σ}{Q:PUnit->σ->Prop}{st:σ}(h:Q ⟨⟩ x):wpS M A E s (set x:StateT σ Sem PUnit) Q st:=aKb (f:=λ_=>x) h
theorem dM{i k:Nat}:(a.extract i k).toList=part a i k:=AH
theorem IB{i k j:Nat}(h:k<=a.size)(c:i+j<k):aP (a.extract i k) j=aP a (i+j):=by
 have b:j<(a.extract i k).size:=by rw[Array.size_extract];lia
 rw[lT b,lT (by lia)];simp
theorem Q8{r:List Keyed}{s:Nat}(h:s+r.length<=a.size):∀b:aL5,b.toList=a.toList.take s++r++a.toList.drop (s+r.length)->∀j,(j<s\/s+r.length<=j)->aP b j=aP a j:=by
 intro b e j hj;refine vB ?_;rw[e];have c:(a.toList.take s).length=s:=by simp;lia
 rcases hj with hj | hj
 ·rw[List.append_assoc,List.getElem?_append_left (by lia),List.getElem?_take_of_lt hj]
 ·rw[List.getElem?_append_right (by simp;lia),List.getElem?_drop];congr 1;simp;lia
theorem LF(O:Wk lt)(C:mV prog w A s κ lt a₀){i sa na pw nb pw2:Nat}{Q:Bool->SortSt->Prop}(hi:(pendingOf st)[i]? =some (sa,na,pw))(hj:(pendingOf st)[i+1]? =some (sa+na,nb,pw2))
  (o:1<=na) (l:1<=nb) (hz:sa+na+nb<=a₀.size) (hB:Base κ a₀ st) (J:Seg lt (arrOf st) sa (sa+na)) (K:Seg lt (arrOf st) (sa+na) (sa+na+nb))
  (h:∀z,Base κ a₀ z ->Seg lt (arrOf z) sa (sa+na+nb)->(∀k,(k<sa\/sa+na+nb<=k)->aP (arrOf z) k=aP (arrOf st) k)->
   pendingOf z =((pendingOf st).setIfInBounds i (sa,na+nb,pw)).eraseIdxIfInBounds (i+1)->Q true z):wpS (model prog w) A E s (mergeAt' i) Q st:=by
 rw[CN];refine aH3 (wpS_get ?_);rw[hi,hj];dsimp only;refine aH3 (LB ?_);have u:=hB.size;generalize G:setPending st (((pendingOf st).setIfInBounds i (sa,na+nb,pw)).eraseIdxIfInBounds (i+1))=st1;have L:Base κ a₀ st1:=by rw[<-G];exact⟨hB.perm,hB.kind,hB.J7⟩
 have B:arrOf st1=arrOf st:=by rw[<-G]
 have W:pendingOf st1=((pendingOf st).setIfInBounds i (sa,na+nb,pw)).eraseIdxIfInBounds (i+1):=by rw[<-G]
 clear G;have mem:∀k,k<a₀.size->aP (arrOf st) k∈a₀.toList:=λk D=>hB.mem D;refine aH3 (cX (by lia) ?_);refine aH3 (mE O C L.kind (by lia) (by lia) J (λi hi=>mem _ (by lia)) (mem _ (by lia)) λk D b1 b2=>?_);dsimp only
 have low:∀j,j<k->lt (aP (arrOf st) (sa+na)) (aP (arrOf st) (sa+j))=false:=λj hj=>by
  have e:=b1 j hj;simpa only[jQ,Bool.false_eq_true,if_false,Bool.not_eq_true'] using e
 have upp:∀j,k<=j->j<na->lt (aP (arrOf st) (sa+na)) (aP (arrOf st) (sa+j))=true:=λj h3 h4=>by
  have e:=b2 j h3 h4;simpa only[jQ,Bool.false_eq_true,if_false,Bool.not_eq_false'] using e
 by_cases n:na-k=0
 ·rw[if_pos (by simpa using n)];refine aH7 (h st1 L ?_ (λj _=>by rw[B]) W);rw[B];intro p q v c H;by_cases cp:p<sa+na
  ·by_cases X:q<sa+na
   ·exact J p q v c X
   ·have e:=low (p-sa) (by lia);rw[show sa+(p-sa)=p by lia]at e;exact O.tr _ _ _ e (K (sa+na) q (aGy _) (by lia) (by lia))
  ·exact K p q (by lia) c (by lia)
 rw[if_neg (by simpa using n)];refine aH3 (cX (by lia) ?_);have b:sa+k+(na-k)-1=sa+na-1:=by lia
 rw[b];refine aH3 (mE O C L.kind (by lia) (by lia) K (λi hi=>mem _ (by lia)) (mem _ (by (clear b n D u l;lia))) λm t d1 d2=>?_);dsimp only
 have dlow:∀j,j<m->lt (aP (arrOf st) (sa+na+j)) (aP (arrOf st) (sa+na-1))=true:=λj hj=>by
  have e:=d1 j hj;simpa only[jQ,if_true] using e
 have M:∀j,m<=j->j<nb->lt (aP (arrOf st) (sa+na+j)) (aP (arrOf st) (sa+na-1))=false:=λj h3 h4=>by
  have e:=d2 j h3 h4;simpa only[jQ,if_true] using e
 by_cases g:m=0
 ·rw[if_pos (by simpa using g)];refine aH7 (h st1 L ?_ (λj _=>by rw[B]) W);rw[B];intro p q v c H;by_cases cp:p<sa+na
  ·by_cases X:q<sa+na
   ·exact J p q v c X
   ·have e:=M (q-(sa+na)) (by lia) (by lia);rw[show sa+na+(q-(sa+na))=q by lia]at e;exact O.tr _ _ _ (J p (sa+na-1) v (by (clear X H c v g t b n D u hz l o;lia)) (by (clear X cp H c v g t b n D u hz l;lia))) e
  ·exact K p q (by lia) c (by lia)
 rw[if_neg (by simpa using g)]
 have T:ED lt a₀ ((arrOf st).extract (sa+k) (sa+na)) ((arrOf st).extract (sa+na) (sa+na+m)):=by
  refine⟨λx N=>?_,λx N=>?_,?_,?_,by rw[Array.size_extract];(clear g t b D l o;lia),by rw[Array.size_extract];lia,λx N=>?_,λy hy=>?_⟩
  ·rw[dM]at N;obtain⟨j,_,_,_,rfl⟩:=lQ N;exact mem _ (by lia)
  ·rw[dM]at N;obtain⟨j,_,_,_,rfl⟩:=lQ N;exact mem _ (by lia)
  ·rw[dM,<-uF O (by lia)];exact λp q v c H=>J p q (by lia) c H
  ·rw[dM,<-uF O (by lia)];exact λp q v c H=>K p q v c (by lia)
  ·rw[dM]at N;obtain⟨j,j1,j2,_,rfl⟩:=lQ N;rw[IB (by lia) (by lia)];have e:=upp (j-sa) (by lia) (by lia);rw[show sa+(j-sa)=j by lia]at e;exact O.qU _ _ e
  ·rw[dM]at hy;obtain⟨j,j1,j2,_,rfl⟩:=lQ hy;rw[Array.size_extract,IB (by lia) (by (clear j2 j1 g t b D u hz l o;lia)),show sa+k+(min (sa+na) (arrOf st).size-(sa+k)-1)=sa+na-1 by lia];have e:=dlow (j-(sa+na)) (by lia);rw[show sa+na+(j-(sa+na))=j by lia]at e;exact O.qU _ _ e
 have fin:∀(r:aL5) (d:SortSt),bW st1 d->Good lt (((arrOf st).extract (sa+k) (sa+na)).toList++((arrOf st).extract (sa+na) (sa+na+m)).toList) r.toList->
   wpS (model prog w) A E s (do
    modify λs=>setArr s (r.toList.zipIdx.foldl (λa (x:Keyed×Nat)=>a.setIfInBounds (sa+k+x.2) x.1) (arrOf s))
    let s<-get
    pure (failedOf s).isNone) Q d:=λr d P Y=>by
  refine aH3 (aKb ?_);refine aH3 (wpS_get ?_);have ar2:arrOf d=arrOf st:=P.2.1.trans B;have hf2:failedOf d=none:=P.2.2.2.trans L.J7
  have R:r.toList.length=na-k+m:=by
   have:=Y.1.length_eq;rw[List.length_append,dM,dM,gJ (by lia),gJ (by lia)]at this
   lia
  have pl:=B5 (sa+k) r.toList 0 (arrOf st) (by (clear g b n l o;lia));simp only[Nat.add_zero]at pl;generalize ha2:(r.toList.zipIdx.foldl (λa (x:Keyed×Nat)=>a.setIfInBounds (sa+k+x.2) x.1) (arrOf st))=a2 at pl;have hset:setArr d (r.toList.zipIdx.foldl (λa (x:Keyed×Nat)=>a.setIfInBounds (sa+k+x.2) x.1) (arrOf d))=setArr d a2:=by rw[ar2,ha2]
  rw[hset];have fn:(failedOf (setArr d a2)).isNone=true:=by show (failedOf d).isNone=true;rw[hf2];rfl
  rw[fn]
  have rp:r.toList.Perm (part (arrOf st) (sa+k) (sa+na+m)):=by
   have:=Y.1;rw[dM,dM,<-E5 (by lia) (by lia)]at this;exact this
  have S:a2.Perm (arrOf st):=by
   rw[Array.perm_iff_toList_perm,pl];have e:=BF (a:=arrOf st) (i:=sa+k) (j:=sa+na+m) (by lia) (by lia);rw[show sa+k+r.toList.length=sa+na+m by (clear g t b n u hz l o;lia),List.append_assoc];rw[e]
   conv=>lhs;rw[<-e]
   exact aJ7 _ (aJ4 _ rp)
  have f:a2.size=(arrOf st).size:=S.size_eq;have U:=Q8 (a:=arrOf st) (r:=r.toList) (s:=sa+k) (by (clear f g b n l o;lia)) a2 pl;rw[show sa+k+r.toList.length=sa+na+m by (clear f g t b n u hz l o;lia)]at U
  have mid:part a2 (sa+k) (sa+na+m)=r.toList:=by
   unfold part;rw[pl,show sa+k+r.toList.length=sa+na+m by (clear f g t b n u hz l o;lia)];have l1:((arrOf st).toList.take (sa+k)).length=sa+k:=by simp;(clear f R g t b n l o;lia)
   rw[List.append_assoc,List.take_append,l1,List.drop_append,List.length_take,l1,List.drop_of_length_le (by simp;(clear l1 f R g t b n D u hz l o;lia))];rw[show sa+k-min (sa+na+m) (sa+k)=0 by (clear l1 f R g t b n u hz l o;lia),List.drop_zero,List.nil_append,List.take_append,R,show sa+na+m-(sa+k)-(na-k+m)=0 by (clear l1 f R g t b n D u hz l o;lia)];simp;rw[List.take_of_length_le (by simp at R⊢;(clear l1 f g t b n u hz l o;lia))]
  refine aH7 (h (setArr d a2) ⟨S.trans hB.perm,P.1.trans L.kind,hf2⟩ ?_ (λj hj=>U j (by lia)) (P.2.2.1.trans W));show Seg lt a2 sa (sa+na+nb)
  have F:∀j,sa+k<=j->j<sa+na+m->∃i,sa+k<=i/\i<sa+na+m/\aP a2 j=aP (arrOf st) i:=λj h3 h4=>by
   have:aP a2 j∈part a2 (sa+k) (sa+na+m):=by
    unfold part;rw[lT (by lia)];have hl:j-(sa+k)<((a2.toList.take (sa+na+m)).drop (sa+k)).length:=by simp;lia
    have:=aK8 hl;simp only[List.getElem_drop,List.getElem_take]at this;simpa[show sa+k+(j-(sa+k))=j by lia] using this
   rw[mid]at this;obtain⟨i,I,V,_,e⟩:=lQ (rp.mem_iff.mp this);exact⟨i,I,V,e⟩
  have smid:Seg lt a2 (sa+k) (sa+na+m):=by rw[uF O (by lia),mid];exact Y.2
  have z1:∀p i,sa<=p->p<sa+k->sa+k<=i->i<sa+na+nb->lt (aP (arrOf st) i) (aP (arrOf st) p)=false:=λp i p1 p2 I V=>by
   by_cases ci:i<sa+na
   ·exact J p i p1 (by lia) ci
   ·have e:=low (p-sa) (by lia);rw[show sa+(p-sa)=p by lia]at e;exact O.tr _ _ _ e (K (sa+na) i (aGy _) (by lia) (by lia))
  have z3:∀i q,sa+k<=i->i<sa+na+m->sa+na+m<=q->q<sa+na+nb->lt (aP (arrOf st) q) (aP (arrOf st) i)=false:=λi q I V q1 q2=>by
   by_cases ci:i<sa+na
   ·have e:=M (q-(sa+na)) (by lia) (by lia);rw[show sa+na+(q-(sa+na))=q by lia]at e;exact O.tr _ _ _ (J i (sa+na-1) (by lia) (by (clear q2 q1 V I f R g t b n D u hz l o;lia)) (by (clear ci q2 q1 V I f R g t b n D u hz l;lia))) e
   ·exact K i q (by lia) (by lia) (by lia)
  intro p q v c H;by_cases cp:p<sa+k
  ·rw[U p (.inl cp)];by_cases X:q<sa+k
   ·rw[U q (.inl X)];exact J p q v c (by lia)
   ·by_cases Z:q<sa+na+m
    ·obtain⟨i,I,V,e⟩:=F q (by lia) Z;rw[e];exact z1 p i v cp I (by lia)
    ·rw[U q (.inr (by lia))];exact z1 p q v cp (by lia) H
  ·by_cases cp2:p<sa+na+m
   ·by_cases Z:q<sa+na+m
    ·exact smid p q (by lia) c Z
    ·rw[U q (.inr (by lia))];obtain⟨i,I,V,e⟩:=F p (by lia) cp2;rw[e];exact z3 i q I V (by lia) H
   ·rw[U p (.inr (by lia)),U q (.inr (by lia))];exact K p q (by lia) c (by lia)
 by_cases c3:na-k<=m
 ·rw[if_pos c3];exact aH3 (LC O C T L.kind λr d P Y=>fin r d P Y)
 ·rw[if_neg c3];exact aH3 (LD O C T L.kind λr d P Y=>fin r d P Y)
end
abbrev Run:=Nat×Nat×Nat
def d5(r:Run):Nat×Nat:=(r.1,r.2.1)
def Chain:Nat->List (Nat×Nat)->Nat->Prop
 | s,[],e=>s=e
 | s,r::l,e=>r.1=s/\1<=r.2/\Chain (s+r.2) l e
theorem mU:∀{l m:List (Nat×Nat)} {s e:Nat},Chain s (l++m) e↔∃x,Chain s l x/\Chain x m e
 | [],m,s,e=>by simp[Chain]
 | r::l,m,s,e=>by
  simp only[List.cons_append,Chain,mU (l:=l) (m:=m)];constructor
  ·rintro⟨a,b,x,c,d⟩;exact⟨x,⟨a,b,c⟩,d⟩
  ·rintro⟨x,⟨a,b,c⟩,d⟩;exact⟨a,b,x,c,d⟩
theorem mT:∀{l:List (Nat×Nat)} {s e:Nat},Chain s l e->s+l.length<=e
 | [],s,e,h=>by simp[Chain]at h;simp;lia
 | r::l,s,e,h=>by
  obtain⟨_,b,a⟩:=h;have:=mT a;simp;lia
theorem mS:∀{l:List (Nat×Nat)} {s e:Nat},Chain s l e->∀r∈l,s<=r.1/\r.1+r.2<=e/\1<=r.2
 | [],s,e,h,r,a=>by cases a
 | q::l,s,e,h,r,a=>by
  obtain⟨d,c,b⟩:=h;rcases aH2.mp a with z | z
  ·subst z;have:=mT b;exact⟨by lia,by lia,c⟩
  ·have:=mS b r z;exact⟨by lia,this.2⟩
structure Wait(κ:SortKind)(lt:aL3)(a₀:aL5)(st:SortSt)(lo:Nat):Prop where
 base:Base κ a₀ st
 ch:Chain 0 ((pendingOf st).toList.map d5) lo
 sg:∀r∈(pendingOf st).toList,Seg lt (arrOf st) r.1 (r.1+r.2.1)
 le:lo<=a₀.size
section
variable {prog:Program}{w:World}{A:Around}{E:aL2}{s:Shared}{a₀:aL5}{κ:SortKind}{lt:aL3}
theorem oY{a b:aL5}(h:∀k,i<=k->k<j->aP b k=aP a k)(g:Seg lt a i j):Seg lt b i j:=λp q d c e=>by
 rw[h p d (by lia),h q (by lia) e];exact g p q d c e
theorem V1{p:List Run}(h:i+1<p.length):∃pre b c a,p=pre++b::c::a/\pre.length=i:=by
 refine⟨p.take i,p[i]'(by lia),p[i+1],p.drop (i+2),?_,by simp;lia⟩;have d:=List.drop_eq_getElem_cons (l:=p) (i:=i) (by lia);have e:=List.drop_eq_getElem_cons (l:=p) (i:=i+1) h;rw[<-e,<-d,List.take_append_drop]
theorem GS(O:Wk lt)(C:mV prog w A s κ lt a₀){i lo:Nat}{Q:Bool->SortSt->Prop}(W:Wait κ lt a₀ st lo)(hi:i+1<(pendingOf st).size)
  (h:∀a,Wait κ lt a₀ a lo->(pendingOf a).size+1=(pendingOf st).size->(∀k,lo<=k->aP (arrOf a) k=aP (arrOf st) k)->Q true a):wpS (model prog w) A E s (mergeAt' i) Q st:=by
 obtain⟨pre,g,j,b,e,m⟩:=V1 (p:=(pendingOf st).toList) (i:=i) (by simpa using hi)
 have H:(pendingOf st)[i]? =some g:=by
  have:(pendingOf st).toList[i]? =some g:=by rw[e,<-m];simp
  simpa using this
 have I:(pendingOf st)[i+1]? =some j:=by
  have:(pendingOf st).toList[i+1]? =some j:=by rw[e,<-m];simp
  simpa using this
 have ch:=W.ch;rw[e,List.map_append]at ch;obtain⟨x,t,u⟩:=mU.mp ch;simp only[List.map_cons,Chain,d5]at u;obtain⟨v,y,D,F,l⟩:=u;have len:=mT l;have s1:=W.sg g (by rw[e];simp);have s2:=W.sg j (by rw[e];simp);obtain⟨c,d,J⟩:=g;obtain⟨N,f,P⟩:=j;dsimp only at v y D F l s1 s2 len;subst v D;have le:=W.le;refine LF O C H I y F (by lia) W.base s1 s2 λa B sg n K=>?_
 have o:(pendingOf a).toList=pre++(c,d+f,J)::b:=by
  rw[K,Array.toList_eraseIdxIfInBounds,Array.toList_setIfInBounds,e,<-m];simp;rw[List.eraseIdx_append_of_length_le (by lia)];simp[show pre.length+1-pre.length=1 by lia]
 refine h a ⟨B,?_,λr G=>?_,W.le⟩ ?_ λk R=>n k (.inr (by lia))
 ·rw[o,List.map_append];refine mU.mpr ⟨c,t,?_⟩;simp only[List.map_cons,Chain,d5];exact⟨trivial,by lia,by rw[show c+(d+f)=c+d+f by lia];exact l⟩
 ·rw[o]at G;rcases aGz.mp G with z | z
  ·have q:d5 r∈pre.map d5:=aH5.mpr ⟨r,z,rfl⟩;have:=mS t _ q;simp only[d5]at this;exact oY (λk L M=>n k (.inl (by lia))) (W.sg r (by rw[e];simp[z]))
  ·rcases aH2.mp z with z | z
   ·subst z;show Seg lt _ c (c+(d+f));rw[show c+(d+f)=c+d+f by lia];exact sg
   ·have q:d5 r∈b.map d5:=aH5.mpr ⟨r,z,rfl⟩;have:=mS l _ q;simp only[d5]at this;exact oY (λk L M=>n k (.inr (by lia))) (W.sg r (by rw[e];simp[z]))
 ·have:=aHu List.length o;have:=aHu List.length e;simp at*
  lia
theorem CG{p:Array Run}{i pw:Nat}:(p.modify i λ(x:Run)=>(x.1,x.2.1,pw)).toList.map d5=p.toList.map d5/\(p.modify i λ(x:Run)=>(x.1,x.2.1,pw)).size=p.size:=by
 refine⟨?_,by simp⟩;rw[Array.toList_modify];apply aK2;intro j;simp only[List.getElem?_map,List.getElem?_modify];by_cases h:i=j
 ·subst h;cases p.toList[i]? <;> simp[d5]
 ·simp[h]
end
section
variable {prog:Program}{w:World}{A:Around}{E:aL2}{s:Shared}{a₀:aL5}{κ:SortKind}{lt:aL3}
theorem Wait.power{lo pw i:Nat}(W:Wait κ lt a₀ st lo):Wait κ lt a₀ (setPending st ((pendingOf st).modify i λ(x:Run)=>(x.1,x.2.1,pw))) lo:=by
 obtain⟨b,c,g,l⟩:=W;have mb:=CG (p:=pendingOf st) (i:=i) (pw:=pw);refine⟨⟨b.perm,b.kind,b.J7⟩,?_,λr d=>?_,l⟩
 ·show Chain 0 (((pendingOf st).modify i λ(x:Run)=>(x.1,x.2.1,pw)).toList.map d5) lo;rw[mb.1];exact c
 ·have a :r∈((pendingOf st).modify i λ(x:Run)=>(x.1,x.2.1,pw)).toList:=d;have:d5 r∈(pendingOf st).toList.map d5:=by rw[<-mb.1];exact aH5.mpr ⟨r,a,rfl⟩
  obtain⟨q,f,e⟩:=aH5.mp this;simp only[d5,Prod.mk.injEq]at e;have:=g q f;rw[e.1,e.2]at this;exact this
theorem Wait.push{lo n:Nat}(W:Wait κ lt a₀ st lo)(d:1<=n)(e:lo+n<=a₀.size)(g:Seg lt (arrOf st) lo (lo+n)):Wait κ lt a₀ (setPending st ((pendingOf st).push (lo,n,0))) (lo+n):=by
 obtain⟨b,c,f,l⟩:=W;refine⟨⟨b.perm,b.kind,b.J7⟩,?_,λr h=>?_,e⟩
 ·show Chain 0 (((pendingOf st).push (lo,n,0)).toList.map d5) (lo+n);simp only[Array.toList_push,List.map_append];exact mU.mpr ⟨lo,c,rfl,d,rfl⟩
 ·have a :r∈((pendingOf st).push (lo,n,0)).toList:=h;simp only[Array.toList_push]at a;rcases aGz.mp a with z | z
  ·exact f r z
  ·simp at z;subst z;exact g
theorem Wait.held{st a :SortSt}{lo:Nat}(W:Wait κ lt a₀ st lo)(B:Base κ a₀ a)(k:∀j,j<lo->aP (arrOf a) j=aP (arrOf st) j)(p:pendingOf a =pendingOf st):Wait κ lt a₀ a lo:=by
 obtain⟨b,c,e,l⟩:=W;refine⟨B,by rw[p];exact c,λr d=>?_,l⟩;rw[p]at d;have:=mS c (d5 r) (aH5.mpr ⟨r,d,rfl⟩);simp only[d5]at this;exact oY (λj f g=>k j (by lia)) (e r d)
def HB(lo n size:Nat):StateT SortSt Sem (ForInStep (Option Unit×Nat)):=do
 modify λs=>setPending s ((pendingOf s).push (lo,n,0))
 pure (.yield (none,lo+n))
def yD(lo n size:Nat):StateT SortSt Sem (ForInStep (Option Unit×Nat)):=do
 let g<-get
 match (pendingOf g).back? with
 | some (s1,d,_)=>do
  let c<-forIn [:size] ((none,()):Option Unit×Unit) λ_ _=>do
   let g<-get
   match (if (pendingOf g).size > 1 then (pendingOf g)[(pendingOf g).size-2]? else none) with
   | some (_,_,a)=>if a<=power' size (2*s1+d) (2*s1+d+d+n) size then pure (.done (none,())) else do
     let b<-mergeAt' ((pendingOf g).size-2)
     if (!b)=true then pure (.done (some (),())) else pure (.yield (none,()))
   | _=>pure (.done (none,()))
  match c.fst with
  | some r=>pure (.done (some r,lo))
  | none=>do
   modify λs=>setPending s ((pendingOf s).modify ((pendingOf s).size-1) λ(x:Run)=>(x.1,x.2.1,power' size (2*s1+d) (2*s1+d+d+n) size))
   HB lo n size
 | _=>HB lo n size
def G2(size a lo:Nat):StateT SortSt Sem (ForInStep (Option Unit×Nat)):=
 if lo>=size then pure (.done (none,lo)) else countRun' lo (size-lo) >>=λr=>match r with
  | some n=>if n<a then liftM (rule "list.sort.binary-insertion") >>=λ_=>binarySort' lo (min (size-lo) a) n >>=λb=>if (!b)=true then pure (.done (some (),lo)) else yD lo (min (size-lo) a) size
    else yD lo n size
  | none=>pure (.done (some (),lo))
def U4(size:Nat):StateT SortSt Sem (ForInStep (Option Unit×Unit)):=do
 let g<-get
 if (pendingOf g).size<=1 then pure (.done (none,())) else do
  let b<-mergeAt' (if (if (pendingOf g).size-2 > 0 then (pendingOf g)[(pendingOf g).size-2-1]?.map (·.2.1) else none).any (· < ((pendingOf g)[(pendingOf g).size-2+1]?.elim 0 (·.2.1))) then (pendingOf g).size-2-1 else (pendingOf g).size-2)
  if (!b)=true then pure (.done (some (),())) else pure (.yield (none,()))
theorem L1:sortRuns' =(do
  let g<-get
  let c<-forIn [:(arrOf g).size] ((none,0):Option Unit×Nat) λ_ c=>G2 (arrOf g).size (minRun' (arrOf g).size (arrOf g).size 0) c.snd
  match c.fst with
  | some r=>pure r
  | none=>do
   let d<-forIn [:(arrOf g).size] ((none,()):Option Unit×Unit) λ_ _=>U4 (arrOf g).size
   match d.fst with
   | some r=>pure r
   | none=>pure ()):=by
 rw[sortRuns'_eq];refine aI4 λg=>?_;dsimp only;have key:∀(n:Nat) (f e :Nat->Option Unit×Nat->StateT SortSt Sem (ForInStep (Option Unit×Nat))) (k h :Option Unit×Nat->StateT SortSt Sem Unit) (i:Option Unit×Nat),f=e ->k=h ->(forIn [:n] i f >>=k)=(forIn [:n] i e >>=h):=λn f e k h i m o=>by rw[m,o]
 refine key _ _ _ _ _ _ (funext λx=>funext λc=>?_) (funext λc=>?_)
 ·have a:∀(n:Nat) (f e :Nat->Option Unit×Unit->StateT SortSt Sem (ForInStep (Option Unit×Unit))) (k h :Option Unit×Unit->StateT SortSt Sem (ForInStep (Option Unit×Nat))) (i:Option Unit×Unit),f=e ->k=h ->(forIn [:n] i f >>=k)=(forIn [:n] i e >>=h):=λn f e k h i m o=>by rw[m,o]
  unfold G2;refine aJx rfl (λ_=>rfl) (λ_=>?_);refine aI4 λr=>?_
  cases r with
  | none=>rfl
  | some n=>
   refine aJx rfl (λ_=>?_) (λ_=>?_)
   ·refine aI4 λ_=>?_;refine aI4 λb=>?_;refine aJx rfl (λ_=>rfl) (λ_=>?_);unfold yD;refine aI4 λp=>?_
    cases (pendingOf p).back? with
    | none=>rfl
    | some r=>
     obtain⟨s1,s,t⟩:=r;refine a _ _ _ _ _ _ (funext λx=>funext λc=>aI4 λj=>?_) (funext λc=>?_)
     ·cases (if (pendingOf j).size > 1 then (pendingOf j)[(pendingOf j).size-2]? else none) with
      | none=>rfl
      | some r=>rfl
     ·obtain⟨l,q⟩:=c;cases l <;> rfl
   ·unfold yD;refine aI4 λp=>?_
    cases (pendingOf p).back? with
    | none=>rfl
    | some r=>
     obtain⟨s1,s,t⟩:=r;refine a _ _ _ _ _ _ (funext λx=>funext λc=>aI4 λj=>?_) (funext λc=>?_)
     ·cases (if (pendingOf j).size > 1 then (pendingOf j)[(pendingOf j).size-2]? else none) with
      | none=>rfl
      | some r=>rfl
     ·obtain⟨l,q⟩:=c;cases l <;> rfl
 ·obtain⟨l,q⟩:=c
  cases l with
  | some r=>rfl
  | none=>
   refine aI4 λd=>?_;obtain⟨u,v⟩:=d;cases u <;> rfl
variable{Q:ForInStep (Option Unit×Nat)->SortSt->Prop}
theorem UL(O:Wk lt)(C:mV prog w A s κ lt a₀){lo n size:Nat}(W:Wait κ lt a₀ st lo)(l:1<=n)(m:lo+n<=a₀.size)(g:Seg lt (arrOf st) lo (lo+n))
  (h:∀d,Wait κ lt a₀ d (lo+n)->Q (.yield (none,lo+n)) d):wpS (model prog w) A E s (yD lo n size) Q st:=by
 have push:∀a,Wait κ lt a₀ a lo->Seg lt (arrOf a) lo (lo+n)->wpS (model prog w) A E s (HB lo n size) Q a:=λa b o=>by
  unfold HB;exact aH3 (aKb (aH7 (h _ (b.push l m o))))
 unfold yD;refine aH3 (wpS_get ?_)
 cases hb:(pendingOf st).back? with
 | none=>exact push st W g
 | some r=>
  obtain⟨s1,v,y⟩:=r;dsimp only;refine aH3 (aIu (aIh (I:=λ_ c a=>c=(none,())/\Wait κ lt a₀ a lo/\∀k,lo<=k->aP (arrOf a) k=aP (arrOf st) k) (Q:=λc a=>c=(none,())/\Wait κ lt a₀ a lo/\∀k,lo<=k->aP (arrOf a) k=aP (arrOf st) k) ?_ (λ_ _ r=>r) ⟨rfl,W,λ_ _=>rfl⟩) ?_)
  ·rintro x c a _ _ ⟨rfl,b,f⟩;refine aH3 (wpS_get ?_);by_cases i:(pendingOf a).size > 1
   ·rw[if_pos i];have e:(pendingOf a)[(pendingOf a).size-2]? =some ((pendingOf a)[(pendingOf a).size-2]'(by lia)):=by simp
    rw[e];generalize (pendingOf a)[(pendingOf a).size-2]'(by lia)=r;obtain⟨z,B,D⟩:=r;dsimp only;split
    ·exact aH7 ⟨rfl,b,f⟩
    ·refine aH3 (GS O C b (by lia) λp q _ t=>?_);exact aH7 ⟨rfl,q,λk j=>(t k j).trans (f k j)⟩
   ·rw[if_neg i];exact aH7 ⟨rfl,b,f⟩
  ·rintro c a ⟨rfl,b,f⟩;dsimp only;refine aH3 (aKb ?_);exact push _ b.power (oY (λk u _=>f k u) g)
theorem aAk(O:Wk lt)(C:mV prog w A s κ lt a₀){lo g:Nat}(W:Wait κ lt a₀ st lo)
  (hd:lo=a₀.size->Q (.done (none,lo)) st) (h:∀n a,1<=n->Wait κ lt a₀ a (lo+n)->Q (.yield (none,lo+n)) a):wpS (model prog w) A E s (G2 a₀.size g lo) Q st:=by
 have le:=W.le;unfold G2;by_cases c:lo>=a₀.size
 ·rw[if_pos c];exact aH7 (hd (by lia))
 ·rw[if_neg c];refine aH3 (VG O C (by lia) (by lia) W.base λm d i m1 m2 b held=>?_);have j:Wait κ lt a₀ d lo:=W.held i held.1 held.2;dsimp only;by_cases less:m<g
  ·rw[if_pos less];refine aH3 (wpS_lift (aI2 ⟨rfl,?_⟩));refine aH3 (QO O C (by lia) (by lia) i b λk l e o p=>?_);exact UL O C (j.held l o p) (by lia) (by lia) e λa f =>h _ a (by lia) f
  ·rw[if_neg less];exact UL O C j m1 (by lia) b λa f =>h _ a m1 f
theorem idx(b:Prop)[Decidable b](n:Nat)(h:2<=n):(if b then n-2-1 else n-2)+1<n:=by split <;> lia
theorem VF(O:Wk lt)(C:mV prog w A s κ lt a₀){Q:Unit->SortSt->Prop}(j:Base κ a₀ st)(f:pendingOf st= #[])
  (h:∀b,Base κ a₀ b ->Seg lt (arrOf b) 0 a₀.size->Q () b):wpS (model prog w) A E s sortRuns' Q st:=by
 have o:=j.size;rw[L1];refine aH3 (wpS_get ?_);simp only[o]
 have t:Wait κ lt a₀ st 0:=⟨j,by rw[f];rfl,λr k=>by rw[f]at k;simp at k,by lia⟩
 refine aH3 (aIu (aIh
  (I:=λx c b =>∃lo,c=(none,lo)/\x<=lo/\Wait κ lt a₀ b lo)
  (Q:=λc b =>c=(none,a₀.size)/\Wait κ lt a₀ b a₀.size) ?turn ?last ⟨0,rfl,aGy _,t⟩) ?rest)
 case last=>
  rintro c b ⟨lo,rfl,m,W⟩;have:=W.le;obtain rfl:lo=a₀.size:=by lia
  exact⟨rfl,W⟩
 case turn=>
  rintro x c b _ m ⟨lo,rfl,u,W⟩
  refine aAk O C W (λe=>?_) λn a z d=>⟨lo+n,rfl,by lia,d⟩
  subst e;exact⟨rfl,W⟩
 case rest=>
  rintro c b ⟨rfl,W⟩;dsimp only
  have hsz:(pendingOf b).size<=a₀.size:=by
   have:=mT W.ch;simp at this;lia
  refine aH3 (aIu (aIh (I:=λx c a=>c=(none,())/\Wait κ lt a₀ a a₀.size/\((pendingOf a).size<=1\/(pendingOf a).size+x<=a₀.size)) (Q:=λc a=>c=(none,())/\Wait κ lt a₀ a a₀.size/\(pendingOf a).size<=1) ?_ ?_ ⟨rfl,W,.inr (by lia)⟩) ?_)
  ·rintro x c a _ m ⟨rfl,d,g⟩;unfold U4;refine aH3 (wpS_get ?_);by_cases i:(pendingOf a).size<=1
   ·rw[if_pos i];exact aH7 ⟨rfl,d,i⟩
   ·rw[if_neg i];refine aH3 (GS O C d (idx _ _ (by lia)) λv y B _=>?_);exact aH7 ⟨rfl,y,.inr (by lia)⟩
  ·rintro c a ⟨rfl,d,g⟩;exact⟨rfl,d,by simp at g;lia⟩
  ·rintro c a ⟨rfl,d,g⟩;dsimp only;refine aH7 (h a d.base ?_);have ch:=d.ch
   cases hl:(pendingOf a).toList with
   | nil=>
    rw[hl]at ch;simp[Chain]at ch;intro p q _ _ D;lia
   | cons r l=>
    have:l=[]:=by
     have:=aHu List.length hl;simp at this;exact aI9.mp (by lia)
    subst this;rw[hl]at ch;simp only[List.map_cons,List.map_nil,Chain,d5]at ch;have:=d.sg r (by rw[hl];simp);rw[ch.1,ch.2.2]at this;exact this
end
section
variable {prog:Program}{w:World}{A:Around}{E:aL2}{s:Shared}{a₀:aL5}{κ:SortKind}{lt:aL3}
variable{vs:List Value}
theorem Q0(g:xs.Perm (pairsOf vs))(sg:Seg lt xs 0 vs.length):
  ((xs.map (·.2)).toList).Perm vs/\((xs.map (·.2)).toList).Pairwise (λx y=>lt (y,y) (x,x)=false):=by
 have h:xs.toList.Perm (vs.zip vs):=by rw[<-pairsOf_toList];exact Array.perm_iff_toList_perm.mp g
 have same:∀p∈xs.toList,p=(p.2,p.2):=λp b=>by
  have m:=h.mem_iff.mp b
  have:∀(l:List Value) (q:Keyed),q∈l.zip l->q=(q.2,q.2):=λl q c=>by
   induction l with
   | nil=>simp at c
   | cons v r n=>
    rw[List.zip_cons_cons]at c;rcases aH2.mp c with e | e
    ·rw[e]
    ·exact n e
  exact this vs p m
 have hsz:xs.size=vs.length:=by have:=g.size_eq;rw[pairsOf_size]at this;exact this
 refine⟨?_,?_⟩
 ·rw[Array.toList_map];have:=h.map (·.2)
  rwa [show (vs.zip vs).map (·.2)=vs from List.map_snd_zip (aGy _)]at this
 ·rw[Array.toList_map,List.pairwise_map];rw[List.pairwise_iff_getElem];intro i j hi k d;have f :i<xs.size:=by simpa using hi
  have a :j<xs.size:=by simpa using k
  have q:=sg i j (aI8 _) (aIz d) (by rw[<-hsz];exact a);have o:aP xs i=xs.toList[i]:=by unfold aP;rw[getElem?_pos xs i f];simp
  have s:aP xs j=xs.toList[j]:=by unfold aP;rw[getElem?_pos xs j a];simp
  rw[o,s]at q;rw[same _ (List.getElem_mem hi),same _ (List.getElem_mem k)]at q;exact q
theorem EU(O:Wk lt){a:Addr}{n:Nat}{P:PySem.Fin->Shared->Prop}(ho:s.heap.get? a=some (seqObj "list" vs.toArray n))(v:vs.length<4000)
  (z:2<=vs.length->∀h' :Heap,(∀b o,b≠a->s.heap.get? b=some o->h'.get? b=some o)->mV prog w A {s with heap:=h'} κ lt (pairsOf vs)/\
   ∀l,l κ {s with heap:=h'}->wpAny (model prog w) A (keyKind' vs.toArray) l E {s with heap:=h'})
  (h:∀out:List Value,out.Perm vs->out.Pairwise (λx y=>lt (y,y) (x,x)=false)->P (.done (.ret .none)) {s with heap:=sortedHeap s.heap a vs out.toArray}):
  wpAny (model prog w) A (Builtin.«list.sort» ⟨[.ref a],[]⟩) P E s:=by
 have la:a<s.heap.objs.size:=aH4 ho;have H:sizeLine=16777216:=aHh
 obtain⟨j,m⟩:∃j,(s.heap.update a (Obj.mapSeq λ_=>#[])).get? a=some (seqObj "list" #[] j):=⟨_,get?_update_seq ho λ_=>#[]⟩
 have t:(((s.heap.update a (Obj.mapSeq λ_=>#[])).push (seqObj "tuple" vs.toArray 0)).push (seqObj "list" #[] 0)).get? a=some (seqObj "list" #[] j):=aGv _ (aGv _ m)
 have f:∀b o,b≠a->s.heap.get? b=some o->(((s.heap.update a (Obj.mapSeq λ_=>#[])).push (seqObj "tuple" vs.toArray 0)).push (seqObj "list" #[] 0)).get? b=some o:=λb o hb e=>
  aGv _ (aGv _ (by rw[Heap.get?_update_ne _ _ _ _ hb];exact e))
 have d:∀c :SortSt,(arrOf c).Perm (pairsOf vs)->Seg lt (arrOf c) 0 vs.length->failedOf c =none->wpAny (model prog w) A (do
   let touched:=(<-seqEpoch a) !=j
   Builtin.List.listUpdate (.ref a) λ_=>(arrOf c).map (·.2)
   if let some e:=failedOf c then rule "list.sort.comparison-raised";throw e
   if touched then rule "list.sort.modified";raiseError "ValueError" "list modified during sort"
   ret .none) P E {s with heap:=((s.heap.update a (Obj.mapSeq λ_=>#[])).push (seqObj "tuple" vs.toArray 0)).push (seqObj "list" #[] 0)}:=λc u sg B=>by
  obtain⟨C,D⟩:=Q0 u sg
  have I:((arrOf c).map (·.2)).size<=sizeLine:=by
   rw[Array.size_map];have:=u.size_eq;rw[pairsOf_size]at this
   lia
  refine aGs (seqEpoch_at t rfl ?_);refine aGs (listUpdate_at t rfl ?_ (hsz2:=by lia));rw[B];simp only[bne_self_eq_false,Bool.false_eq_true,if_false];have fin:=h _ C D;rw[Array.toArray_toList]at fin;exact aGu fin
 rw[list_sort_plain];refine aGs (listItems_at ho rfl ?_);refine aGs (listUpdate_at ho rfl ?_ (by rw[List.size_toArray];lia) (aI8 _));refine aGs (seqEpoch_at m rfl ?_);refine aGs (aJh ?_ (by show vs.length<=_;lia));refine aGs (aKv ?_ (aI8 _));refine aHo ?_;dsimp only;by_cases FZ:vs.length<2
 ·have g :vs.toArray.size<2:=by rw[List.size_toArray];exact FZ
  rw[if_pos g,if_pos g];refine aGs (aGu ?_);rw[StateT.run_pure];refine aGs (aGu ?_)
  exact d (SortSt.mk' general' (vs.toArray.zip vs.toArray) #[] 7 none) (Array.Perm.refl _) (λp q _ F J=>by
   obtain rfl:p=q:=by lia
   exact O.JX _) rfl
 ·have i:¬vs.toArray.size<2:=by rw[List.size_toArray];exact FZ
  rw[if_neg i,if_neg i];obtain⟨k,kind⟩:=z (by lia) _ f;refine aGs (kind _ ?_)
  refine aGs (aIg (VF (Q:=λ_ c =>Base κ (pairsOf vs) c /\Seg lt (arrOf c) 0 (pairsOf vs).size) O k (st:=SortSt.mk' κ (vs.toArray.zip vs.toArray) #[] 7 none) ⟨Array.Perm.refl _,rfl,rfl⟩ rfl
   λc b sg=>⟨b,sg⟩) (λr K G=>?_) λ_ _ e=>e)
  obtain⟨⟨⟩,c⟩:=r;obtain⟨rfl,b,sg⟩:=G;rw[pairsOf_size]at sg;exact d c b.perm sg b.J7
theorem LZ(O:Wk lt){l:Addr}{Q:aL2}(d:s.heap.IsList l vs.toArray)(c:vs.length<4000)
  (f:2<=vs.length->∀h' :Heap,(∀b o,s.heap.get? b=some o->h'.get? b=some o)->mV prog w A.in1.in1 {s with heap:=h'} κ lt (pairsOf vs)/\
   ∀a g,a κ {s with heap:=h'}->wpAny (model prog w) A.in1.in1 (keyKind' vs.toArray) a g {s with heap:=h'})
  (h:∀out:List Value,out.Perm vs->out.Pairwise (λx y=>lt (y,y) (x,x)=false)->Q (.ref (s.heap.objs.size+1)) {s with heap:=sortedAll s.heap vs out.toArray}):
  wpAny (model prog w) A (call (.builtin "sorted") [.ref l]) Q E s:=by
 have t:sizeLine=16777216:=aHh;have grown:((s.heap.push (seqObj "list" #[] 0)).update s.heap.objs.size (Obj.mapSeq (· ++vs.toArray))).objs.size=s.heap.objs.size+1:=by rw[Heap.size_update,size_push']
 have kept:∀b o,s.heap.get? b=some o->(((s.heap.push (seqObj "list" #[] 0)).update s.heap.objs.size (Obj.mapSeq (· ++vs.toArray))).push (seqObj "list" vs.toArray 0)).get? b=some o:=λb o e=>by
  have lb:=aH4 e;refine aGv _ ?_;rw[Heap.get?_update_ne _ _ _ _ (Nat.ne_of_lt lb)];exact aGv _ e
 refine aJm kind_sorted plain_sorted entry_sorted (args_sorted1 _) ?_;unfold Builtin.«sorted»;refine aGs (m:=checkCount "sorted" 1 1 _) (aGu ?_);refine aGs (collect_list d ?_ (by lia));refine aGs (aKv ?_ (by lia))
 have ob:(((s.heap.push (seqObj "list" #[] 0)).update s.heap.objs.size (Obj.mapSeq (· ++vs.toArray))).push (seqObj "list" vs.toArray 0)).get? (s.heap.objs.size+1)=some (seqObj "list" vs.toArray 0):=by
  rw[<-grown];exact aH0 _ rfl
 show wpAny _ _ _ _ _ {s with heap:=((s.heap.push (seqObj "list" #[] 0)).update s.heap.objs.size (Obj.mapSeq (· ++vs.toArray))).push (seqObj "list" vs.toArray 0)};rw[grown];refine aGs (aHo (aHe slot_list_sort ⟨_,ob,rfl⟩ entry_list_sort (EU (κ:=κ) (s:={s with heap:=((s.heap.push (seqObj "list" #[] 0)).update s.heap.objs.size (Obj.mapSeq (· ++vs.toArray))).push (seqObj "list" vs.toArray 0)}) O ob c (λi h' k=>?_) λout j n=>⟨_,rfl,aGu ⟨_,rfl,h out j n⟩⟩) (args_list_sort _)));obtain⟨p,r⟩:=f i h' λb o e=>k b o (aHc (aI0 (aH4 e))) (kept b o e);exact⟨p,λa q=>r a _ q⟩
end
end TS
namespace D3
open PySem PySem.Spec PyProof.Rows L2
inductive D where
 | b9 | bl (b:Bool) | int (i:Int) | str (x:Str) | ty (n:String)
 | tup (ds:List D) | fl (ds:List D) | ref (n:Nat)
inductive MO where
 | lst (ds:List D)
 | dic (t:Bool) (kvs:List (D×D))
 | fdc (t:Bool) (kvs:List (D×D)) (ob:Obj)
abbrev MH:=List MO
abbrev d7:=List (Option D)
def QF(K:aL1)(H:Hp)(a:Addr)(xs:List V):Prop:=
 (∃o,H a=some (.frz o (.lst xs)))\/
  ∃(o:Obj) (aH:Array Value) (n:Nat),K.lookup a=some o/\o.cls= .type "list"/\o.dict=none/\o.data= .seq aH n/\aH.size<=sizeLine/\Vals xs aH.toList
variable{K:aL1}{H:Hp}{a:Addr}{xs:List V}
theorem QF.sq(h:QF K H a xs):oI K H a xs:=by
 rcases h with h | h
 ·exact .inl (.inr h)
 ·exact .inr h
def KY(K:aL1)(H:Hp)(a:Addr)(xs:List V):Prop:=
 H a=some (.tup xs)\/
  ∃(o:Obj) (aH:Array Value) (n:Nat),K.lookup a=some o/\o.cls= .type "tuple"/\o.dict=none/\o.data= .seq aH n/\aH.size<=sizeLine/\Vals xs aH.toList
theorem KY.of(h:H a=some (.tup xs)):KY K H a xs:= .inl h
theorem KY.sq(h:KY K H a xs):sL K H a xs:=by
 rcases h with h | h
 ·exact .inl (.inl h)
 ·exact .inr h
mutual
def Is(K:aL1)(μ:List Addr)(H:Hp):D->V->Prop
 | .b9,v=>v= .b9
 | .bl b,v=>v= .bl b
 | .int i,v=>v= .int i
 | .str x,v=>v= .str x
 | .ty n,v=>v= .ty n
 | .tup ds,v=>∃a vs,v= .ref a/\KY K H a vs/\IsL K μ H ds vs
 | .fl ds,v=>∃a vs,v= .ref a/\QF K H a vs/\IsL K μ H ds vs
 | .ref n,v=>∃a,μ[n]? =some a/\v= .ref a
def IsL(K:aL1)(μ:List Addr)(H:Hp):List D->List V->Prop
 | [],vs=>vs=[]
 | d::ds,vs=>∃v r,vs=v::r/\Is K μ H d v/\IsL K μ H ds r
end
def aN:Key->D
 | .inl i=>.int i
 | .inr x=>.str x
def sC(o:Option HO)(ks:List D)(vs:List V):Bool->Prop
 | false=>∃kk:List (Key×V),o=some (.dK kk)/\ks=kk.map (λp=>aN p.1)/\vs=kk.map (·.2)
 | true=>∃kk:List (List Key×V),o=some (.dT kk)/\ks=kk.map (λp=>.tup (p.1.map aN))/\vs=kk.map (·.2)
def mD(K:aL1)(μ:List Addr)(H:Hp):MO->Addr->Prop
 | .lst ds,a=>∃vs,H a=some (.lst vs)/\IsL K μ H ds vs
 | .dic t kvs,a=>∃vs,sC (H a) (kvs.map (·.1)) vs t/\IsL K μ H (kvs.map (·.2)) vs
 | .fdc t kvs ob,a=>∃vs u,H a=some (.frz ob u)/\sC (some u) (kvs.map (·.1)) vs t/\IsL K μ H (kvs.map (·.2)) vs
def Own:Option HO->Prop
 | some (.frz _ (.dK _))=>True
 | some (.frz _ (.dT _))=>True
 | o=>K3 o
structure Rep(K:aL1)(μ:List Addr)(mh:MH)(H:Hp):Prop where
 len:μ.length=mh.length
 nd:μ.Nodup
 obj:∀(n:Nat) a o,μ[n]? =some a->mh[n]? =some o->mD K μ H o a
structure aI(μ:List Addr)(H:Hp)(μ' :List Addr)(H' :Hp):Prop where
 pre:∃t,μ' =μ++t
 fr:∀b o,H b=some o->b∉μ->H' b=some o
 nw:∀a∈μ',a∈μ\/H a=none
def cL(K:aL1)(μ:List Addr)(H:Hp)(a:d7)(σ:L2.St):Prop:=
 a.length=σ.length/\∀(i:Nat) d,a[i]? =some (some d)->∃v,σ[i]? =some (some v)/\Is K μ H d v
section
variable {K:aL1}{μ μ1 μ2 μ' :List Addr}{mh mh' :MH}{H H1 H2 H' :Hp}
theorem mD.mut{o:MO}(h:mD K μ H o a):Own (H a):=by
 cases o with
 | lst ds=>obtain⟨vs,e,_⟩:=h;rw[e];trivial
 | dic t kvs=>cases t <;> (obtain⟨vs,⟨kk,e,_⟩,_⟩:=h;rw[e];trivial)
 | fdc t kvs ob=>cases t <;> (obtain⟨vs,u,e,⟨kk,b,_⟩,_⟩:=h;cases b;rw[e];trivial)
theorem Rep.at(R:Rep K μ mh H)(h:a∈μ):∃(n:Nat) (o:MO),μ[n]? =some a/\mh[n]? =some o/\mD K μ H o a:=by
 obtain⟨n,b⟩:=aHa.mp h;have c:n<mh.length:=by rw[<-R.len];exact(aGt.mp b).1
 exact⟨n,mh[n],b,by simp[c],R.obj n a _ b (by simp[c])⟩
theorem Rep.mut(R:Rep K μ mh H)(h:a∈μ):Own (H a):=let ⟨_,_,_,_,q⟩:=R.at h;q.mut
theorem aI.refl:aI μ H μ H:=⟨⟨[],by simp⟩,λ_ _ h _=>h,λ_ h=>.inl h⟩
theorem aI.trans(p:aI μ H μ1 H1)(q:aI μ1 H1 μ2 H2):aI μ H μ2 H2:=by
 refine⟨?_,λb o e n=>?_,λa ha=>?_⟩
 ·obtain⟨t,rfl⟩:=p.pre;obtain⟨u,rfl⟩:=q.pre;exact⟨t++u,by simp⟩
 ·refine q.fr b o (p.fr b o e n) λhb=>?_;rcases p.nw b hb with z | z
  ·exact n z
  ·rw[e]at z;cases z
 ·rcases q.nw a ha with z | z
  ·exact p.nw a z
  ·by_cases c:a∈μ
   ·exact .inl c
   ·right
    cases e:H a with
    | none=>rfl
    | some o=>rw[p.fr a o e c]at z;cases z
variable{n:Nat}
theorem aI.get(p:aI μ H μ' H')(h:μ[n]? =some a):μ'[n]? =some a:=by
 obtain⟨t,rfl⟩:=p.pre;rw[List.getElem?_append_left (List.getElem?_eq_some_iff.mp h).1];exact h
variable{vs:List V}
theorem Rep.sqT(R:Rep K μ mh H)(p:aI μ H μ' H')(h:KY K H a vs):KY K H' a vs:=by
 rcases h with h | h
 ·refine .inl (p.fr _ _ h λb=>?_);have:=R.mut b;rw[h]at this;exact this
 ·exact .inr h
theorem Rep.sqF(R:Rep K μ mh H)(p:aI μ H μ' H')(h:QF K H a vs):QF K H' a vs:=by
 rcases h with ⟨o,h⟩ | h
 ·refine .inl ⟨o,p.fr _ _ h λb=>?_⟩;have:=R.mut b;rw[h]at this;exact this
 ·exact .inr h
mutual
theorem Is.mono(R:Rep K μ mh H)(p:aI μ H μ' H'):∀(d:D) (v:V),Is K μ H d v->Is K μ' H' d v
 | .b9,v,h=>by unfold Is at*;exact h
 | .bl _,v,h=>by unfold Is at*;exact h
 | .int _,v,h=>by unfold Is at*;exact h
 | .str _,v,h=>by unfold Is at*;exact h
 | .ty _,v,h=>by unfold Is at*;exact h
 | .tup ds,v,h=>by
  unfold Is at*;obtain⟨a,vs,e,s,l⟩:=h;exact⟨a,vs,e,R.sqT p s,IsL.mono R p ds vs l⟩
 | .fl ds,v,h=>by
  unfold Is at*;obtain⟨a,vs,e,s,l⟩:=h;exact⟨a,vs,e,R.sqF p s,IsL.mono R p ds vs l⟩
 | .ref n,v,h=>by
  unfold Is at*;obtain⟨a,e,q⟩:=h;exact⟨a,p.get e,q⟩
theorem IsL.mono(R:Rep K μ mh H)(p:aI μ H μ' H'):∀(ds:List D) (vs:List V),IsL K μ H ds vs->IsL K μ' H' ds vs
 | [],vs,h=>by unfold IsL at*;exact h
 | d::ds,vs,h=>by
  unfold IsL at*;obtain⟨v,r,e,q,l⟩:=h;exact⟨v,r,e,Is.mono R p d v q,IsL.mono R p ds r l⟩
end
theorem cL.mono{a:d7}{σ:L2.St}(R:Rep K μ mh H)(p:aI μ H μ' H')(E:cL K μ H a σ):cL K μ' H' a σ:=⟨E.1,λi d e=>by
 obtain⟨v,b,c⟩:=E.2 i d e
 exact⟨v,b,Is.mono R p d v c⟩⟩
theorem mD.mono{o:MO}(R:Rep K μ mh H)(p:aI μ H μ' H')(e:H' a=H a)(h:mD K μ H o a):mD K μ' H' o a:=by
 cases o with
 | lst ds=>obtain⟨vs,q,l⟩:=h;exact⟨vs,by rw[e];exact q,IsL.mono R p ds vs l⟩
 | dic t kvs=>obtain⟨vs,q,l⟩:=h;exact⟨vs,by rw[e];exact q,IsL.mono R p _ vs l⟩
 | fdc t kvs ob=>obtain⟨vs,u,q,b,l⟩:=h;exact⟨vs,u,by rw[e];exact q,b,IsL.mono R p _ vs l⟩
variable{q:Addr}
theorem aI.new{o:HO}(R:Rep K μ mh H)(a:H q=none):aI μ H μ (upd H q o):=
 ⟨⟨[],by simp⟩,λb u e _=>by rw[aL (bP e a)];exact e,λ_ h=>.inl h⟩
theorem Rep.ne(R:Rep K μ mh H)(b:H q=none)(h:a∈μ):a≠q:=by
 rintro rfl;have:=R.mut h;rw[b]at this;exact this
theorem Rep.new{o:HO}(R:Rep K μ mh H)(b:H q=none):Rep K μ mh (upd H q o):=
 ⟨R.len,R.nd,λn a ob c d=>(R.obj n a ob c d).mono R (aI.new R b) (aL (R.ne b (aH1 c)))⟩
theorem aI.JM{o:HO}(R:Rep K μ mh H)(c:H q=none):aI μ H (μ++[q]) (upd H q o):=
 ⟨⟨[q],rfl⟩,λb u e _=>by rw[aL (bP e c)];exact e,λa h=>by
  rcases aGz.mp h with h | h
  ·exact .inl h
  ·simp at h;subst h;exact .inr c⟩
theorem Rep.JM{ds:List D}(R:Rep K μ mh H)(e:H q=none)(l:IsL K μ H ds vs):Rep K (μ++[q]) (mh++[.lst ds]) (upd H q (.lst vs)):=by
 have P:aI μ H (μ++[q]) (upd H q (.lst vs)):=aI.JM R e;refine⟨by simp[R.len],?_,λn a ob c d=>?_⟩
 ·rw[List.nodup_append];refine⟨R.nd,by simp,λa ha b hb=>?_⟩;simp at hb;subst hb;exact R.ne e ha
 ·by_cases f:n<μ.length
  ·rw[List.getElem?_append_left f]at c;rw[List.getElem?_append_left (by rw[<-R.len];exact f)]at d;exact(R.obj n a ob c d).mono R P (aL (R.ne e (aH1 c)))
  ·rw[List.getElem?_append_right (by lia)]at c;rw[List.getElem?_append_right (by rw[<-R.len];lia)]at d
   have hz:n-μ.length=0:=by
    have:=(aGt.mp c).1;simp at this;lia
   rw[hz]at c;rw[<-R.len,hz]at d;simp at c d;subst c d;exact⟨vs,bC,l.mono R P⟩
theorem aI.set{o:HO}(R:Rep K μ mh H)(h:μ[n]? =some a):aI μ H μ (upd H a o):=
 ⟨⟨[],by simp⟩,λb u e hb=>by rw[aL (λz=>hb (by rw[z];exact List.mem_of_getElem? h))];exact e,λ_ h=>.inl h⟩
theorem HH{n m:Nat}(nd:μ.Nodup)(b:μ[n]? =some a)(c:μ[m]? =some a):n=m:=by
 obtain⟨f,d⟩:=aGt.mp b;obtain⟨g,e⟩:=aGt.mp c;exact(List.getElem_inj nd).mp (d.trans e.symm)
theorem Rep.set{ds:List D}(R:Rep K μ mh H)(h:μ[n]? =some a)(l:IsL K μ H ds vs):Rep K μ (mh.set n (.lst ds)) (upd H a (.lst vs)):=by
 have P:aI μ H μ (upd H a (.lst vs)):=aI.set R h;refine⟨by simp[R.len],R.nd,λm b ob c d=>?_⟩;by_cases e:m=n
 ·subst e;rw[h]at c;cases c;have f:m<mh.length:=by rw[<-R.len];exact(aGt.mp h).1
  rw[List.getElem?_set_self f]at d;cases d;exact⟨vs,bC,l.mono R P⟩
 ·rw[List.getElem?_set_ne (Ne.symm e)]at d;exact(R.obj m b ob c d).mono R P (aL λz=>e (HH R.nd c (by rw[z];exact h)))
end
abbrev DK:=D->MH->Prop
abbrev WE:=d7->MH->DK->Prop
def Fin(K:aL1)(μ:List Addr)(H:Hp)(R:DK)(Q:VK):Prop:=
 ∀d mh',R d mh' ->∀μ' v H',aI μ H μ' H' ->Rep K μ' mh' H' ->Is K μ' H' d v->Q v H'
def tL(K:aL1)(w:WE):TE:=λσ H Q=>∃μ a mh R,Rep K μ mh H/\cL K μ H a σ/\w a mh R/\Fin K μ H R Q
def LE(X:Cx)(e:Expr)(w:WE):Prop:=PE X e (tL X.K w)
variable{X:Cx}
theorem PE.imp{e:Expr}{t t' :TE}(h:PE X e t)(i:∀σ H Q,t' σ H Q->t σ H Q):PE X e t' :=λpins s σ H Q I q=>h pins s σ H Q I (i σ H Q q)
variable{R:DK}
theorem Fin.at{μ a:List Addr}{H b:Hp}{Q:VK}(F:Fin K μ H R Q)(P:aI μ H a b):Fin K a b R Q:=
 λd mh' r μ' v H' c e I=>F d mh' r μ' v H' (P.trans c) e I
def aB(i:Nat):WE:=λa mh Q=>∃d,a[i]? =some (some d)/\Q d mh
def wC(d:D):WE:=λ_ mh Q=>Q d mh
section
variable {X:Cx}{a b c:Expr}{wa wb wc:WE}{pos:Pos}
theorem X9(i:Nat){x:Str}(hN:X.N[i]? =some x:=by rfl)(b:Vis X.env.scope x:=by first | exact Or.inl rfl | exact Or.inr (Or.inl rfl) | exact Or.inr (Or.inr rfl))(hd:(x==("__debug__":Str))=false:=by decide)
  (a:(x==("__classdict__":Str))=false:=by decide):LE X (.Name x pos) (aB i):=PE.imp (WR hN b hd a) λσ H Q h=>by
 obtain⟨μ,f,mh,R,r,E,⟨d,hd,c⟩,F⟩:=h;obtain⟨v,e,i⟩:=E.2 _ d hd;exact⟨v,e,F d mh c μ v H aI.refl r i⟩
theorem YH{e:Expr}{v:V}{d:D}(h:PE X e (tC v))(a:∀μ H,Is X.K μ H d v):LE X e (wC d):=PE.imp h λσ H Q h=>by
 obtain⟨μ,c,mh,R,r,E,b,F⟩:=h;exact F d mh b μ v H aI.refl r (a μ H)
theorem le_int{i:Int}{j}:LE X (.Constant (.int i) j pos) (wC (.int i)):=YH WX λ_ _=>by unfold Is;rfl
theorem aCq{i:Bool}{j}:LE X (.Constant (.bool i) j pos) (wC (.bl i)):=YH aBz λ_ _=>by unfold Is;rfl
theorem SQ{x:Str}{T:String}(hg:Gl X x)(a:X.mg x=none)(b:bootBuiltins x=some (.type T))(c:x≠ "__name__":=by decide)(hd:(x==("__debug__":Str))=false:=by decide):LE X (.Name x pos) (wC (.ty T)):=
 YH (RP (v:= .ty T) hg a b rfl c hd) λ_ _=>by unfold Is;rfl
abbrev O1:=D->MH->DK->Prop
abbrev O2:=D->D->MH->DK->Prop
def bT(K:aL1)(f:O2):R2:=λx y H Q=>∃μ mh dx a R,Rep K μ mh H/\Is K μ H dx x/\Is K μ H a y/\f dx a mh R/\Fin K μ H R Q
def NS(K:aL1)(f:O1):V->Hp->VK->Prop:=λx H Q=>∃μ mh dx R,Rep K μ mh H/\Is K μ H dx x/\f dx mh R/\Fin K μ H R Q
def aT(f:O2)(wa wb:WE):WE:=λc mh Q=>wa c mh λx a=>wb c a λy b=>f x y b Q
def A7(f:O1)(wa:WE):WE:=λb mh Q=>wa b mh λx a=>f x a Q
variable{f:O2}{σ:L2.St}
theorem HF{Q:VK}(h:tL K (aT f wa wb) σ H Q):tOp (bT K f) (tL K wa) (tL K wb) σ H Q:=by
 obtain⟨μ,e,mh,R,g,E,h,F⟩:=h;refine⟨μ,e,mh,_,g,E,h,λdx a k b l q i j m=>⟨b,e,a,_,j,E.mono g i,k,λn c o d r s P2 R2 p=>?_⟩⟩;exact⟨d,c,dx,n,R,R2,Is.mono j P2 dx l m,p,o,F.at (i.trans P2)⟩
theorem aB0{f:O1}{Q:VK}(h:tL K (A7 f wa) σ H Q):tUn (NS K f) (tL K wa) σ H Q:=by
 obtain⟨μ,c,mh,R,d,E,h,F⟩:=h;exact⟨μ,c,mh,_,d,E,h,λdx a e b k l g i j=>⟨b,a,dx,R,i,j,e,F.at g⟩⟩
theorem aCk{c:Operator}(ho:eL X (binaryOp c) (bT X.K f))(ha:LE X a wa)(hb:LE X b wb):LE X (.BinOp a c b pos) (aT f wa wb):=PE.imp (aBv ho ha hb) λ_ _ _ h=>HF h
theorem aCi{b:UnaryOp}{f:O1}(ho:UnR X (unaryOp b) (NS X.K f))(ha:LE X a wa):LE X (.UnaryOp b a pos) (A7 f wa):=PE.imp (aBu ho ha) λ_ _ _ h=>aB0 h
theorem YG{c:CmpOp}(ho:eL X (compareOp c) (bT X.K f))(ha:LE X a wa)(hb:LE X b wb)(d:behindInMarks c b=false):LE X (.Compare a [c] [b] pos) (aT f wa wb):=PE.imp (RN ho ha hb d) λ_ _ _ h=>HF h
theorem U1(ho:VA X (bT X.K f))(ha:LE X a wa)(hb:LE X b wb)(c:IS b):LE X (.Subscript a b pos) (aT f wa wb):=PE.imp (aBx ho ha hb c) λ_ _ _ h=>HF h
abbrev WT:=d7->MH->(Bool->MH->Prop)->Prop
def UG(K:aL1)(μ:List Addr)(H:Hp)(R:Bool->MH->Prop)(Q:Bool->Hp->Prop):Prop:=
 ∀b mh',R b mh' ->∀μ' H',aI μ H μ' H' ->Rep K μ' mh' H' ->Q b H'
def tLT(K:aL1)(w:WT):TT:=λσ H Q=>∃μ a mh R,Rep K μ mh H/\cL K μ H a σ/\w a mh R/\UG K μ H R Q
def LT(X:Cx)(e:Expr)(w:WT):Prop:=PT X e (tLT X.K w)
def LW(X:Cx)(e:Expr)(w:WT):Prop:=PW X e (tLT X.K w)
theorem PT.imp{X:Cx}{e:Expr}{t t' :TT}(h:PT X e t)(i:∀σ H Q,t' σ H Q->t σ H Q):PT X e t' :=λpins s σ H Q I q=>h pins s σ H Q I (i σ H Q q)
theorem PW.imp{X:Cx}{e:Expr}{t t' :TT}(h:PW X e t)(i:∀σ H Q,t' σ H Q->t σ H Q):PW X e t' :=λa pins s σ H Q I q=>h a pins s σ H Q I (i σ H Q q)
variable{Q:Bool->Hp->Prop}
theorem UG.at{μ a:List Addr}{H c:Hp}{R:Bool->MH->Prop}(F:UG K μ H R Q)(P:aI μ H a c):UG K a c R Q:=
 λb mh' r μ' H' d e =>F b mh' r μ' H' (P.trans d) e
def dR(w:WE):WT:=λb mh Q=>w b mh λx a=>∃k,x= .bl k/\Q k a
theorem VP{t:TE}{w:WE}(i:∀σ H Q,tL K w σ H Q->t σ H Q)(h:tLT K (dR w) σ H Q):UO t σ H Q:=by
 obtain⟨μ,e,mh,R,f,E,h,F⟩:=h;refine i σ H _ ⟨μ,e,mh,_,f,E,h,λdx a b c m g j l d=>?_⟩;obtain⟨k,rfl,b⟩:=b;unfold Is at d;exact⟨k,d,F k a b c g j l⟩
theorem NP{c:CmpOp}(ho:eL X (compareOp c) (bT X.K f))(ha:LE X a wa)(hb:LE X b wb)(d:behindInMarks c b=false):LT X (.Compare a [c] [b] pos) (dR (aT f wa wb)):=
 PT.imp (RB ho ha hb d) λ_ _ _ h=>VP (λ_ _ _ z=>HF z) h
def iU(mh:MH):D->Option Bool
 | .b9=>some false
 | .bl b=>some b
 | .int i=>some (i !=0)
 | .str y=>if y.length<=sizeLine then some ((y.length:Int) !=0) else none
 | .tup ds=>some !ds.isEmpty
 | .fl ds=>some !ds.isEmpty
 | .ref n=>match mh[n]? with | some (.lst ds)=>some !ds.isEmpty | _=>none
 | .ty _=>none
theorem aK{K:aL1}{μ:List Addr}{H:Hp}:∀{ds:List D} {vs:List V},IsL K μ H ds vs->vs.length=ds.length
 | [],vs,h=>by unfold IsL at h;subst h;rfl
 | d::ds,vs,h=>by unfold IsL at h;obtain⟨v,r,rfl,_,l⟩:=h;simp[aK l]
theorem AA{μ:List Addr}{ds:List D}{vs:List V}(h:IsL K μ H ds vs):vs.isEmpty=ds.isEmpty:=by
 have:=aK h;cases vs <;> cases ds <;> simp_all
theorem VR{μ:List Addr}{mh:MH}{d:D}{v:V}{k:Bool}(R:Rep K μ mh H)(h:Is K μ H d v)(e:iU mh d=some k):Z9 K v H k:=by
 cases d with
 | b9=>unfold Is at h;subst h;simp[iU]at e;subst e;rfl
 | bl b=>unfold Is at h;subst h;simp[iU]at e;subst e;rfl
 | int i=>unfold Is at h;subst h;simp[iU]at e;subst e;rfl
 | str y=>
  unfold Is at h;subst h;simp only[iU]at e;split at e
  ·rename_i hl;exact⟨hl,(aHd e).symm⟩
  ·cases e
 | ty n=>simp[iU]at e
 | tup ds=>
  unfold Is at h;obtain⟨a,vs,rfl,s,l⟩:=h;obtain rfl:(!ds.isEmpty)=k:=aHd e;exact .inr (.inl ⟨vs,s.sq,by rw[AA l]⟩)
 | fl ds=>
  unfold Is at h;obtain⟨a,vs,rfl,s,l⟩:=h;obtain rfl:(!ds.isEmpty)=k:=aHd e;exact .inl ⟨vs,s.sq,by rw[AA l]⟩
 | ref n=>
  unfold Is at h;obtain⟨a,q,rfl⟩:=h;simp only[iU]at e
  cases o:mh[n]? with
  | none=>rw[o]at e;cases e
  | some ob=>
   cases ob with
   | lst ds=>
    rw[o]at e;cases e;obtain⟨vs,c,l⟩:=R.obj n a _ q o;exact .inl ⟨vs,.of c,by rw[AA l]⟩
   | dic t kvs=>rw[o]at e;cases e
   | fdc t kvs ob=>rw[o]at e;cases e
def sE(w:WE):WT:=λb mh Q=>w b mh λx a=>∃k,iU a x=some k/\Q k a
theorem NO(ha:LE X a wa)(he:∀b,isTrue a X.env b=(do let v<-b;standAt a.pos;holding [v] (truthy v)):=by intro _;rfl):LT X a (sE wa):=PT.imp (ME ha he) λσ H Q h=>by
 obtain⟨μ,i,mh,R,j,E,h,F⟩:=h;refine⟨μ,i,mh,_,j,E,h,λdx c d f o l m g n=>?_⟩;obtain⟨k,e,d⟩:=d;exact⟨k,VR g n e,F k c d f l m g⟩
def rH(t u:WT):WT:=λb mh Q=>t b mh λc a=>if c=true then u b a Q else Q false a
def QQ(t u:WT):WT:=λb mh Q=>t b mh λc a=>if c=true then Q true a else u b a Q
def tQ(t:WT):WT:=λb mh Q=>t b mh λc a=>Q (!c) a
variable {ta tb:WT}{rest:List Expr}
theorem R8(ha:LT X a ta):LW X (.BoolOp .And [a] pos) ta:=Q7 ha
theorem XW(ha:LT X a ta):LW X (.BoolOp .Or [a] pos) ta:=WB ha
theorem NM(ha:LT X a ta)(hb:LW X (.BoolOp .And (b::rest) pos) tb):LW X (.BoolOp .And (a::b::rest) pos) (rH ta tb):=PW.imp (WC ha hb) λσ H Q h=>by
 obtain⟨μ,i,mh,R,j,E,h,F⟩:=h;refine⟨μ,i,mh,_,j,E,h,λc d f e l g k=>?_⟩
 cases c with
 | true=>rw[if_pos rfl]at f⊢;exact⟨e,i,d,R,k,E.mono j g,f,F.at g⟩
 | false=>rw[if_neg Bool.false_ne_true]at f⊢;exact F false d f e l g k
theorem aCc(ha:LT X a ta)(hb:LW X (.BoolOp .Or (b::rest) pos) tb):LW X (.BoolOp .Or (a::b::rest) pos) (QQ ta tb):=PW.imp (aBq ha hb) λσ H Q h=>by
 obtain⟨μ,i,mh,R,j,E,h,F⟩:=h;refine⟨μ,i,mh,_,j,E,h,λc d f e l g k=>?_⟩
 cases c with
 | true=>rw[if_pos rfl]at f⊢;exact F true d f e l g k
 | false=>rw[if_neg Bool.false_ne_true]at f⊢;exact⟨e,i,d,R,k,E.mono j g,f,F.at g⟩
theorem LW.lt(h:LW X a ta):LT X a ta:=PW.pt h
theorem XX(ha:LT X a ta):LT X (.UnaryOp .Not a pos) (tQ ta):=PT.imp (WD ha) λσ H Q h=>by
 obtain⟨μ,e,mh,R,f,E,h,F⟩:=h;exact⟨μ,e,mh,_,f,E,h,λc b g d i j k=>F (!c) b g d i j k⟩
def wZ(wa wb:WE):WE:=λb mh Q=>wa b mh λx a=>∃c,x= .bl c/\if c=true then wb b a Q else Q (.bl false) a
theorem YC{op}(ha:LE X a wa):LE X (.BoolOp op [a] pos) wa:=WU ha
theorem YI(ha:LE X a wa)(hb:LE X (.BoolOp .And (b::rest) pos) wb):LE X (.BoolOp .And (a::b::rest) pos) (wZ wa wb):=PE.imp (WY ha hb) λσ H Q h=>by
 obtain⟨μ,i,mh,R,j,E,h,F⟩:=h;refine⟨μ,i,mh,_,j,E,h,λdx e d f n m g k l=>?_⟩;obtain⟨c,rfl,d⟩:=d;unfold Is at l;refine⟨c,l,?_⟩
 cases c with
 | true=>rw[if_pos rfl]at d⊢;exact⟨f,i,e,R,k,E.mono j g,d,F.at g⟩
 | false=>rw[if_neg Bool.false_ne_true]at d⊢;exact F _ e d f _ m g k (by unfold Is;rfl)
def GX(wa:WE):WE:=λb mh Q=>wa b mh λx a=>∃c,x= .bl c/\Q (.bl !c) a
theorem YD(ha:LE X a wa):LE X (.UnaryOp .Not a pos) (GX wa):=PE.imp (WV ha) λσ H Q h=>by
 obtain⟨μ,g,mh,R,i,E,h,F⟩:=h;refine⟨μ,g,mh,_,i,E,h,λdx b d e m j k l f=>?_⟩;obtain⟨c,rfl,d⟩:=d;unfold Is at f;exact⟨c,f,F _ b d e _ j k l (by unfold Is;rfl)⟩
def wIf(t:WT)(wa wb:WE):WE:=λb mh Q=>t b mh λc a=>if c=true then wa b a Q else wb b a Q
theorem NU(m:LT X c ta)(ha:LE X a wa)(hb:LE X b wb):LE X (.IfExp c a b pos) (wIf ta wa wb):=PE.imp (MQ m ha hb) λσ H Q h=>by
 obtain⟨μ,i,mh,R,j,E,h,F⟩:=h;refine⟨μ,i,mh,_,j,E,h,λk d f e n g l=>?_⟩
 cases k with
 | true=>rw[if_pos rfl]at f⊢;exact⟨e,i,d,R,l,E.mono j g,f,F.at g⟩
 | false=>rw[if_neg Bool.false_ne_true]at f⊢;exact⟨e,i,d,R,l,E.mono j g,f,F.at g⟩
end
abbrev WA:=d7->MH->(List D->MH->Prop)->Prop
def FinA(K:aL1)(μ:List Addr)(H:Hp)(R:List D->MH->Prop)(Q:List V->Hp->Prop):Prop:=
 ∀ds mh',R ds mh' ->∀μ' vs H',aI μ H μ' H' ->Rep K μ' mh' H' ->IsL K μ' H' ds vs->Q vs H'
def tLA(K:aL1)(w:WA):TA:=λσ H Q=>∃μ a mh R,Rep K μ mh H/\cL K μ H a σ/\w a mh R/\FinA K μ H R Q
def LA(X:Cx)(a:List Expr)(w:WA):Prop:=PA X a (tLA X.K w)
theorem PA.imp{e:List Expr}{t t' :TA}(h:PA X e t)(i:∀σ H Q,t' σ H Q->t σ H Q):PA X e t' :=λpos pins s σ H Q I q=>h pos pins s σ H Q I (i σ H Q q)
def aD:WA:=λ_ mh Q=>Q [] mh
def aA(w:WE)(d:WA):WA:=λc mh Q=>w c mh λx a=>d c a λxs b=>Q (x::xs) b
def XO(ds:List D)(mh:MH)(Q:DK):Prop:=ds.length<=sizeLine/\Q (.tup ds) mh
def FA(ds:List D)(mh:MH)(Q:DK):Prop:=ds.length<=sizeLine/\Q (.ref mh.length) (mh++[.lst ds])
section
variable {K:aL1}{μ:List Addr}{mh:MH}{H:Hp}{R:DK}{Q:VK}{ds:List D}{vs:List V}
theorem mN(a:Rep K μ mh H)(F:Fin K μ H R Q)(l:IsL K μ H ds vs)(h:R (.tup ds) mh):∀p,H p=none->Q (.ref p) (upd H p (.tup vs)):=λp b=>
 F _ mh h μ _ _ (aI.new a b) (a.new b) (by unfold Is;exact⟨p,vs,rfl,.of bC,IsL.mono a (aI.new a b) ds vs l⟩)
theorem iE(a:Rep K μ mh H)(F:Fin K μ H R Q)(l:IsL K μ H ds vs)(h:R (.ref mh.length) (mh++[.lst ds])):∀p,H p=none->Q (.ref p) (upd H p (.lst vs)):=λp b=>
 F _ _ h (μ++[p]) _ _ (aI.JM a b) (a.JM b l) (by unfold Is;exact⟨p,by rw[<-a.len];simp,rfl⟩)
end
def eP(w:WA):WE:=λb mh Q=>w b mh λds a=>XO ds a Q
def kB(w:WA):WE:=λb mh Q=>w b mh λds a=>FA ds a Q
section
variable {X:Cx}{e:Expr}{es:List Expr}{w:WE}{wr:WA}{pos:Pos}
theorem YM:LA X [] aD:=PA.imp E6 λσ H Q h=>by
 obtain⟨μ,b,mh,R,a,E,h,F⟩:=h;exact F [] mh h μ [] H aI.refl a (by unfold IsL;rfl)
theorem S2(ha:LE X e w)(l:LA X es wr)(m:starEach (e::es) X.env=(false,eval e X.env)::starEach es X.env:=by rfl):LA X (e::es) (aA w wr):=PA.imp (zK ha l m) λσ H Q h=>by
 obtain⟨μ,f,mh,R,g,E,h,F⟩:=h;refine⟨μ,f,mh,_,g,E,h,λdx a n b i s j k o=>⟨b,f,a,_,k,E.mono g j,n,λds c p d vs q P2 R2 r=>?_⟩⟩;exact F _ c p d _ q (j.trans P2) R2 (by unfold IsL;exact⟨i,vs,rfl,Is.mono k P2 dx i o,r⟩)
theorem YA{x1}(h:LA X es wr):LE X (.Tuple es x1 pos) (eP wr):=PE.imp (MN h) λσ H Q h=>by
 obtain⟨μ,c,mh,R,d,E,h,F⟩:=h;refine⟨μ,c,mh,_,d,E,h,λds e a f vs j g i b=>⟨by rw[aK b];exact a.1,mN i (F.at g) b a.2⟩⟩
theorem YE(h:LA X es wr):LE X (.List es pos) (kB wr):=PE.imp (WW h) λσ H Q h=>by
 obtain⟨μ,c,mh,R,d,E,h,F⟩:=h;refine⟨μ,c,mh,_,d,E,h,λds e a f vs j g i b=>⟨by rw[aK b];exact a.1,iE i (F.at g) b a.2⟩⟩
abbrev OA:=List D->MH->DK->Prop
def fF(K:aL1)(f:OA):List V->Hp->VK->Prop:=λxs H Q=>∃μ mh ds R,Rep K μ mh H/\IsL K μ H ds xs/\f ds mh R/\Fin K μ H R Q
def aE(f:OA)(w:WA):WE:=λb mh Q=>w b mh λds a=>f ds a Q
theorem call_in{f:OA}{σ:L2.St}{Q:VK}(h:tL K (aE f wr) σ H Q):tCB (fF K f) (tLA K wr) σ H Q:=by
 obtain⟨μ,c,mh,R,d,E,h,F⟩:=h;exact⟨μ,c,mh,_,d,E,h,λds a e b vs k g i j=>⟨b,a,ds,R,i,j,e,F.at g⟩⟩
theorem NY{x:Str}{p:Pos}{id:String}{f:OA}(c:cU X (.builtin id) (fF X.K f))(hg:Gl X x)(d:X.mg x=none)(g:bootBuiltins x=some (.builtin id))(ha:LA X (e::es) wr)(i:x≠ "__name__":=by decide)(a:(x==("__debug__":Str))=false:=by decide)
  (he:starEach (e::es) X.env=(false,eval e X.env)::starEach es X.env:=by rfl) (b:(backTo pos (starEach es X.env)).any (·.1)=false:=by rfl):LE X (.Call (.Name x p) (e::es) [] pos) (aE f wr):=
 PE.imp (CB c hg d g ha i a he b) λ_ _ _ h=>call_in h
theorem JQ{x:Str}{p:Pos}{T:String}{f:OA}(c:cU X (.type T) (fF X.K f))(hg:Gl X x)(d:X.mg x=none)(g:bootBuiltins x=some (.type T))(ha:LA X (e::es) wr)(i:x≠ "__name__":=by decide)(a:(x==("__debug__":Str))=false:=by decide)
  (he:starEach (e::es) X.env=(false,eval e X.env)::starEach es X.env:=by rfl) (b:(backTo pos (starEach es X.env)).any (·.1)=false:=by rfl):LE X (.Call (.Name x p) (e::es) [] pos) (aE f wr):=
 PE.imp (xR c hg d g ha i a he b) λ_ _ _ h=>call_in h
def LX(K:aL1)(f:OA):Sp:=λvs H Q _=>fF K f vs H Q
theorem SW{k:Nat}{f:Addr}{fd:FuncData}{ps:List Str}{x:Str}{p:Pos}{s:OA}(F:iN X.prog X.w X.K X.mg X.base A8 k f fd ps (LX X.K s))(g:fH k X.A)(hg:Gl X x)(i:X.mg x=some (.ref f))(j:PySem.W.keepIn X.K (.ref f)=true)(hb:Binds X.K fd ps [])
  (ha:LA X (e::es) wr) (a:(x==("__debug__":Str))=false:=by decide) (he:starEach (e::es) X.env=(false,eval e X.env)::starEach es X.env:=by rfl) (b:(backTo pos (starEach es X.env)).any (·.1)=false:=by rfl):
  LE X (.Call (.Name x p) (e::es) [] pos) (aE s wr):=PE.imp (HD F g hg i j hb .nil UW ha a he b) λσ H Q h=>by
 obtain⟨μ,l,mh,R,m,E,h,n⟩:=h;refine⟨μ,l,mh,_,m,E,h,λds c o d vs q r t u=>?_⟩;show fF X.K s (vs++[]) q Q;rw[List.append_nil];exact⟨d,c,ds,R,t,u,o,n.at r⟩
end
section
variable {K:aL1}{μ:List Addr}{mh:MH}{H:Hp}
theorem Is.int{i:Int}:Is K μ H (.int i) (.int i):=by unfold Is;rfl
theorem Is.str{i:Str}:Is K μ H (.str i) (.str i):=by unfold Is;rfl
theorem Is.bl{i:Bool}:Is K μ H (.bl i) (.bl i):=by unfold Is;rfl
theorem Is.b9:Is K μ H .b9 .b9:=by unfold Is;rfl
variable{v:V}
theorem bR{i:Int}(h:Is K μ H (.int i) v):v= .int i:=by unfold Is at h;exact h
theorem eR{i:Str}(h:Is K μ H (.str i) v):v= .str i:=by unfold Is at h;exact h
theorem OD{i:Bool}(h:Is K μ H (.bl i) v):v= .bl i:=by unfold Is at h;exact h
theorem OB(h:Is K μ H .b9 v):v= .b9:=by unfold Is at h;exact h
variable{ds:List D}
theorem zZ(h:Is K μ H (.tup ds) v):∃a vs,v= .ref a/\KY K H a vs/\IsL K μ H ds vs:=by unfold Is at h;exact h
theorem dX(h:Is K μ H (.tup ds) v):∃a vs,v= .ref a/\sL K H a vs/\IsL K μ H ds vs:=by obtain⟨a,vs,e,s,l⟩:=zZ h;exact⟨a,vs,e,s.sq,l⟩
theorem pQ(h:Is K μ H (.fl ds) v):∃a vs,v= .ref a/\QF K H a vs/\IsL K μ H ds vs:=by unfold Is at h;exact h
theorem jJ{n:Nat}(h:Is K μ H (.ref n) v):∃a,μ[n]? =some a/\v= .ref a:=by unfold Is at h;exact h
theorem eI:∀{ds:List D} {vs:List V} {i:Nat} {d:D},IsL K μ H ds vs->ds[i]? =some d->∃v,vs[i]? =some v/\Is K μ H d v
 | [],_,_,_,_,e=>by simp at e
 | x::ds,vs,i,d,h,e=>by
  unfold IsL at h;obtain⟨v,r,rfl,q,l⟩:=h
  cases i with
  | zero=>simp at e;subst e;exact⟨v,rfl,q⟩
  | succ i=>obtain⟨u,a,b⟩:=eI (i:=i) l (by simpa using e);exact⟨u,by simpa using a,b⟩
theorem e8:∀{ds a:List D} {vs us:List V},IsL K μ H ds vs->IsL K μ H a us->IsL K μ H (ds++a) (vs++us)
 | [],a,vs,us,h,q=>by unfold IsL at h;subst h;exact q
 | d::ds,a,vs,us,h,q=>by
  unfold IsL at h;obtain⟨v,r,rfl,i,l⟩:=h;show IsL K μ H (d::(ds++a)) (v::(r++us));unfold IsL;exact⟨v,_,rfl,i,e8 l q⟩
variable{d:D}
theorem mM(h:Is K μ H d v):IsL K μ H [d] [v]:=by unfold IsL;exact⟨v,[],rfl,h,by unfold IsL;rfl⟩
theorem DA:∀(n:Nat) {ds:List D} {vs:List V},IsL K μ H ds vs->IsL K μ H (ds.drop n) (vs.drop n)
 | 0,_,_,h=>by simpa using h
 | n+1,[],vs,h=>by unfold IsL at h;subst h;simp[IsL]
 | n+1,d::ds,vs,h=>by unfold IsL at h;obtain⟨v,r,rfl,_,l⟩:=h;simpa using DA n l
theorem C8:∀(n:Nat) {ds:List D} {vs:List V},IsL K μ H ds vs->IsL K μ H (ds.take n) (vs.take n)
 | 0,_,_,h=>by simp[IsL]
 | n+1,[],vs,h=>by unfold IsL at h;subst h;simp[IsL]
 | n+1,d::ds,vs,h=>by
  unfold IsL at h;obtain⟨v,r,rfl,i,l⟩:=h;simp only[List.take_succ_cons];unfold IsL;exact⟨v,_,rfl,i,C8 n l⟩
theorem HV:∀(n:Nat) {ds:List D} {vs:List V} {d:D} {v:V},Is K μ H d v->IsL K μ H ds vs->IsL K μ H (ds.set n d) (vs.set n v)
 | n,[],vs,d,v,_,h=>by unfold IsL at h;subst h;simp[IsL]
 | 0,x::ds,vs,d,v,i,h=>by unfold IsL at h;obtain⟨u,r,rfl,_,l⟩:=h;simp only[List.set_cons_zero];unfold IsL;exact⟨v,r,rfl,i,l⟩
 | n+1,x::ds,vs,d,v,i,h=>by unfold IsL at h;obtain⟨u,r,rfl,q,l⟩:=h;simp only[List.set_cons_succ];unfold IsL;exact⟨u,_,rfl,q,HV n i l⟩
theorem Y1{vs:List V}{i:Int}(l:IsL K μ H ds vs)(e:mY ds i=some d):∃v,mY vs i=some v/\Is K μ H d v:=by
 unfold mY at*;rw[aK l]
 cases q:FO ds.length i with
 | none=>rw[q]at e;cases e
 | some j=>rw[q]at e;exact eI l e
def bG(mh:MH):D->Option (List D)
 | .tup ds=>some ds
 | .fl ds=>some ds
 | .ref n=>match mh[n]? with | some (.lst ds)=>some ds | _=>none
 | _=>none
theorem zC(R:Rep K μ mh H)(h:Is K μ H d v)(e:bG mh d=some ds):∃a vs,v= .ref a/\(oI K H a vs\/sL K H a vs)/\IsL K μ H ds vs:=by
 cases d with
 | tup b=>obtain⟨a,vs,rfl,s,l⟩:=dX h;cases e;exact⟨a,vs,rfl,.inr s,l⟩
 | fl b=>obtain⟨a,vs,rfl,s,l⟩:=pQ h;cases e;exact⟨a,vs,rfl,.inl s.sq,l⟩
 | ref n=>
  obtain⟨a,q,rfl⟩:=jJ h;simp only[bG]at e
  cases o:mh[n]? with
  | none=>rw[o]at e;cases e
  | some ob=>
   cases ob with
   | lst b=>
    rw[o]at e;cases e;obtain⟨vs,c,l⟩:=R.obj n a _ q o;exact⟨a,vs,rfl,.inl (.of c),l⟩
   | dic t kvs=>rw[o]at e;cases e
   | fdc t kvs ob=>rw[o]at e;cases e
 | _=>cases e
def mW(mh:MH):D->Option (List D)
 | .fl ds=>some ds
 | .ref n=>match mh[n]? with | some (.lst ds)=>some ds | _=>none
 | _=>none
theorem u6(R:Rep K μ mh H)(h:Is K μ H d v)(e:mW mh d=some ds):∃a vs,v= .ref a/\oI K H a vs/\IsL K μ H ds vs:=by
 cases d with
 | fl b=>obtain⟨a,vs,rfl,s,l⟩:=pQ h;cases e;exact⟨a,vs,rfl,s.sq,l⟩
 | ref n=>
  obtain⟨a,q,rfl⟩:=jJ h;simp only[mW]at e
  cases o:mh[n]? with
  | none=>rw[o]at e;cases e
  | some ob=>
   cases ob with
   | lst b=>
    rw[o]at e;cases e;obtain⟨vs,c,l⟩:=R.obj n a _ q o;exact⟨a,vs,rfl,.of c,l⟩
   | dic t kvs=>rw[o]at e;cases e
   | fdc t kvs ob=>rw[o]at e;cases e
 | _=>cases e
theorem fM{n:Nat}(R:Rep K μ mh H)(h:Is K μ H (.ref n) v)(e:mh[n]? =some (.lst ds)):∃a vs,v= .ref a/\μ[n]? =some a/\H a=some (.lst vs)/\IsL K μ H ds vs:=by
 obtain⟨a,q,rfl⟩:=jJ h;obtain⟨vs,b,l⟩:=R.obj n a _ q e;exact⟨a,vs,rfl,q,b,l⟩
theorem Fin.here{Q:VK}(F:Fin K μ H R Q)(a:Rep K μ mh H)(h:R d mh)(i:Is K μ H d v):Q v H:=F d mh h μ v H aI.refl a i
theorem Fin.put{Q:VK}{n:Nat}{vs:List V}(F:Fin K μ H R Q)(b:Rep K μ mh H)(c:μ[n]? =some a)(l:IsL K μ H ds vs)(h:R d (mh.set n (.lst ds)))(i:Is K μ H d v):Q v (upd H a (.lst vs)):=
 F d _ h μ v _ (aI.set b c) (b.set c l) (Is.mono b (aI.set b c) d v i)
end
def CD(C:Int->Int->Prop)(g:Int->Int->D):O2:=λx y mh Q=>∃i j,x= .int i/\y= .int j/\C i j/\Q (g i j) mh
section
variable {X:Cx}
variable{f:Value->Value->Sem Value}{g:Int->Int->V}
theorem uV{C:Int->Int->Prop}{g' :Int->Int->D}(h:eL X f (rI C g))(hg:∀μ H i j,Is X.K μ H (g' i j) (g i j)):eL X f (bT X.K (CD C g')):=by
 intro pins s σ H x y v u Q I a b q;obtain⟨μ,mh,dx,l,R,d,e,k,⟨i,j,rfl,rfl,c,q⟩,F⟩:=q;cases bR e;cases bR k;exact h pins s σ H _ _ v u Q I a b ⟨i,j,rfl,rfl,c,F.here d q (hg _ _ _ _)⟩
theorem aBo(h:eL X f (P7 g)):eL X f (rI (λ_ _=>True) g):=λpins s σ H x y v u Q I b c a=>by obtain⟨i,j,d,e,_,q⟩:=a;exact h pins s σ H x y v u Q I b c ⟨i,j,d,e,q⟩
abbrev n6:O2:=CD (λ_ _=>True) λi j=>.int (i-j)
abbrev gX:O2:=CD GO λi j=>.int (i*j)
abbrev xS:O2:=CD aDh λi j=>.int (i / j)
abbrev oMod:O2:=CD (λ_ j=>0<j) λi j=>.int (i % j)
abbrev MY:O2:=CD aA5 λi j=>.int (i^j.toNat)
theorem XC:eL X (binaryOp .Sub) (bT X.K n6):=uV (aBo W5) λ_ _ _ _=>.int
theorem XE:eL X (binaryOp .Mult) (bT X.K gX):=uV W7 λ_ _ _ _=>.int
theorem RX:eL X (binaryOp .FloorDiv) (bT X.K xS):=uV RT λ_ _ _ _=>.int
theorem XF:eL X (binaryOp .Mod) (bT X.K oMod):=uV W8 λ_ _ _ _=>.int
theorem XD:eL X (binaryOp .Pow) (bT X.K MY):=uV W6 λ_ _ _ _=>.int
def kG:O1:=λx mh Q=>∃i,x= .int i/\Q (.int (-i)) mh
theorem VM:UnR X (unaryOp .USub) (NS X.K kG):=by
 intro pins s σ H x v Q I a q;obtain⟨μ,mh,dx,R,b,c,⟨i,rfl,q⟩,F⟩:=q;cases bR c;exact VL pins s σ H _ v Q I a ⟨i,rfl,F.here b q .int⟩
def cO:O2:=λx y mh Q=>match x with
 | .int i=>match y with | .int j=>Q (.int (i+j)) mh | _=>False
 | .str i=>match y with | .str j=>i.length+j.length<=sizeLine/\Q (.str (i++j)) mh | _=>False
 | .tup i=>match y with | .tup j=>i.length+j.length<=sizeLine/\Q (.tup (i++j)) mh | _=>False
 | .ref n=>match y with | .ref m=>∃i j,mh[n]? =some (.lst i)/\mh[m]? =some (.lst j)/\FA (i++j) mh Q | _=>False
 | _=>False
theorem PQ{prog:Program}{w:World}{A:Around}{E:aL2}{s:Shared}{t b:Addr}{g:List Value}{Q:aL2}(ht:IsTup s.heap t ([]:List Value).toArray)(hb:IsTup s.heap b g.toArray)
  (h:Q (.ref b) s):wpAny (model prog w) A (binaryOp .Add (.ref t) (.ref b)) Q E s:=by
 obtain⟨⟨cls,k,data,sl⟩,ho,i,n,hd⟩:=id ht;obtain⟨⟨j,e,data2,f⟩,a,c,l,d⟩:=id hb;simp only at i hd c d;subst i hd c d
 exact concat_meets ⟨_,ho,rfl⟩ ⟨_,a,rfl⟩ noFill_tuple_add seq_tuple_add aJz aJu (aJq _ _)
   (tuple_addW0 t b _ g.toArray n l k e sl f (by simp)) ⟨ho,a,h⟩
theorem XH:eL X (binaryOp .Add) (bT X.K cO):=by
 intro pins s σ H x y v u Q I d f q;obtain⟨μ,mh,dx,k,R,c,g,h,q,F⟩:=q
 cases dx with
 | int i=>cases k with
  | int j=>cases bR g;cases bR h;exact XA pins s σ H _ _ v u Q I d f ⟨i,j,rfl,rfl,F.here c q .int⟩
  | _=>exact False.elim q
 | str i=>cases k with
  | str j=>cases eR g;cases eR h;exact E7 pins s σ H _ _ v u Q I d f ⟨i,j,rfl,rfl,q.1,F.here c q.2 .str⟩
  | _=>exact False.elim q
 | tup i=>cases k with
  | tup j=>
   obtain⟨a,xs,rfl,sa,la⟩:=dX g;obtain⟨b,ys,rfl,sb,lb⟩:=dX h;by_cases l:xs=[]
   ·subst l;cases d;cases f;obtain⟨aH,p,r,_⟩:=I.tuple sa;obtain⟨o,B,t,_⟩:=I.tuple sb;cases p;have hi:i=[]:=by have:=aK la;cases i <;> simp_all
    subst hi;exact PQ r t ⟨.ref b,H,I,rfl,F.here c q.2 h⟩
   ·refine RU pins s σ H _ _ v u Q I d f ⟨a,b,xs,ys,rfl,rfl,sa,sb,l,by rw[aK la,aK lb];exact q.1,λe=>?_,λ_=>mN c F (e8 la lb) q.2⟩;subst e;have w:j=[]:=by have:=aK lb;cases j <;> simp_all
    subst w;exact F.here c q.2 (by simpa using g)
  | _=>exact False.elim q
 | ref n=>cases k with
  | ref m=>
   obtain⟨i,j,z,A,q⟩:=q;obtain⟨a,xs,rfl,_,sa,la⟩:=fM c g z;obtain⟨b,ys,rfl,_,sb,lb⟩:=fM c h A;exact W9 pins s σ H _ _ v u Q I d f ⟨a,b,xs,ys,rfl,rfl,sa,sb,by rw[aK la,aK lb,<-List.length_append];exact q.1,iE c F (e8 la lb) q.2⟩
  | _=>exact False.elim q
 | _=>exact False.elim q
def fI:O2:=λx y mh Q=>∃i,y= .int i/\match x with
 | .str z=>z.length<=sizeLine/\∃c,mY z.cps.toList i=some c/\Q (.str ⟨#[c]⟩) mh
 | _=>∃ds d,bG mh x=some ds/\mY ds i=some d/\Q d mh
theorem ixl:VA X (bT X.K fI):=by
 intro b f pins s σ H x y v u Q I h j q k;obtain⟨μ,mh,dx,C,R,g,n,r,⟨i,rfl,q⟩,F⟩:=q;cases bR r
 have go:(∃ds d,bG mh dx=some ds/\mY ds i=some d/\R d mh)->wpAny (model X.prog X.w) X.A (subscriptTail b f v u) (EP X pins σ Q) X.xe s:=λm=>by
  obtain⟨ds,d,t,B,q⟩:=m;obtain⟨a,vs,rfl,sq,l⟩:=zC g n t;obtain⟨z,o,p⟩:=Y1 l B;rcases sq with sq | sq
  ·exact S4 b f pins s σ H _ _ v u Q I h j ⟨a,vs,i,z,rfl,rfl,sq,o,F.here g q p⟩ k
  ·exact YV b f pins s σ H _ _ v u Q I h j ⟨a,vs,i,z,rfl,rfl,sq,o,F.here g q p⟩ k
 cases dx with
 | str z=>
  obtain⟨hz,c,e,q⟩:=q;cases eR n;exact YW b f pins s σ H _ _ v u Q I h j ⟨z,i,c,rfl,rfl,hz,e,F.here g q .str⟩ k
 | _=>exact go q
def aCv:D->Bool | .b9=>true | _=>false
def fX:OA:=λxs mh Q=>∃x,xs=[x]/\match x with
 | .str z=>z.length<=sizeLine/\Q (.int z.length) mh
 | _=>∃ds,bG mh x=some ds/\Q (.int ds.length) mh
variable{vs:List V}
theorem nP{μ:List Addr}{d:D}(h:IsL K μ H [d] vs):∃v,vs=[v]/\Is K μ H d v:=by
 unfold IsL at h;obtain⟨v,r,rfl,i,l⟩:=h;unfold IsL at l;subst l;exact⟨v,rfl,i⟩
theorem HX{μ:List Addr}{d e:D}(h:IsL K μ H [d,e] vs):∃v u,vs=[v,u]/\Is K μ H d v/\Is K μ H e u:=by
 unfold IsL at h;obtain⟨v,r,rfl,i,l⟩:=h;obtain⟨u,rfl,j⟩:=nP l;exact⟨v,u,rfl,i,j⟩
theorem ZT:cU X (.builtin "len") (fF X.K fX):=by
 intro pins s σ H xs us Q I r q;obtain⟨μ,mh,ds,R,b,f,⟨x,rfl,q⟩,F⟩:=q;obtain⟨v,rfl,d⟩:=nP f
 have go:(∃ds,bG mh x=some ds/\R (.int ds.length) mh)->wpAny (model X.prog X.w) X.A (call (.builtin "len") us) (EP X pins σ Q) X.xe s:=λc=>by
  obtain⟨g,e,q⟩:=c;obtain⟨a,vs,rfl,sq,l⟩:=zC b d e;exact AV pins s σ H _ us Q I r ⟨a,vs,rfl,sq,F.here b q (by rw[aK l];exact .int)⟩
 cases x with
 | str z=>cases eR d;exact AU pins s σ H _ us Q I r ⟨z,rfl,q.1,F.here b q.2 .int⟩
 | _=>exact go q
def UB:OA:=λxs mh Q=>∃i,xs=[.int i]/\Q (.int (if i<0 then -i else i)) mh
theorem ZV:cU X (.builtin "abs") (fF X.K UB):=by
 intro pins s σ H xs us Q I r q;obtain⟨μ,mh,ds,R,a,b,⟨i,rfl,q⟩,F⟩:=q;obtain⟨v,rfl,c⟩:=nP b;cases bR c;exact PR pins s σ H _ us Q I r ⟨i,rfl,F.here a q .int⟩
def EC:OA:=λxs mh Q=>∃i j,xs=[.int i,.int j]/\Q (.int (if j > i then j else i)) mh
def r9:OA:=λxs mh Q=>∃i j,xs=[.int i,.int j]/\Q (.int (if j<i then j else i)) mh
theorem TZ(a:X.calm=true):cU X (.builtin "max") (fF X.K EC):=by
 intro pins s σ H xs us Q I r q;obtain⟨μ,mh,ds,R,b,c,⟨i,j,rfl,q⟩,F⟩:=q;obtain⟨v,u,rfl,d,e⟩:=HX c;cases bR d;cases bR e;exact KN a pins s σ H _ us Q I r ⟨i,j,rfl,F.here b q .int⟩
theorem TY(a:X.calm=true):cU X (.builtin "min") (fF X.K r9):=by
 intro pins s σ H xs us Q I r q;obtain⟨μ,mh,ds,R,b,c,⟨i,j,rfl,q⟩,F⟩:=q;obtain⟨v,u,rfl,d,e⟩:=HX c;cases bR d;cases bR e;exact KL a pins s σ H _ us Q I r ⟨i,j,rfl,F.here b q .int⟩
theorem V0{pins:List (Addr×Obj)}{σ:L2.St}{s:Shared}(I:Inv X pins σ H s)(h:oI X.K H a vs\/sL X.K H a vs):vs.length<=sizeLine:=by
 rcases h with h | h
 ·obtain⟨_,_,_,z⟩:=I.list h;exact z
 ·obtain⟨_,_,_,z⟩:=I.tuple h;exact z
def oG:OA:=λxs mh Q=>∃x ds,xs=[x]/\bG mh x=some ds/\Q (.tup ds) mh
theorem PN:cU X (.type "tuple") (fF X.K oG):=by
 intro pins s σ H xs us Q I r q;obtain⟨μ,mh,ds,R,b,d,⟨x,f,rfl,e,q⟩,F⟩:=q;obtain⟨v,rfl,c⟩:=nP d
 cases x with
 | tup g=>
  cases e;obtain⟨a,vs,rfl,sq,l⟩:=dX c;exact iM pins s σ H _ us Q I r ⟨a,vs,rfl,.inr ⟨sq,F.here b q c⟩⟩
 | fl g=>
  cases e;obtain⟨a,vs,rfl,sq,l⟩:=pQ c;exact iM pins s σ H _ us Q I r ⟨a,vs,rfl,.inl ⟨sq.sq,mN b F l q⟩⟩
 | ref n=>
  obtain⟨a,vs,rfl,sq,l⟩:=u6 b c (show mW mh (.ref n)=some f from e);exact iM pins s σ H _ us Q I r ⟨a,vs,rfl,.inl ⟨sq,mN b F l q⟩⟩
 | _=>cases e
end
def QR(mh:MH):D->Option String
 | .b9=>some "NoneType"
 | .bl _=>some "bool"
 | .int _=>some "int"
 | .str _=>some "str"
 | .tup _=>some "tuple"
 | .fl _=>some "list"
 | .ref n=>match mh[n]? with | some (.lst _)=>some "list" | _=>none
 | .ty _=>none
def sF(t c:String):Bool:=t==c || (t== "bool" && c== "int")
def bL:List String:=["int","bool","str","tuple","list"]
theorem U5:∀t∈ "NoneType"::bL,∀c∈bL,PySem.W.kitOne K (.type t) (.type c)=some (sF t c):=by
 intro t ht c a;simp only[bL,List.mem_cons,List.not_mem_nil,or_false]at ht a;rcases ht with rfl | rfl | rfl | rfl | rfl | rfl <;> rcases a with rfl | rfl | rfl | rfl | rfl <;> kernel_rfl
theorem HQ{K:aL1}{t:String}(ht:t∈ "NoneType"::bL):∀a:List String,(∀c∈a,c∈bL)->PySem.W.kitAny K (.type t) (a.map Value.type)=some (a.any (sF t))
 | [],_=>rfl
 | c::a,h=>by
  have e:=U5 (K:=K) t ht c (h c aGw);have b:=HQ (K:=K) ht a λx d=>h x (aGx _ d);simp only[List.map_cons,PySem.W.kitAny,e,List.any_cons]
  cases sF t c with
  | true=>rfl
  | false=>simpa using b
def qB:OA:=λxs mh Q=>∃x c t,xs=[x,c]/\QR mh x=some t/\
 ((∃T,c= .ty T/\T∈bL/\Q (.bl (sF t T)) mh)\/∃a:List String,c= .tup (a.map .ty)/\(∀T∈a,T∈bL)/\Q (.bl (a.any (sF t))) mh)
section
variable {X:Cx}
theorem YO{pins:List (Addr×Obj)}{σ:L2.St}{s:Shared}{μ:List Addr}{mh:MH}{d:D}{v:V}{u:Value}{t:String}(I:Inv X pins σ H s)(R:Rep X.K μ mh H)(h:Is X.K μ H d v)(r:RelV v u)(e:QR mh d=some t):
  t∈ "NoneType"::bL/\u≠ .builtin "__main__.__loader__#opaque"/\∃P,PySem.W.KitX X.K u (.type t) P/\P s.heap:=by
 have g:∀{a:Addr} {vs:List V},oI X.K H a vs->∃P,PySem.W.KitX X.K (.ref a) (.type "list") P/\P s.heap:=λ{a vs} sq=>by
  obtain⟨aH,_,⟨o,n,c,f,_⟩,_⟩:=I.list sq;exact⟨_,PySem.W.kitx_list,⟨o,c,f⟩⟩
 cases d with
 | b9=>cases OB h;cases r;cases e;exact⟨by simp[bL],nofun,_,PySem.W.kitx_none,trivial⟩
 | bl b=>cases OD h;cases r;cases e;exact⟨by simp[bL],nofun,_,PySem.W.kitx_bool,trivial⟩
 | int b=>cases bR h;obtain⟨i,rfl⟩:=r;cases e;exact⟨by simp[bL],nofun,_,PySem.W.kitx_int,trivial⟩
 | str b=>cases eR h;obtain⟨i,rfl⟩:=r;cases e;exact⟨by simp[bL],nofun,_,PySem.W.kitx_str,trivial⟩
 | ty b=>cases e
 | tup ds=>
  obtain⟨a,vs,rfl,sq,_⟩:=dX h;cases r;cases e;obtain⟨aH,_,⟨o,c,f,_⟩,_⟩:=I.tuple sq;exact⟨by simp[bL],nofun,_,PySem.W.kitx_tuple,⟨o,c,f⟩⟩
 | fl ds=>
  obtain⟨a,vs,rfl,sq,_⟩:=pQ h;cases r;cases e;exact⟨by simp[bL],nofun,g sq.sq⟩
 | ref n=>
  obtain⟨a,q,rfl⟩:=jJ h;cases r;simp only[QR]at e
  cases o:mh[n]? with
  | none=>rw[o]at e;cases e
  | some ob=>
   cases ob with
   | lst k=>
    rw[o]at e;cases e;obtain⟨vs,j,l⟩:=R.obj n a _ q o;exact⟨by simp[bL],nofun,g (.of j)⟩
   | dic t kvs=>rw[o]at e;cases e
   | fdc t kvs ob=>rw[o]at e;cases e
theorem HU{K:aL1}{μ:List Addr}{H:Hp}:∀{a:List String} {vs:List V} {us:List Value},IsL K μ H (a.map .ty) vs->Vals vs us->us=a.map Value.type
 | [],vs,us,h,r=>by simp only[List.map_nil]at h;unfold IsL at h;subst h;cases r;rfl
 | T::a,vs,us,h,r=>by
  simp only[List.map_cons]at h;unfold IsL at h;obtain⟨v,e,rfl,i,l⟩:=h
  cases r with
  | cons c d=>
   unfold Is at i;subst i;have b :_=Value.type T:=c;subst b;rw[HU l d];rfl
theorem ZU:cU X (.builtin "isinstance") (fF X.K qB):=by
 intro pins s σ H xs us Q I r q;obtain⟨μ,mh,ds,R,e,y,⟨x,c,t,rfl,z,q⟩,F⟩:=q;obtain⟨v,w,rfl,A,f⟩:=HX y
 cases r with
 | cons B d=>
  cases d with
  | cons d C=>
   cases C;obtain⟨i,j,P,k,m⟩:=YO I e A B z
   rcases q with ⟨T,rfl,g,q⟩ | ⟨D,rfl,g,q⟩
   ·unfold Is at f;subst f;have b :_=Value.type T:=d;subst b
    exact PySem.W.kia_one k I.YU m (U5 t i T g) j λh=>⟨.bl _,H,I.tok h,rfl,F.here e q .bl⟩
   ·obtain⟨a,vs,rfl,sq,l⟩:=dX f;have b :_=Value.ref a:=d;subst b;obtain⟨aH,E,⟨o,G,p,n,u⟩,_⟩:=I.tuple sq;have J:=HU l E;obtain⟨oc,od,L,osl⟩:=o;simp only at p u;subst p u
    exact PySem.W.kia_tup k I.YU m G (by rw[J];exact HQ i D g) j λh=>⟨.bl _,H,I.tok h,rfl,F.here e q .bl⟩
end
mutual
def Vl(h:Heap):D->Value->Prop
 | .b9,u=>u= .none
 | .bl b,u=>u= .bool b
 | .int i,u=>∃t,u= .int i t
 | .str x,u=>∃t,u= .str x t
 | .ty _,_=>False
 | .tup ds,u=>∃a us,u= .ref a/\IsTup h a us.toArray/\eN h ds us
 | .fl ds,u=>∃a us,u= .ref a/\h.IsList a us.toArray/\eN h ds us
 | .ref _,_=>False
def eN(h:Heap):List D->List Value->Prop
 | [],us=>us=[]
 | d::ds,us=>∃u r,us=u::r/\Vl h d u/\eN h ds r
end
mutual
def bare:D->Bool
 | .ty _=>false
 | .ref _=>false
 | .tup ds=>fQ ds
 | .fl ds=>fQ ds
 | _=>true
def fQ:List D->Bool
 | []=>true
 | d::ds=>bare d && fQ ds
end
mutual
def deep:D->Nat
 | .tup ds=>c8 ds+1
 | .fl ds=>c8 ds+1
 | _=>0
def c8:List D->Nat
 | []=>0
 | d::ds=>max (deep d) (c8 ds)
end
mutual
def pY:D->D->Bool
 | .b9,y=>aCv y
 | .bl a,y=>match y with | .bl b=>a==b | .int j=>(if a then 1 else 0)==j | _=>false
 | .int i,y=>match y with | .int j=>i==j | .bl b=>i==(if b then 1 else 0) | _=>false
 | .str a,y=>match y with | .str b=>a==b | _=>false
 | .tup as,y=>match y with | .tup bs=>fO as bs | _=>false
 | .fl as,y=>match y with | .fl bs=>fO as bs | _=>false
 | .ref _,_=>false
 | .ty _,_=>false
def fO:List D->List D->Bool
 | [],y=>y.isEmpty
 | a::as,y=>match y with | b::bs=>pY a b && fO as bs | []=>false
end
theorem cI:∀(as bs:List D),fO as bs=((List.range (min as.length bs.length)).all (λj=>pY (as.getD j .b9) (bs.getD j .b9)) && as.length==bs.length)
 | [],[]=>by simp[fO]
 | [],b::bs=>by simp[fO]
 | a::as,[]=>by simp[fO]
 | a::as,b::bs=>by
  have c:=cI as bs;simp only[fO,List.length_cons,Nat.succ_min_succ,List.range_succ_eq_map,List.all_cons,List.all_map,Function.comp_def,List.getD_cons_zero,List.getD_cons_succ,c];cases pY a b <;> simp
theorem bH{h:Heap}:∀{ds:List D} {us:List Value},eN h ds us->us.length=ds.length
 | [],us,q=>by unfold eN at q;subst q;rfl
 | d::ds,us,q=>by unfold eN at q;obtain⟨u,r,rfl,_,l⟩:=q;simp[bH l]
theorem c9{h:Heap}:∀{ds:List D} {us:List Value} {j:Nat} {u:Value},eN h ds us->us[j]? =some u->Vl h (ds.getD j .b9) u
 | [],us,j,u,q,e=>by unfold eN at q;subst q;simp at e
 | d::ds,us,j,u,q,e=>by
  unfold eN at q;obtain⟨w,r,rfl,i,l⟩:=q
  cases j with
  | zero=>simp at e;subst e;exact i
  | succ j=>exact c9 (j:=j) l (by simpa using e)
theorem eT:∀(ds:List D) (j:Nat),deep (ds.getD j .b9)<=c8 ds
 | [],j=>by simp[deep]
 | d::ds,0=>by simp[c8];lia
 | d::ds,j+1=>by have:=eT ds j;simp[c8]at*;lia
variable{h:Heap}
theorem sV{x y:Array Value}(d:h.IsList a x)(hb:IsTup h a y):False:=by
 obtain⟨o,ho,e,_⟩:=d;obtain⟨f,b,c,_⟩:=hb;rw[ho]at b;cases b;rw[e]at c;exact absurd c (by simp)
mutual
theorem yZ{h:Heap}:∀{d e:D} {u:Value},Vl h d u->Vl h e u->pY d e=true
 | .b9,e,u,p,q=>by
  unfold Vl at p;subst p
  cases e <;> unfold Vl at q <;> first | rfl | (cases q;done) | (obtain⟨_,q⟩:=q;cases q;done) | (obtain⟨_,_,q,_⟩:=q;cases q;done)
 | .bl a,e,u,p,q=>by
  unfold Vl at p;subst p
  cases e <;> unfold Vl at q <;> first | (subst q;simp[pY];done) | (cases q;simp[pY];done) | (cases q;done) | (obtain⟨_,q⟩:=q;cases q;done) | (obtain⟨_,_,q,_⟩:=q;cases q;done)
 | .int a,e,u,p,q=>by
  unfold Vl at p;obtain⟨t,rfl⟩:=p
  cases e <;> unfold Vl at q <;> first | (cases q;done) | (obtain⟨_,q⟩:=q;cases q;simp[pY];done) | (obtain⟨_,q⟩:=q;cases q;done) | (obtain⟨_,_,q,_⟩:=q;cases q;done)
 | .str a,e,u,p,q=>by
  unfold Vl at p;obtain⟨t,rfl⟩:=p
  cases e <;> unfold Vl at q <;> first | (cases q;done) | (obtain⟨_,q⟩:=q;cases q;simp[pY];done) | (obtain⟨_,q⟩:=q;cases q;done) | (obtain⟨_,_,q,_⟩:=q;cases q;done)
 | .ty _,e,u,p,q=>by unfold Vl at p;exact p.elim
 | .ref _,e,u,p,q=>by unfold Vl at p;exact p.elim
 | .tup as,e,u,p,q=>by
  unfold Vl at p;obtain⟨a,us,rfl,ht,l⟩:=p
  cases e with
  | tup bs=>
   unfold Vl at q;obtain⟨b,f,e,c,g⟩:=q;cases e;obtain⟨o,k,_,n,m⟩:=ht;obtain⟨v,i,_,w,j⟩:=c;rw[k]at i;cases i;rw[m]at j;injection j with r;have s:us=f:=by simpa using aHu Array.toList r
   subst s;show fO as bs=true;exact tR l g
  | fl bs=>
   unfold Vl at q;obtain⟨b,f,e,c,g⟩:=q;cases e;exact(sV c ht).elim
  | _=>unfold Vl at q;first | (cases q;done) | (obtain⟨_,q⟩:=q;cases q;done)
 | .fl as,e,u,p,q=>by
  unfold Vl at p;obtain⟨a,us,rfl,ht,l⟩:=p
  cases e with
  | fl bs=>
   unfold Vl at q;obtain⟨b,f,e,c,g⟩:=q;cases e;obtain⟨o,k,_,n,m⟩:=ht;obtain⟨v,i,_,w,j⟩:=c;rw[k]at i;cases i;rw[m]at j;injection j with r;have s:us=f:=by simpa using aHu Array.toList r
   subst s;show fO as bs=true;exact tR l g
  | tup bs=>
   unfold Vl at q;obtain⟨b,f,e,c,g⟩:=q;cases e;exact(sV ht c).elim
  | _=>unfold Vl at q;first | (cases q;done) | (obtain⟨_,q⟩:=q;cases q;done)
theorem tR{h:Heap}:∀{ds a:List D} {us:List Value},eN h ds us->eN h a us->fO ds a=true
 | [],a,us,p,q=>by unfold eN at p;subst p;cases a with | nil=>rfl | cons=>unfold eN at q;obtain⟨_,_,e,_⟩:=q;cases e
 | d::ds,a,us,p,q=>by
  unfold eN at p;obtain⟨u,r,rfl,i,l⟩:=p
  cases a with
  | nil=>unfold eN at q;cases q
  | cons e a=>
   unfold eN at q;obtain⟨g,j,b,c,f⟩:=q;cases b;simp only[fO,yZ i c,tR l f,Bool.and_self]
end
open SeqAt in
theorem oD{s:Shared}:∀(k:Nat) {A:Around} {d e:D} {u v:Value},deep d<=k->A.units+k+1<cLine->Vl s.heap d u->Vl s.heap e v->EqAt A s u v (pY d e)
 | k,A,.b9,e,u,v,hk,hu,p,q=>by
  unfold Vl at p;subst p;cases e <;> unfold Vl at q
  ·subst q;exact EqAt.same _
  ·subst q;exact EqAt.none_bool _
  ·obtain⟨t,rfl⟩:=q;exact EqAt.none_int _ t
  ·obtain⟨t,rfl⟩:=q;exact EqAt.none_str _ t
  ·exact q.elim
  ·obtain⟨a,us,rfl,ht,_⟩:=q;exact EqAt.none_tuple ht (by lia)
  ·obtain⟨a,us,rfl,ht,_⟩:=q;exact EqAt.none_list ht (by lia)
  ·exact q.elim
 | k,A,.bl x,e,u,v,hk,hu,p,q=>by
  unfold Vl at p;subst p;cases e <;> unfold Vl at q
  ·subst q;exact EqAt.bool_none _
  ·subst q;exact EqAt.bool_bool _ _
  ·obtain⟨t,rfl⟩:=q;exact EqAt.bool_int _ _ t
  ·obtain⟨t,rfl⟩:=q;exact EqAt.bool_str _ _ t
  ·exact q.elim
  ·obtain⟨a,us,rfl,ht,_⟩:=q;exact EqAt.bool_tuple _ ht (by lia)
  ·obtain⟨a,us,rfl,ht,_⟩:=q;exact EqAt.bool_list _ ht (by lia)
  ·exact q.elim
 | k,A,.int x,e,u,v,hk,hu,p,q=>by
  unfold Vl at p;obtain⟨w,rfl⟩:=p;cases e <;> unfold Vl at q
  ·subst q;exact EqAt.int_none _ _
  ·subst q;exact EqAt.int_bool _ _ _
  ·obtain⟨t,rfl⟩:=q;exact EqAt.int_int _ _ _ t
  ·obtain⟨t,rfl⟩:=q;exact EqAt.int_str _ _ _ t
  ·exact q.elim
  ·obtain⟨a,us,rfl,ht,_⟩:=q;exact EqAt.int_tuple _ _ ht (by lia)
  ·obtain⟨a,us,rfl,ht,_⟩:=q;exact EqAt.int_list _ _ ht (by lia)
  ·exact q.elim
 | k,A,.str x,e,u,v,hk,hu,p,q=>by
  unfold Vl at p;obtain⟨w,rfl⟩:=p;cases e <;> unfold Vl at q
  ·subst q;exact EqAt.str_none _ _
  ·subst q;exact EqAt.str_bool _ _ _
  ·obtain⟨t,rfl⟩:=q;exact EqAt.str_int _ _ _ t
  ·obtain⟨t,rfl⟩:=q;exact EqAt.str_str _ _ _ t
  ·exact q.elim
  ·obtain⟨a,us,rfl,ht,_⟩:=q;exact EqAt.str_tuple _ _ ht (by lia)
  ·obtain⟨a,us,rfl,ht,_⟩:=q;exact EqAt.str_list _ _ ht (by lia)
  ·exact q.elim
 | k,A,.ty x,e,u,v,hk,hu,p,q=>by unfold Vl at p;exact p.elim
 | k,A,.ref x,e,u,v,hk,hu,p,q=>by unfold Vl at p;exact p.elim
 | k,A,.tup as,e,u,v,hk,hu,p,q=>by
  have o:=p;unfold Vl at p;obtain⟨a,us,rfl,ht,l⟩:=p
  cases e with
  | tup bs=>
   by_cases f:Value.ref a=v
   ·subst f;rw[yZ o q];exact EqAt.same _
   unfold Vl at q;obtain⟨b,n,rfl,c,g⟩:=q;have h:a≠b:=λz=>f (by rw[z])
   cases k with
   | zero=>simp[deep]at hk
   | succ k=>
    refine EqAt.of_refs h ?_;have r:=RcAt.tuples (e:=λj=>pY (as.getD j .b9) (bs.getD j .b9)) ht c (by lia) (λj i m=>oD k (A:=A.in1) (aHm (eT as j) (by simp[deep]at hk;exact hk)) (by show A.units+1+k+1<_;lia) (c9 l (by simp at i;simp[i])) (c9 g (by simp at m;simp[m])));show RcAt A s _ _ (fO as bs);rw[cI,<-bH l,<-bH g];simpa using r
  | b9=>unfold Vl at q;subst q;exact EqAt.tuple_none ht (by lia)
  | bl x=>unfold Vl at q;subst q;exact EqAt.tuple_bool _ ht (by lia)
  | int x=>unfold Vl at q;obtain⟨t,rfl⟩:=q;exact EqAt.tuple_int _ _ ht (by lia)
  | str x=>unfold Vl at q;obtain⟨t,rfl⟩:=q;exact EqAt.tuple_str _ _ ht (by lia)
  | fl bs=>unfold Vl at q;obtain⟨b,n,rfl,c,g⟩:=q;exact EqAt.tuple_list ht c (by lia)
  | ty x=>unfold Vl at q;exact q.elim
  | ref x=>unfold Vl at q;exact q.elim
 | k,A,.fl as,e,u,v,hk,hu,p,q=>by
  have o:=p;unfold Vl at p;obtain⟨a,us,rfl,ht,l⟩:=p
  cases e with
  | fl bs=>
   by_cases f:Value.ref a=v
   ·subst f;rw[yZ o q];exact EqAt.same _
   unfold Vl at q;obtain⟨b,n,rfl,c,g⟩:=q;have h:a≠b:=λz=>f (by rw[z])
   cases k with
   | zero=>simp[deep]at hk
   | succ k=>
    refine EqAt.of_refs h ?_;show RcAt A s _ _ (fO as bs);by_cases hsz:us.length=n.length
    ·have r:=RcAt.lists (e:=λj=>pY (as.getD j .b9) (bs.getD j .b9)) ht c (by simpa using hsz) (by lia) (λj i m=>oD k (A:=A.in1) (aHm (eT as j) (by simp[deep]at hk;exact hk)) (by show A.units+1+k+1<_;lia) (c9 l (by simp at i;simp[i])) (c9 g (by simp at m;simp[m])));rw[cI,<-bH l,<-bH g,<-hsz,Nat.min_self,beq_self_eq_true,Bool.and_true];simpa using r
    ·have r:=RcAt.lists_lengths (A:=A) ht c (by simpa using hsz) (by lia);rw[cI,<-bH l,<-bH g,beq_eq_false_iff_ne.mpr hsz,Bool.and_false];exact r
  | b9=>unfold Vl at q;subst q;exact EqAt.list_none ht (by lia)
  | bl x=>unfold Vl at q;subst q;exact EqAt.list_bool _ ht (by lia)
  | int x=>unfold Vl at q;obtain⟨t,rfl⟩:=q;exact EqAt.list_int _ _ ht (by lia)
  | str x=>unfold Vl at q;obtain⟨t,rfl⟩:=q;exact EqAt.list_str _ _ ht (by lia)
  | tup bs=>unfold Vl at q;obtain⟨b,n,rfl,c,g⟩:=q;exact EqAt.list_tuple ht c (by lia)
  | ty x=>unfold Vl at q;exact q.elim
  | ref x=>unfold Vl at q;exact q.elim
open SeqAt in
theorem V9{s:Shared}{A:Around}{d e:D}{u v:Value}(k:deep d<=40)(n:A.units+64<cLine)(p:Vl s.heap d u)(q:Vl s.heap e v):RcAt A s u v (pY d e):=by
 cases d with
 | b9=>
  unfold Vl at p;subst p;cases e <;> unfold Vl at q
  ·subst q;exact RcAt.none_none
  ·subst q;exact RcAt.none_bool _
  ·obtain⟨t,rfl⟩:=q;exact RcAt.none_int _ _
  ·obtain⟨t,rfl⟩:=q;exact RcAt.none_str _ _
  ·exact q.elim
  ·obtain⟨a,us,rfl,ht,_⟩:=q;exact RcAt.none_tuple ht (by lia)
  ·obtain⟨a,us,rfl,ht,_⟩:=q;exact RcAt.none_list ht (by lia)
  ·exact q.elim
 | bl x=>
  unfold Vl at p;subst p;cases e <;> unfold Vl at q
  ·subst q;exact RcAt.bool_none _
  ·subst q;exact RcAt.bool_bool _ _
  ·obtain⟨t,rfl⟩:=q;exact RcAt.bool_int _ _ _
  ·obtain⟨t,rfl⟩:=q;exact RcAt.bool_str _ _ _
  ·exact q.elim
  ·obtain⟨a,us,rfl,ht,_⟩:=q;exact RcAt.bool_tuple _ ht (by lia)
  ·obtain⟨a,us,rfl,ht,_⟩:=q;exact RcAt.bool_list _ ht (by lia)
  ·exact q.elim
 | int x=>
  unfold Vl at p;obtain⟨m,rfl⟩:=p;cases e <;> unfold Vl at q
  ·subst q;exact RcAt.int_none _ _
  ·subst q;exact RcAt.int_bool _ _ _
  ·obtain⟨t,rfl⟩:=q;exact RcAt.int_int _ _ _ _
  ·obtain⟨t,rfl⟩:=q;exact RcAt.int_str _ _ _ _
  ·exact q.elim
  ·obtain⟨a,us,rfl,ht,_⟩:=q;exact RcAt.int_tuple _ _ ht (by lia)
  ·obtain⟨a,us,rfl,ht,_⟩:=q;exact RcAt.int_list _ _ ht (by lia)
  ·exact q.elim
 | str x=>
  unfold Vl at p;obtain⟨m,rfl⟩:=p;cases e <;> unfold Vl at q
  ·subst q;exact RcAt.str_none _ _
  ·subst q;exact RcAt.str_bool _ _ _
  ·obtain⟨t,rfl⟩:=q;exact RcAt.str_int _ _ _ _
  ·obtain⟨t,rfl⟩:=q;exact RcAt.str_str _ _ _ _
  ·exact q.elim
  ·obtain⟨a,us,rfl,ht,_⟩:=q;exact RcAt.str_tuple _ _ ht (by lia)
  ·obtain⟨a,us,rfl,ht,_⟩:=q;exact RcAt.str_list _ _ ht (by lia)
  ·exact q.elim
 | ty x=>unfold Vl at p;exact p.elim
 | ref x=>unfold Vl at p;exact p.elim
 | tup as=>
  unfold Vl at p;obtain⟨a,us,rfl,ht,l⟩:=p
  cases e with
  | tup bs=>
   unfold Vl at q;obtain⟨b,i,rfl,c,f⟩:=q;have r:=RcAt.tuples (e:=λj=>pY (as.getD j .b9) (bs.getD j .b9)) ht c (by lia) (λj g h=>oD 40 (A:=A.in1) (aHm (eT as j) (by simp[deep]at k;lia)) (by show A.units+1+40+1<_;lia) (c9 l (by simp at g;simp[g])) (c9 f (by simp at h;simp[h])));show RcAt A s _ _ (fO as bs);rw[cI,<-bH l,<-bH f];simpa using r
  | fl bs=>unfold Vl at q;obtain⟨b,i,rfl,c,f⟩:=q;exact RcAt.tuple_list ht c (by lia)
  | b9=>unfold Vl at q;subst q;exact RcAt.tuple_none ht (by lia)
  | bl x=>unfold Vl at q;subst q;exact RcAt.tuple_bool _ ht (by lia)
  | int x=>unfold Vl at q;obtain⟨t,rfl⟩:=q;exact RcAt.tuple_int _ _ ht (by lia)
  | str x=>unfold Vl at q;obtain⟨t,rfl⟩:=q;exact RcAt.tuple_str _ _ ht (by lia)
  | ty x=>unfold Vl at q;exact q.elim
  | ref x=>unfold Vl at q;exact q.elim
 | fl as=>
  unfold Vl at p;obtain⟨a,us,rfl,ht,l⟩:=p
  cases e with
  | fl bs=>
   unfold Vl at q;obtain⟨b,i,rfl,c,f⟩:=q;show RcAt A s _ _ (fO as bs);by_cases hsz:us.length=i.length
   ·have r:=RcAt.lists (e:=λj=>pY (as.getD j .b9) (bs.getD j .b9)) ht c (by simpa using hsz) (by lia) (λj g h=>oD 40 (A:=A.in1) (aHm (eT as j) (by simp[deep]at k;lia)) (by show A.units+1+40+1<_;lia) (c9 l (by simp at g;simp[g])) (c9 f (by simp at h;simp[h])));rw[cI,<-bH l,<-bH f,<-hsz,Nat.min_self,beq_self_eq_true,Bool.and_true];simpa using r
   ·have r:=RcAt.lists_lengths (A:=A) ht c (by simpa using hsz) (by lia);rw[cI,<-bH l,<-bH f,beq_eq_false_iff_ne.mpr hsz,Bool.and_false];exact r
  | tup bs=>unfold Vl at q;obtain⟨b,i,rfl,c,f⟩:=q;exact RcAt.list_tuple ht c (by lia)
  | b9=>unfold Vl at q;subst q;exact RcAt.list_none ht (by lia)
  | bl x=>unfold Vl at q;subst q;exact RcAt.list_bool _ ht (by lia)
  | int x=>unfold Vl at q;obtain⟨t,rfl⟩:=q;exact RcAt.list_int _ _ ht (by lia)
  | str x=>unfold Vl at q;obtain⟨t,rfl⟩:=q;exact RcAt.list_str _ _ ht (by lia)
  | ty x=>unfold Vl at q;exact q.elim
  | ref x=>unfold Vl at q;exact q.elim
open SeqAt in
theorem MC{s:Shared}{A:Around}{d e:D}{u v:Value}(k:deep d<=40)(n:A.units+64<cLine)(p:Vl s.heap d u)(q:Vl s.heap e v):RcNeAt A s u v (!pY d e):=by
 cases d with
 | b9=>
  unfold Vl at p;subst p;cases e <;> unfold Vl at q
  ·subst q;exact RcNeAt.none_none
  ·subst q;exact RcNeAt.none_bool _
  ·obtain⟨t,rfl⟩:=q;exact RcNeAt.none_int _ _
  ·obtain⟨t,rfl⟩:=q;exact RcNeAt.none_str _ _
  ·exact q.elim
  ·obtain⟨a,us,rfl,ht,_⟩:=q;exact RcNeAt.none_tuple ht (by lia)
  ·obtain⟨a,us,rfl,ht,_⟩:=q;exact RcNeAt.none_list ht (by lia)
  ·exact q.elim
 | bl x=>
  unfold Vl at p;subst p;cases e <;> unfold Vl at q
  ·subst q;exact RcNeAt.bool_none _
  ·subst q;exact RcNeAt.bool_bool _ _
  ·obtain⟨t,rfl⟩:=q;exact RcNeAt.bool_int _ _ _
  ·obtain⟨t,rfl⟩:=q;exact RcNeAt.bool_str _ _ _
  ·exact q.elim
  ·obtain⟨a,us,rfl,ht,_⟩:=q;exact RcNeAt.bool_tuple _ ht (by lia)
  ·obtain⟨a,us,rfl,ht,_⟩:=q;exact RcNeAt.bool_list _ ht (by lia)
  ·exact q.elim
 | int x=>
  unfold Vl at p;obtain⟨m,rfl⟩:=p;cases e <;> unfold Vl at q
  ·subst q;exact RcNeAt.int_none _ _
  ·subst q;exact RcNeAt.int_bool _ _ _
  ·obtain⟨t,rfl⟩:=q;exact RcNeAt.int_int _ _ _ _
  ·obtain⟨t,rfl⟩:=q;exact RcNeAt.int_str _ _ _ _
  ·exact q.elim
  ·obtain⟨a,us,rfl,ht,_⟩:=q;exact RcNeAt.int_tuple _ _ ht (by lia)
  ·obtain⟨a,us,rfl,ht,_⟩:=q;exact RcNeAt.int_list _ _ ht (by lia)
  ·exact q.elim
 | str x=>
  unfold Vl at p;obtain⟨m,rfl⟩:=p;cases e <;> unfold Vl at q
  ·subst q;exact RcNeAt.str_none _ _
  ·subst q;exact RcNeAt.str_bool _ _ _
  ·obtain⟨t,rfl⟩:=q;exact RcNeAt.str_int _ _ _ _
  ·obtain⟨t,rfl⟩:=q;exact RcNeAt.str_str _ _ _ _
  ·exact q.elim
  ·obtain⟨a,us,rfl,ht,_⟩:=q;exact RcNeAt.str_tuple _ _ ht (by lia)
  ·obtain⟨a,us,rfl,ht,_⟩:=q;exact RcNeAt.str_list _ _ ht (by lia)
  ·exact q.elim
 | ty x=>unfold Vl at p;exact p.elim
 | ref x=>unfold Vl at p;exact p.elim
 | tup as=>
  unfold Vl at p;obtain⟨a,us,rfl,ht,l⟩:=p
  cases e with
  | tup bs=>
   unfold Vl at q;obtain⟨b,i,rfl,c,f⟩:=q;have r:=RcNeAt.tuples (e:=λj=>pY (as.getD j .b9) (bs.getD j .b9)) ht c (by lia) (λj g h=>oD 40 (A:=A.in1) (aHm (eT as j) (by simp[deep]at k;lia)) (by show A.units+1+40+1<_;lia) (c9 l (by simp at g;simp[g])) (c9 f (by simp at h;simp[h])));show RcNeAt A s _ _ (!fO as bs);rw[cI,<-bH l,<-bH f];simpa using r
  | fl bs=>unfold Vl at q;obtain⟨b,i,rfl,c,f⟩:=q;exact RcNeAt.tuple_list ht c (by lia)
  | b9=>unfold Vl at q;subst q;exact RcNeAt.tuple_none ht (by lia)
  | bl x=>unfold Vl at q;subst q;exact RcNeAt.tuple_bool _ ht (by lia)
  | int x=>unfold Vl at q;obtain⟨t,rfl⟩:=q;exact RcNeAt.tuple_int _ _ ht (by lia)
  | str x=>unfold Vl at q;obtain⟨t,rfl⟩:=q;exact RcNeAt.tuple_str _ _ ht (by lia)
  | ty x=>unfold Vl at q;exact q.elim
  | ref x=>unfold Vl at q;exact q.elim
 | fl as=>
  unfold Vl at p;obtain⟨a,us,rfl,ht,l⟩:=p
  cases e with
  | fl bs=>
   unfold Vl at q;obtain⟨b,i,rfl,c,f⟩:=q;show RcNeAt A s _ _ (!fO as bs);by_cases hsz:us.length=i.length
   ·have r:=RcNeAt.lists (e:=λj=>pY (as.getD j .b9) (bs.getD j .b9)) ht c (by simpa using hsz) (by lia) (λj g h=>oD 40 (A:=A.in1) (aHm (eT as j) (by simp[deep]at k;lia)) (by show A.units+1+40+1<_;lia) (c9 l (by simp at g;simp[g])) (c9 f (by simp at h;simp[h])));rw[cI,<-bH l,<-bH f,<-hsz,Nat.min_self,beq_self_eq_true,Bool.and_true];simpa using r
   ·have r:=RcNeAt.lists_lengths (A:=A) ht c (by simpa using hsz) (by lia);rw[cI,<-bH l,<-bH f,beq_eq_false_iff_ne.mpr hsz,Bool.and_false];exact r
  | tup bs=>unfold Vl at q;obtain⟨b,i,rfl,c,f⟩:=q;exact RcNeAt.list_tuple ht c (by lia)
  | b9=>unfold Vl at q;subst q;exact RcNeAt.list_none ht (by lia)
  | bl x=>unfold Vl at q;subst q;exact RcNeAt.list_bool _ ht (by lia)
  | int x=>unfold Vl at q;obtain⟨t,rfl⟩:=q;exact RcNeAt.list_int _ _ ht (by lia)
  | str x=>unfold Vl at q;obtain⟨t,rfl⟩:=q;exact RcNeAt.list_str _ _ ht (by lia)
  | ty x=>unfold Vl at q;exact q.elim
  | ref x=>unfold Vl at q;exact q.elim
def jN(mh:MH):D->D
 | .ref n=>match mh[n]? with | some (.lst ds)=>.fl ds | _=>.ref n
 | d=>d
section
variable {X:Cx}{pins:List (Addr×Obj)}{σ:L2.St}{H:Hp}{s:Shared}{μ:List Addr}{mh:MH}
mutual
theorem UN(I:Inv X pins σ H s):∀(d:D) {v:V} {u:Value},bare d=true->Is X.K μ H d v->RelV v u->Vl s.heap d u
 | .b9,v,u,_,i,r=>by cases OB i;unfold Vl;exact r
 | .bl _,v,u,_,i,r=>by cases OD i;unfold Vl;exact r
 | .int _,v,u,_,i,r=>by cases bR i;unfold Vl;exact r
 | .str _,v,u,_,i,r=>by cases eR i;unfold Vl;exact r
 | .ty _,v,u,b,i,r=>by simp[bare]at b
 | .ref _,v,u,b,i,r=>by simp[bare]at b
 | .tup ds,v,u,b,i,r=>by
  obtain⟨a,vs,rfl,sq,l⟩:=dX i;have c :u=Value.ref a:=r;subst c;obtain⟨aH,e,p,_⟩:=I.tuple sq;unfold Vl;exact⟨a,aH,rfl,p,qG I ds (by simpa[bare] using b) l e⟩
 | .fl ds,v,u,b,i,r=>by
  obtain⟨a,vs,rfl,sq,l⟩:=pQ i;have c :u=Value.ref a:=r;subst c;obtain⟨aH,e,p,_⟩:=I.list sq.sq;unfold Vl;exact⟨a,aH,rfl,p.isList,qG I ds (by simpa[bare] using b) l e⟩
theorem qG(I:Inv X pins σ H s):∀(ds:List D) {vs:List V} {us:List Value},fQ ds=true->IsL X.K μ H ds vs->Vals vs us->eN s.heap ds us
 | [],vs,us,_,l,r=>by unfold IsL at l;subst l;cases r;unfold eN;rfl
 | d::ds,vs,us,b,l,r=>by
  unfold IsL at l;obtain⟨v,e,rfl,i,l⟩:=l
  cases r with
  | cons a c=>
   simp only[fQ,Bool.and_eq_true]at b;unfold eN;exact⟨_,_,rfl,UN I d b.1 i a,qG I ds b.2 l c⟩
end
theorem y4(I:Inv X pins σ H s)(R:Rep X.K μ mh H){d:D}{v:V}{u:Value}(b:bare (jN mh d)=true)(i:Is X.K μ H d v)(r:RelV v u):Vl s.heap (jN mh d) u:=by
 cases d with
 | ref n=>
  simp only[jN]at b⊢
  cases o:mh[n]? with
  | none=>rw[o]at b;simp[bare]at b
  | some ob=>
   cases ob with
   | lst ds=>
    rw[o]at b;simp only;obtain⟨a,vs,rfl,_,c,l⟩:=fM R i o;have e :u=Value.ref a:=r;subst e;obtain⟨aH,f,p,_⟩:=I.list (.of c);unfold Vl;exact⟨a,aH,rfl,p.isList,qG I ds (by simpa[bare] using b) l f⟩
   | dic t kvs=>rw[o]at b;simp[bare]at b
   | fdc t kvs ob=>rw[o]at b;simp[bare]at b
 | _=>exact UN I _ b i r
end
def oEq:O2:=λx y mh Q=>bare (jN mh x)=true/\bare (jN mh y)=true/\deep (jN mh x)<=40/\Q (.bl (pY (jN mh x) (jN mh y))) mh
def P8:O2:=λx y mh Q=>bare (jN mh x)=true/\bare (jN mh y)=true/\deep (jN mh x)<=40/\Q (.bl !pY (jN mh x) (jN mh y)) mh
section
variable {X:Cx}
theorem aC9(b:X.A.units+64<cLine):eL X (compareOp .Eq) (bT X.K oEq):=by
 intro pins s σ H x y v u Q I c d q;obtain⟨μ,mh,dx,i,R,a,e,f,⟨g,h,hd,q⟩,F⟩:=q;exact V9 hd b (y4 I a g e c) (y4 I a h f d) X.prog X.w X.xe _ ⟨.bl _,H,I,rfl,F.here a q .bl⟩
theorem aC4(b:X.A.units+64<cLine):eL X (compareOp .NotEq) (bT X.K P8):=by
 intro pins s σ H x y v u Q I c d q;obtain⟨μ,mh,dx,i,R,a,e,f,⟨g,h,hd,q⟩,F⟩:=q;exact MC hd b (y4 I a g e c) (y4 I a h f d) X.prog X.w X.xe _ ⟨.bl _,H,I,rfl,F.here a q .bl⟩
end
section
variable {prog:Program}{w:World}{A:Around}{E:aL2}{s:Shared}
open HT in
theorem mX{t sl:Addr}{items:Array Value}{e f:Value}{lo hi:Option Int}{Q:aL2}(ht:IsTup s.heap t items)(g:s.heap.IsSliceOf sl e f .none)(j:IsPart e lo)(k:IsPart f hi)
  (i:cW items.size 0 lo=0/\cW items.size items.size hi=items.size)
  (h:Q (.ref t) s):wpAny (model prog w) A (getItem (.ref t) (.ref sl)) Q E s:=by
 obtain⟨os,b,c,l⟩:=id g
 have d:s.TypeIs (.ref sl) "slice":=⟨os,b,c⟩
 unfold getItem
 try with_reducible refine aHo ?_
 first | refine aGs (aGu ?_) | skip
 refine aGs (wpAny_sequenceKey ht.typeIs (by decide) ?_)
 refine aGs (aHj (name:=Str.ofString "__getitem__") ht.typeIs aHy
  (aHe aHy ht.typeIs entry_tuple_getitem ?_ (args_tuple_getitem _ _)))
 show wpAny _ _ (Builtin.Tuple.tupleItemsOf (.ref t) >>=_) _ _ s;refine aGs (tupleItemsOf_ ht ?_);refine aGs (aIq d ?_);rw[if_pos (by decide)];refine aGs (iY g j k ?_)
 have a:((((cW items.size 0 lo:Nat):Int)==0 && (1:Int)==1 && (cW items.size items.size hi-cW items.size 0 lo)==items.size)=true):=by
  rw[i.1,i.2];simp
 show wpAny _ _ (if (((cW items.size 0 lo:Nat):Int)==0 && (1:Int)==1 && (cW items.size items.size hi-cW items.size 0 lo)==items.size)=true then _ else _) _ _ s;rw[if_pos a];have m:=ht.typeIs;refine aGs ?_
 first
  | (refine aGs (aIq m (aGu ?_));simp only[beq_self_eq_true,if_true];refine aGs (aI2 ?_);first | exact aGu (aGu ⟨_,rfl,aGu h⟩) | exact aGs (aGu (aGu ⟨_,rfl,aGu h⟩)) | exact aGs (aGu (aGu (aGu ⟨_,rfl,aGu h⟩))))
  | trace_state
end
section
variable {X:Cx}
theorem QX:SlR X (λx lo hi H Q=>∃a xs,x= .ref a/\sL X.K H a xs/\
  ((HT.cW xs.length 0 lo=0/\HT.cW xs.length xs.length hi=xs.length)->Q (.ref a) H)/\(¬(HT.cW xs.length 0 lo=0/\HT.cW xs.length xs.length hi=xs.length)->∀p,H p=none->Q (.ref p) (upd H p (.tup (AQ xs lo hi))))):=by
 intro pins s σ H x v j k lo hi sl Q I d e f g h;obtain⟨a,xs,rfl,i,l,m⟩:=h;by_cases c:HT.cW xs.length 0 lo=0/\HT.cW xs.length xs.length hi=xs.length
 ·cases d;obtain⟨aH,r,ht,hz⟩:=I.tuple i;have b:aH.toArray.size=xs.length:=by rw[List.size_toArray];exact r.length.symm
  exact⟨"tuple",_,aHy.lookup,ht.typeIs,mX ht e f g (by rw[b];exact c) ⟨.ref a,H,I,rfl,l c⟩⟩
 ·exact V3 pins s σ H _ v j k lo hi sl Q I d e f g ⟨a,xs,rfl,i,c,m c⟩
def cutD(xs:List D)(lo hi:Option Int):List D:=(xs.drop (HT.cW xs.length 0 lo)).take (HT.cW xs.length xs.length hi-HT.cW xs.length 0 lo)
abbrev OS:=D->Option Int->Option Int->MH->DK->Prop
def U0(K:aL1)(f:OS):V->Option Int->Option Int->Hp->VK->Prop:=λx lo hi H Q=>∃μ mh dx R,Rep K μ mh H/\Is K μ H dx x/\f dx lo hi mh R/\Fin K μ H R Q
def oSl:OS:=λx lo hi mh Q=>match x with
 | .tup ds=>Q (.tup (cutD ds lo hi)) mh
 | _=>∃ds,mW mh x=some ds/\Q (.ref mh.length) (mh++[.lst (cutD ds lo hi)])
theorem HW{μ:List Addr}{ds:List D}{vs:List V}(l:IsL K μ H ds vs)(lo hi:Option Int):IsL K μ H (cutD ds lo hi) (AQ vs lo hi):=by
 unfold cutD AQ;rw[aK l];exact C8 _ (DA _ l)
theorem sll:SlR X (U0 X.K oSl):=by
 intro pins s σ H x v f g lo hi sl Q I h i j k q;obtain⟨μ,mh,dx,R,c,d,q,F⟩:=q
 have go:(∃ds,mW mh dx=some ds/\R (.ref mh.length) (mh++[.lst (cutD ds lo hi)]))->∃T id,typeLookup (.type T) "__getitem__"=pure (some (.builtin id))/\s.TypeIs v T/\wpAny (model X.prog X.w) X.A (getItem v (.ref sl)) (EP X pins σ Q) X.xe s:=λb=>by
  obtain⟨ds,e,q⟩:=b;obtain⟨a,vs,rfl,sq,l⟩:=u6 c d e;exact QY pins s σ H _ v f g lo hi sl Q I h i j k ⟨a,vs,rfl,sq,iE c F (HW l lo hi) q⟩
 cases dx with
 | tup ds=>
  obtain⟨a,vs,rfl,sq,l⟩:=dX d;refine QX pins s σ H _ v f g lo hi sl Q I h i j k ⟨a,vs,rfl,sq,λm=>?_,λ_=>mN c F (HW l lo hi) q⟩
  have e:cutD ds lo hi=ds:=by
   unfold cutD;rw[<-aK l,m.1,m.2,aK l];simp
  have n :R (.tup (cutD ds lo hi)) mh:=q;rw[e]at n;exact F.here c n d
 | _=>exact go q
abbrev WO:=d7->MH->(Option Int->MH->Prop)->Prop
def tLO(K:aL1)(w:WO):TO:=λσ H Q=>∃μ a mh R,Rep K μ mh H/\cL K μ H a σ/\w a mh R/\∀o mh',R o mh' ->∀μ' H',aI μ H μ' H' ->Rep K μ' mh' H' ->Q o H'
def LO(X:Cx)(e:Option Expr)(w:WO):Prop:=PO X e (tLO X.K w)
def VH:WO:=λ_ mh Q=>Q none mh
def rG(w:WE):WO:=λb mh Q=>w b mh λx a=>∃i,x= .int i/\Q (some i) a
variable {e:Expr}{w:WE}{lo hi:Option Expr}{wl wh:WO}{pos p2:Pos}
theorem SM:LO X none VH:=λpins s σ H Q I q=>RI pins s σ H Q I (by
 obtain⟨μ,b,mh,R,a,E,h,F⟩:=q
 exact F none mh h μ H aI.refl a)
theorem SK(h:LE X e w):LO X (some e) (rG w):=λpins s σ H Q I q=>RH h pins s σ H Q I (by
 obtain⟨μ,d,mh,R,f,E,h,F⟩:=q;refine⟨μ,d,mh,_,f,E,h,λdx a b c m g j k l=>?_⟩;obtain⟨i,rfl,b⟩:=b
 exact⟨i,bR l,F (some i) a b c g j k⟩)
def wSl(f:OS)(w:WE)(wl wh:WO):WE:=λa mh Q=>w a mh λx b=>wl a b λl c=>wh a c λu d=>f x l u d Q
theorem NT{f:OS}(p:SlR X (U0 X.K f))(he:LE X e w)(r:LO X lo wl)(s:LO X hi wh):LE X (.Subscript e (.Slice lo hi none p2) pos) (wSl f w wl wh):=PE.imp (MP p he r s) λσ H Q q=>by
 obtain⟨μ,a,mh,R,b,E,h,F⟩:=q;refine⟨μ,a,mh,_,b,E,h,λdx c t d v B g n x=>⟨d,a,c,_,n,E.mono b g,t,λl i y j C P2 R2=>⟨j,a,i,_,R2,E.mono b (g.trans P2),y,λu k z m D o A=>?_⟩⟩⟩;exact⟨m,k,dx,R,A,Is.mono n (P2.trans o) dx v x,z,F.at ((g.trans P2).trans o)⟩
abbrev OM:=D->List D->MH->DK->Prop
def liftM(K:aL1)(f:OM):V->List V->Hp->VK->Prop:=λx xs H Q=>∃μ mh dx ds R,Rep K μ mh H/\Is K μ H dx x/\IsL K μ H ds xs/\f dx ds mh R/\Fin K μ H R Q
def sI(mh:MH)(T:String):D->Prop
 | .str _=>T= "str"
 | .int _=>T= "int"
 | .ref n=>T= "list"/\∃ds,mh[n]? =some (.lst ds)
 | .fl _=>T= "list"
 | .tup _=>T= "tuple"
 | _=>False
theorem YN{μ:List Addr}{mh:MH}{T:String}{d:D}{v:V}(b:Rep K μ mh H)(i:Is K μ H d v)(k:sI mh T d):tyV K T v H:=by
 cases d with
 | str z=>cases eR i;exact k
 | int z=>cases bR i;exact k
 | ref n=>obtain⟨e,ds,o⟩:=k;obtain⟨a,vs,rfl,_,c,_⟩:=fM b i o;exact .inl ⟨e,vs,.of c⟩
 | fl ds=>obtain⟨a,vs,rfl,sq,_⟩:=pQ i;exact .inl ⟨k,vs,sq.sq⟩
 | tup ds=>obtain⟨a,vs,rfl,sq,_⟩:=dX i;exact .inr (.inl ⟨k,vs,sq⟩)
 | _=>exact False.elim k
variable {o:Expr}{es:List Expr}{wo:WE}{wa:WA}{name:Str}{apos cD:Pos}{T id:String}
def EF(T:String)(f:OM)(wo:WE)(wa:WA):WE:=λc mh Q=>wo c mh λx a=>sI a T x/\wa c a λds b=>f x ds b Q
theorem U3{f:OM}(pa:PlainAttrs T)(slot:Slot T name id)(g:typeOf (.builtin id)=pure (.type "method_descriptor"))(u:MtR X id (liftM X.K f))(ho:LE X o wo)(ha:LA X (e::es) wa)
  (b:attributeBase o name X.env (eval o X.env)=eval o X.env:=by rfl)
  (d:((backTo cD (starEach (e::es) X.env)).all (λx=>!x.1) && (backToKw cD (keywordEach [] X.env)).all (λx=>x.1.isSome)
   && decide ((e::es).length+([]:List Keyword).length+(if ([]:List Keyword).isEmpty then 0 else 1)<30))=true:=by rfl)
  (c:(apos.endLine==cD.line)=true:=by rfl) (v:starEach (e::es) X.env=(false,eval e X.env)::starEach es X.env:=by rfl) (a:(backTo cD (starEach es X.env)).any (·.1)=false:=by rfl):
  LE X (.Call (.Attribute o name apos) (e::es) [] cD) (EF T f wo wa):=PE.imp (aBy pa slot g u ho ha b d c v a) λσ H Q q=>by
 obtain⟨μ,n,mh,R,p,E,h,F⟩:=q;refine⟨μ,n,mh,_,p,E,h,λdx i r j w A s k t=>⟨YN k t r.1,j,n,i,_,k,E.mono p s,r.2,λds l y m vs B P2 R2 z=>?_⟩⟩;exact⟨m,l,dx,ds,R,R2,Is.mono k P2 dx w t,z,y,F.at (s.trans P2)⟩
def cP:OM:=λx ds mh Q=>∃n es d,x= .ref n/\ds=[d]/\mh[n]? =some (.lst es)/\es.length<sizeLine/\Q .b9 (mh.set n (.lst (es++[d])))
theorem JN:MtR X "list.append" (liftM X.K cP):=by
 intro pins s σ H x xs v us Q I c rs q;obtain⟨μ,mh,dx,ds,R,b,f,g,⟨n,es,d,rfl,rfl,e,hz,q⟩,F⟩:=q;obtain⟨a,vs,rfl,h,i,l⟩:=fM b f e;obtain⟨z,rfl,j⟩:=nP g;exact xU pins s σ H _ _ v us Q I c rs ⟨a,vs,z,rfl,rfl,i,by rw[aK l];exact hz,F.put b h (e8 l (mM j)) q .b9⟩
end
structure d6 where
 nx:d7->MH->Prop
 rt:DK
 bk:d7->MH->Prop:=λ_ _=>False
 ct:d7->MH->Prop:=λ_ _=>False
abbrev WS:=d6->d7->MH->Prop
def GL(K:aL1)(μ:List Addr)(H:Hp)(R:d7->MH->Prop)(Q:L2.St->Hp->Prop):Prop:=
 ∀a mh',R a mh' ->∀μ' b H',aI μ H μ' H' ->Rep K μ' mh' H' ->cL K μ' H' a b ->Q b H'
structure A6(K:aL1)(μ:List Addr)(H:Hp)(E:d6)(D:Ends):Prop where
 nx:GL K μ H E.nx D.nx
 rt:Fin K μ H E.rt D.rt
 bk:GL K μ H E.bk D.bk
 ct:GL K μ H E.ct D.ct
def tLS(K:aL1)(w:WS):TS:=λD σ H=>∃μ a mh E,Rep K μ mh H/\cL K μ H a σ/\w E a mh/\A6 K μ H E D
def LS(X:Cx)(st:Stmt)(w:WS):Prop:=PS X st (tLS X.K w)
def kI(X:Cx)(st:List Stmt)(w:WS):Prop:=A5 X st (tLS X.K w)
theorem PS.imp{e:Stmt}{t t' :TS}(h:PS X e t)(i:∀D σ H,t' D σ H->t D σ H):PS X e t' :=λpins s σ H D I q=>h pins s σ H D I (i D σ H q)
theorem A5.imp{e:List Stmt}{t t' :TS}(h:A5 X e t)(i:∀D σ H,t' D σ H->t D σ H):A5 X e t' :=λpins s σ H D I q=>h pins s σ H D I (i D σ H q)
section
variable {K:aL1}{μ μ1:List Addr}{H H1:Hp}
theorem GL.at{R:d7->MH->Prop}{Q:L2.St->Hp->Prop}(F:GL K μ H R Q)(P:aI μ H μ1 H1):GL K μ1 H1 R Q:=λa mh' r μ' b H' c d I=>F a mh' r μ' b H' (P.trans c) d I
theorem A6.at{E:d6}{D:Ends}(F:A6 K μ H E D)(P:aI μ H μ1 H1):A6 K μ1 H1 E D:=⟨F.nx.at P,F.rt.at P,F.bk.at P,F.ct.at P⟩
theorem cL.set{c:d7}{σ:L2.St}{d:D}{v:V}(E:cL K μ H c σ)(i:Nat)(h:Is K μ H d v):cL K μ H (c.set i (some d)) (σ.set i (some v)):=by
 refine⟨by simp[E.1],λj e b=>?_⟩;by_cases a:j=i
 ·subst a
  have f:j<c.length:=by
   have:=(aGt.mp b).1;simpa using this
  rw[List.getElem?_set_self f]at b;cases b;exact⟨v,by rw[List.getElem?_set_self (by rw[<-E.1];exact f)],h⟩
 ·rw[List.getElem?_set_ne (Ne.symm a)]at b;obtain⟨u,g,k⟩:=E.2 j e b;exact⟨u,by rw[List.getElem?_set_ne (Ne.symm a)];exact g,k⟩
end
def dE:WS:=λE a mh=>E.nx a mh
def aW(t u:WS):WS:=λE a mh=>t {E with nx:=u E} a mh
def VI:WS:=λE a mh=>E.ct a mh
def fB(w:WE):WS:=λE b mh=>w b mh λ_ a=>E.nx b a
def c5(w:WE):WS:=λE a mh=>w a mh E.rt
def fK(t:WT)(a b:WS):WS:=λE e mh=>t e mh λc d=>if c=true then a E e d else b E e d
section
variable {X:Cx}{st:Stmt}{rest a b:List Stmt}{t u:WS}{e:Expr}{w:WE}{wt:WT}{pos:Pos}
theorem X2:kI X [] dE:=A5.imp RD λD σ H a=>by obtain⟨μ,b,mh,E,R,En,h,F⟩:=a;exact F.nx b mh h μ σ H aI.refl R En
theorem SJ(d:LS X st t)(e:kI X rest u):kI X (st::rest) (aW t u):=A5.imp (MF d e) λD σ H a=>by
 obtain⟨μ,f,mh,E,R,En,h,F⟩:=a;exact⟨μ,f,mh,_,R,En,h,⟨λb mh' q μ' g H' i j c =>⟨μ',b,mh',E,j,c,q,F.at i⟩,F.rt,F.bk,F.ct⟩⟩
theorem X1(a:LS X st t):kI X [st] t:=RC a
theorem CO:LS X (.Continue pos) VI:=PS.imp B7 λD σ H a=>by obtain⟨μ,b,mh,E,R,En,h,F⟩:=a;exact F.ct b mh h μ σ H aI.refl R En
theorem SH(he:LE X e w)(g:swapsWith e none pos.line X.env=pure false:=by rfl):LS X (.Expr e pos) (fB w):=PS.imp (RE he g) λD σ H ⟨μ,c,mh,E,R,En,h,F⟩=>
 ⟨μ,c,mh,_,R,En,h,λd a q b v i f j k=>F.nx c a q b σ i f j (En.mono R f)⟩
theorem X0(he:LE X e w):LS X (.Return (some e) pos) (c5 w):=PS.imp (WJ he) λD σ H a=>by obtain⟨μ,b,mh,E,R,En,h,F⟩:=a;exact⟨μ,b,mh,_,R,En,h,F.rt⟩
theorem aCd{c:Expr}(l:LT X c wt)(ha:kI X a t)(hb:kI X b u):LS X (.If c a b pos) (fK wt t u):=PS.imp (aBs l ha hb) λD σ H g=>by
 obtain⟨μ,i,mh,E,R,En,h,F⟩:=g;refine⟨μ,i,mh,_,R,En,h,λk d q e m f j=>?_⟩
 cases k with
 | true=>rw[if_pos rfl]at q⊢;exact⟨e,i,d,E,j,En.mono R f,q,F.at f⟩
 | false=>rw[if_neg Bool.false_ne_true]at q⊢;exact⟨e,i,d,E,j,En.mono R f,q,F.at f⟩
abbrev WG:=D->d7->(d7->Prop)->Prop
abbrev UC:=List D->d7->(d7->Prop)->Prop
def vZ(K:aL1)(g:TG)(e:WG):Prop:=∀v σ H Q μ c mh d R,Rep K μ mh H->cL K μ H c σ->Is K μ H d v->e d c R->(∀a,R a ->∀b,cL K μ H a b ->Q b H)->g v σ H Q
def yV(K:aL1)(g:IP)(d:UC):Prop:=∀vs σ H Q μ c mh ds R,Rep K μ mh H->cL K μ H c σ->IsL K μ H ds vs->d ds c R->(∀a,R a ->∀b,cL K μ H a b ->Q b H)->g vs σ H Q
def gN(i:Nat):WG:=λd a Q=>Q (a.set i (some d))
def dZ:UC:=λds a Q=>ds=[]/\Q a
def aQ(t:WG)(u:UC):UC:=λds b Q=>∃d r,ds=d::r/\t d b λa =>u r a Q
def gT(n:Nat)(u:UC):WG:=λd a Q=>∃ds,d= .tup ds/\ds.length=n/\u ds a Q
theorem HY(i:Nat):vZ K (vG i) (gN i):=λv σ H Q μ a mh d R b En I h F=>F _ h _ (En.set i I)
theorem TK:yV K OY dZ:=λvs σ H Q μ a mh ds R b En I h F=>by
 obtain⟨rfl,h⟩:=h;unfold IsL at I;exact⟨I,F a h σ En⟩
theorem OV{g:TG}{f:IP}{i:WG}{a:UC}(l:vZ K g i)(m:yV K f a):yV K (DF g f) (aQ i a):=λvs σ H Q μ n mh ds R j En I h F=>by
 obtain⟨d,r,rfl,h⟩:=h;unfold IsL at I;obtain⟨v,k,rfl,o,p⟩:=I;exact⟨v,k,rfl,l v σ H _ μ n mh d _ j En o h λb q c e =>m k c H Q μ b mh r R j e p q F⟩
theorem ZE{n:Nat}{c:IP}{b:UC}(h:yV K c b):vZ K (ZH K n c) (gT n b):=λv σ H Q μ e mh d R f En I q F=>by
 obtain⟨ds,rfl,g,q⟩:=q;obtain⟨a,vs,rfl,sq,l⟩:=dX I;exact⟨a,vs,rfl,sq,by rw[aK l];exact g,h vs σ H Q μ e mh ds R f En l q F⟩
def bZ(w:WE)(g:WG):WS:=λE c mh=>w c mh λd a=>g d c λb =>E.nx b a
theorem PX{g:TG}{i:WG}{D:Ends}{σ:L2.St}(n:vZ K g i)(h:tLS K (bZ w i) D σ H):VY (tL K w) g D σ H:=by
 obtain⟨μ,j,mh,E,R,En,h,F⟩:=h;refine⟨μ,j,mh,_,R,En,h,λd a q b v k l m o=>?_⟩;exact n v σ k _ b j a d _ m (En.mono R l) o q λc p e f =>F.nx c a p b e k l m f
theorem XZ(i:Nat){x:Str}{a :Pos}(hN:X.N.Nodup)(he:LE X e w)(hi:X.N[i]? =some x:=by rfl)(b:Loc X.env.scope x:=by first | exact Or.inl rfl | exact Or.inr rfl)(c:swapsWith e (some (.Name x a)) pos.line X.env=pure false:=by rfl)(d:X.fn x=true\/X.env.scope.names.lookup x=some .local:=by first | exact .inl rfl | exact .inr rfl | assumption):
  LS X (.Assign [.Name x a] e pos) (bZ w (gN i)):=PS.imp (WH hN hi b he c d) λD σ H h=>PX (HY i) h
theorem X5{tg:Expr}{g:TG}{a:WG}(he:LE X e w)(hg:PG X tg g)(b:vZ X.K g a)(c:swapsWithSole [tg] e pos.line X.env=pure false:=by rfl)(d:swappedStores [tg] e X.env=pure none:=by rfl)
  (f:(assignEach [tg] X.env).map (·.2)=[assign tg X.env]:=by rfl):LS X (.Assign [tg] e pos) (bZ w a):=PS.imp (MI he hg c d f) λD σ H h=>PX b h
def QZ:D->D->D->MH->(MH->Prop)->Prop:=λo i d mh Q=>∃n ds k j,o= .ref n/\i= .int k/\mh[n]? =some (.lst ds)/\FO ds.length k=some j/\Q (mh.set n (.lst (ds.set j d)))
def rF(w g wi:WE):WS:=λE a mh=>w a mh λd b=>g a b λo c=>wi a c λi e=>QZ o i d e λf=>E.nx a f
theorem SD{o i:Expr}{y wi:WE}{b:Pos}(he:LE X e w)(ho:LE X o y)(hi:LE X i wi)
  (ha:∀v,assign (.Subscript o i b) X.env v=(do
   let ov<-holding [v] (eval o X.env)
   let iv<-holding [v,ov] (eval i X.env)
   standAt b
   holding [v,ov,iv] (setItem ov iv v)
   release [v,ov,iv] []):=by intro _;rfl)
  (C:swapsWithSole [.Subscript o i b] e pos.line X.env=pure false:=by rfl) (G:swappedStores [.Subscript o i b] e X.env=pure none:=by rfl)
  (I:(assignEach [.Subscript o i b] X.env).map (·.2)=[assign (.Subscript o i b) X.env]:=by rfl):LS X (.Assign [.Subscript o i b] e pos) (rF w y wi):=
 PS.imp (MI he (WQ ho hi set_list ha) C G I) λD σ H h=>by
  obtain⟨μ,g,mh,E,R,En,h,F⟩:=h;refine⟨μ,g,mh,_,R,En,h,λd m q p v Y r z J=>?_⟩;refine⟨p,g,m,_,z,En.mono R r,q,λK s L t Z H2 P2 R2 M=>?_⟩;refine⟨t,g,s,_,R2,En.mono R (r.trans P2),L,λdi N O c vi A u x P=>?_⟩;obtain⟨n,ds,k,j,rfl,rfl,Q,S,T⟩:=O;obtain⟨a,vs,rfl,B,U,l⟩:=fM x (Is.mono R2 u _ _ M) Q;cases bR P;have V:=Is.mono z (P2.trans u) d v J;have W:aI c A c (upd A a (.lst (vs.set j v))):=aI.set x B;have R4:=x.set B (HV j V l);have f:=((r.trans P2).trans u).trans W;exact⟨a,vs,k,j,rfl,rfl,U,by rw[aK l];exact S,F.nx g _ T c σ _ f R4 (En.mono R f)⟩
def EK(t:WT)(b:WS):WS:=λE a mh=>∃W:Nat->d7->MH->Prop,(∃m,W m a mh)/\∀m a mh,W m a mh->∃N:d7->MH->Prop,(∀d mh',N d mh' ->∃f,f<m/\W f d mh')/\
 t a mh λc e=>if c=true then b {E with nx:=N,ct:=N,bk:=E.nx} a e else E.nx a e
theorem NR{c:Expr}{body:List Stmt}(z:PassesOwn (model X.prog X.w) X.A X.env X.xe)(B:LT X c wt)(hb:kI X body t):LS X (.While c body [] pos) (EK wt t):=PS.imp (MG z B hb) λD σ H h=>by
 obtain⟨μ,C,mh,E,R,En,⟨W,⟨m,G⟩,o⟩,F⟩:=h;refine⟨λm j H' =>∃μ' e mh',aI μ H μ' H' /\Rep X.K μ' mh' H' /\cL X.K μ' H' e j /\W m e mh',⟨m,μ,C,mh,aI.refl,R,En,G⟩,?_⟩;rintro m j H' ⟨μ',e,mh',x,v,l,I⟩;obtain⟨N,hN,tt⟩:=o m e mh' I;refine⟨μ',e,mh',_,v,l,tt,λk p q r J u y=>?_⟩
 cases k with
 | false=>rw[if_neg Bool.false_ne_true]at q⊢;exact F.nx e p q r j J (x.trans u) y (l.mono v u)
 | true=>
  rw[if_pos rfl]at q⊢;refine⟨λg n=>∃a b d,aI μ H a n/\Rep X.K a d n/\cL X.K a n b g/\N b d,?_,?_⟩
  ·rintro g n ⟨a,b,d,P2,R2,f,s⟩;obtain⟨L,M,O⟩:=hN b d s;exact⟨L,M,a,b,d,P2,R2,f,O⟩
  ·have i:=x.trans u;exact⟨r,e,p,_,y,l.mono v u,q,⟨λb d s a g n P2 R2 f=>⟨a,b,d,i.trans P2,R2,f,s⟩,F.rt.at i,F.nx.at i,λb d s a g n P2 R2 f=>⟨a,b,d,i.trans P2,R2,f,s⟩⟩⟩
def nX(t:WT)(b:WS)(E:d6):Nat->d7->MH->Prop
 | 0,_,_=>False
 | n+1,ρ,mh=>t ρ mh λc a=>if c=true then b {E with nx:=nX t b E n,ct:=nX t b E n,bk:=E.nx} ρ a else E.nx ρ a
theorem EJ{t:WT}{b:WS}{E:d6}{a:d7}{mh:MH}(n:Nat)(h:nX t b E n a mh):EK t b E a mh:=by
 refine⟨λm a mh=>nX t b E m a mh,⟨n,h⟩,λm a mh c=>?_⟩
 cases m with
 | zero=>exact c.elim
 | succ m=>exact⟨nX t b E m,λd mh' q=>⟨m,aIl _,q⟩,c⟩
abbrev WI:=d7->MH->(List D->(MH->Prop)->MH->Prop)->Prop
structure j9(μ:List Addr)(H:Hp)(μ' :List Addr)(H' :Hp):Prop where
 pre:∃t,μ' =μ++t
 fr:∀b o,H b=some o->¬Own (some o)->H' b=some o
section
variable {K:aL1}{μ μ' :List Addr}{mh:MH}{H H' :Hp}
theorem aI.weak(R:Rep K μ mh H)(P:aI μ H μ' H'):j9 μ H μ' H' :=⟨P.pre,λb o e n=>P.fr b o e λa=>n (by have:=R.mut a;rwa [e]at this)⟩
theorem j9.get(p:j9 μ H μ' H'){n:Nat}{a:Addr}(h:μ[n]? =some a):μ'[n]? =some a:=by
 obtain⟨t,rfl⟩:=p.pre;rw[List.getElem?_append_left (List.getElem?_eq_some_iff.mp h).1];exact h
theorem j9.sqT(p:j9 μ H μ' H'){a:Addr}{vs:List V}(h:KY K H a vs):KY K H' a vs:=by
 rcases h with h | h
 ·exact .inl (p.fr _ _ h id)
 ·exact .inr h
theorem j9.sqF(p:j9 μ H μ' H'){a:Addr}{vs:List V}(h:QF K H a vs):QF K H' a vs:=by
 rcases h with ⟨o,h⟩ | h
 ·exact .inl ⟨o,p.fr _ _ h id⟩
 ·exact .inr h
mutual
theorem Is.pM(p:j9 μ H μ' H'):∀(d:D) (v:V),Is K μ H d v->Is K μ' H' d v
 | .b9,v,h=>by unfold Is at*;exact h
 | .bl _,v,h=>by unfold Is at*;exact h
 | .int _,v,h=>by unfold Is at*;exact h
 | .str _,v,h=>by unfold Is at*;exact h
 | .ty _,v,h=>by unfold Is at*;exact h
 | .tup ds,v,h=>by
  unfold Is at*;obtain⟨a,vs,e,s,l⟩:=h;exact⟨a,vs,e,p.sqT s,IsL.pM p ds vs l⟩
 | .fl ds,v,h=>by
  unfold Is at*;obtain⟨a,vs,e,s,l⟩:=h;exact⟨a,vs,e,p.sqF s,IsL.pM p ds vs l⟩
 | .ref n,v,h=>by
  unfold Is at*;obtain⟨a,e,q⟩:=h;exact⟨a,p.get e,q⟩
theorem IsL.pM(p:j9 μ H μ' H'):∀(ds:List D) (vs:List V),IsL K μ H ds vs->IsL K μ' H' ds vs
 | [],vs,h=>by unfold IsL at*;exact h
 | d::ds,vs,h=>by
  unfold IsL at*;obtain⟨v,r,e,q,l⟩:=h;exact⟨v,r,e,Is.pM p d v q,IsL.pM p ds r l⟩
end
end
structure GJ(K:aL1)(μ:List Addr)(H:Hp)(ds:List D)(St:MH->Prop)(J:It):Prop where
 small:ds.length<=sizeLine
 go:∀μ' mh' H',j9 μ H μ' H' ->Rep K μ' mh' H' ->St mh' ->∀(i:Nat) d,ds[i]? =some d->J.go i H' /\∀x H'',J.yld i H' x H'' ->aI μ' H' μ' H'' /\Rep K μ' mh' H'' /\Is K μ' H'' d x
 stop:∀μ' mh' H',j9 μ H μ' H' ->Rep K μ' mh' H' ->St mh' ->J.stop ds.length H'
def tLI(K:aL1)(w:WI):TI:=λσ H R=>∃μ d mh e,Rep K μ mh H/\cL K μ H d σ/\w d mh e /\
 ∀ds St b,e ds St b->∀a J c,aI μ H a c->Rep K a b c->GJ K a c ds St J->R J c
def LI(X:Cx)(tg iter:Expr)(w:WI):Prop:=PI X tg iter (tLI X.K w)
theorem PI.imp{X:Cx}{tg e:Expr}{t t' :TI}(h:PI X tg e t)(i:∀σ H Q,t' σ H Q->t σ H Q):PI X tg e t' :=λpins s σ H Q I q=>h pins s σ H Q I (i σ H Q q)
def j7(g:WG)(b:WS)(E:d6)(St:MH->Prop):List D->d7->MH->Prop
 | [],ρ,mh=>St mh/\E.nx ρ mh
 | d::ds,ρ,mh=>St mh/\g d ρ λa=>b {E with nx:=j7 g b E St ds,ct:=j7 g b E St ds,bk:=E.nx} a mh
def gB(wi:WI)(g:WG)(b:WS):WS:=λE c mh=>wi c mh λds St a=>j7 g b E St ds c a
theorem X3{tg iter:Expr}{body:List Stmt}{wi:WI}{g:TG}{r:WG}(V:PassesOwn (model X.prog X.w) X.A X.env X.xe)(W:X.calm=true)(hi:LI X tg iter wi)(hg:PG X tg g)(Y:vZ X.K g r)(hb:kI X body t)
  (Z:∀x,foldedSetIterable iter X.env x=pure x:=by intro _;rfl):LS X (.For tg iter body [] pos) (gB wi r t):=PS.imp (WK V W hi hg hb Z) λD σ H h=>by
 obtain⟨μ,Q,mh,E,R,En,h,F⟩:=h;refine⟨μ,Q,mh,_,R,En,h,λds St C q j J G I L It=>?_⟩;refine⟨λi m k H' =>∃μ' d mh',aI j G μ' H' /\Rep X.K μ' mh' H' /\cL X.K μ' H' d k /\i<=ds.length/\m=ds.length-i/\j7 r t E St (ds.drop i) d mh',⟨ds.length,j,Q,C,aI.refl,L,En.mono R I,aI8 _,by simp,by simpa using q⟩,?_⟩;rintro i m k H' ⟨μ',d,mh',z,B,s,hi',rfl,l⟩;by_cases o:i<ds.length
 ·rw[List.drop_eq_getElem_cons o]at l;obtain⟨M,l⟩:=l;obtain⟨N,hy⟩:=It.go μ' mh' H' (z.weak L) B M i ds[i] (by simp[o]);refine .inr ⟨N,λf n=>∃a b c,aI j G a n/\Rep X.K a c n/\cL X.K a n b f/\j7 r t E St (ds.drop (i+1)) b c,?_,λx H'' y=>?_⟩
  ·rintro f n ⟨a,b,c,P2,R2,p,l2⟩;exact⟨ds.length-(i+1),by lia,a,b,c,P2,R2,p,o,rfl,l2⟩
  ·obtain⟨S,T,Iy⟩:=hy x H'' y;refine Y x k H'' _ μ' d mh' _ _ T (s.mono B S) Iy l λO q3 σ3 P=>?_;have U:=z.trans S;have u:=I.trans U
   have v:GL X.K μ' H'' (j7 r t E St (ds.drop (i+1))) (λf n=>∃a b c,aI j G a n/\Rep X.K a c n/\cL X.K a n b f/\j7 r t E St (ds.drop (i+1)) b c):=
    λb c n2 a f n P2 R2 p=>⟨a,b,c,U.trans P2,R2,p,n2⟩
   exact⟨μ',O,mh',_,T,P,q3,⟨v,F.rt.at u,F.nx.at u,v⟩⟩
 ·have e:i=ds.length:=by lia
  subst e;rw[List.drop_of_length_le (Nat.le_refl _)]at l;exact .inl ⟨It.stop μ' mh' H' (z.weak L) B l.1,F.nx d mh' l.2 μ' k H' (I.trans z) B s⟩
end
def cZ(w:WE):WI:=λb mh Q=>w b mh λx a=>∃ds,bG a x=some ds/\Q ds (λmh' =>bG mh' x=some ds) a
section
variable {K:aL1}{μ:List Addr}{mh:MH}{H:Hp}{ds:List D}{vs:List V}{a:Addr}
theorem YX{St:MH->Prop}(R:Rep K μ mh H)(s:KY K H a vs)(l:IsL K μ H ds vs)(hz:ds.length<=sizeLine):GJ K μ H ds St (Itt K a):=by
 refine⟨hz,λμ' mh' H' b c _ i d e=>?_,λμ' mh' H' b c _=>⟨vs,(b.sqT s).sq,by rw[aK l];exact aGy _⟩⟩;have f :=(b.sqT s).sq;obtain⟨v,g,h⟩:=eI (IsL.pM b ds vs l) e;refine⟨⟨vs,v,f,g⟩,λx H'' y=>?_⟩;obtain⟨rfl,y⟩:=y;have:=y vs f;rw[g]at this;cases this;exact⟨aI.refl,c,h⟩
theorem aCu{St:MH->Prop}(R:Rep K μ mh H)(s:QF K H a vs)(l:IsL K μ H ds vs)(hz:ds.length<=sizeLine):GJ K μ H ds St (Itl K a):=by
 refine⟨hz,λμ' mh' H' b c _ i d e=>?_,λμ' mh' H' b c _=>⟨vs,(b.sqF s).sq,by rw[aK l];exact aGy _⟩⟩;have f :=(b.sqF s).sq;obtain⟨v,g,h⟩:=eI (IsL.pM b ds vs l) e;refine⟨⟨vs,v,f,g⟩,λx H'' y=>?_⟩;obtain⟨rfl,y⟩:=y;have:=y vs f;rw[g]at this;cases this;exact⟨aI.refl,c,h⟩
theorem sS{mh:MH}{n:Nat}{ds:List D}(h:bG mh (.ref n)=some ds):mh[n]? =some (.lst ds):=by
 simp only[bG]at h
 cases o:mh[n]? with
 | none=>rw[o]at h;cases h
 | some ob=>cases ob with
  | lst a=>rw[o]at h;cases h;rfl
  | dic t kvs=>rw[o]at h;cases h
  | fdc t kvs ob=>rw[o]at h;cases h
theorem YZ{n:Nat}(R:Rep K μ mh H)(h:μ[n]? =some a)(hz:ds.length<=sizeLine):GJ K μ H ds (λmh' =>bG mh' (.ref n)=some ds) (Itl K a):=by
 refine⟨hz,λμ' mh' H' f b g i d e=>?_,λμ' mh' H' f b g=>?_⟩
 ·obtain⟨vs,c,l⟩:=b.obj n a _ (f.get h) (sS g);obtain⟨v,j,k⟩:=eI l e;refine⟨⟨vs,v,.of c,j⟩,λx H'' y=>?_⟩;obtain⟨rfl,y⟩:=y;have:=y vs (.of c);rw[j]at this;cases this;exact⟨aI.refl,b,k⟩
 ·obtain⟨vs,c,l⟩:=b.obj n a _ (f.get h) (sS g);exact⟨vs,.of c,by rw[aK l];exact aGy _⟩
end
section
variable {X:Cx}{tg l:Expr}{w:WE}
theorem X6(D:LE X l w):LI X tg l (cZ w):=by
 intro pins s σ H R I h;obtain⟨μ,E,mh,G,J,En,h,F⟩:=h;refine cJ (D pins s σ H (λv g=>∃c x f ds,aI μ H c g/\Rep X.K c f g/\Is X.K c g x v/\bG f x=some ds/\G ds (λmh' =>bG mh' x=some ds) f) I ⟨μ,E,mh,_,J,En,h,λd f q c v g y m i=>?_⟩) λv s1 ⟨x,g,i,B,L⟩=>?_
 ·obtain⟨ds,e,q⟩:=q;exact⟨c,d,f,ds,y,m,i,e,q⟩
 ·obtain⟨c,dx,f,ds,y,m,z,e,q⟩:=L;obtain⟨a,vs,rfl,sq,M⟩:=zC m z e;have hz:ds.length<=sizeLine:=by rw[<-aK M];exact V0 i sq
  have j:∀{vs:List V},oI X.K g a vs->GJ X.K c g ds (λmh' =>bG mh' dx=some ds) (Itl X.K a)->wpAny (model X.prog X.w) X.A (pyIter v) (PIE X pins σ tg R) X.xe s1:=λ{vs} sq It=>by
   obtain⟨aH,N,p,_⟩:=i.list sq;cases B;refine wpAny_pyIter_list p.isList ?_;refine⟨s1.heap.objs.size,[s1.heap.objs.size],_,_,g,rfl,i.kept (t' :=s1.toks) λb o e=>aGv _ e,IV a _,⟨_,aH0 _ rfl,rfl,rfl⟩,λb hb=>?_,F ds _ f q c _ g y m It⟩;have e:b=s1.heap.objs.size:=by simpa using hb
   subst e;exact i.J5 (aGy _) (i.bO.fresh (aGy _))
  cases dx with
  | tup O=>
   cases e;obtain⟨C,t,u,k,r⟩:=zZ z;cases u;obtain⟨aH,N,p,_⟩:=i.tuple k.sq;cases B;refine wpAny_pyIter_tuple (show s1.heap.IsTuple a aH.toArray from p) ?_;refine⟨s1.heap.objs.size,[s1.heap.objs.size],_,_,g,rfl,i.kept (t' :=s1.toks) λb o e=>aGv _ e,EM a _,⟨_,aH0 _ rfl,rfl,rfl⟩,λb hb=>?_,F ds _ f q c _ g y m (YX m k r hz)⟩;have e:b=s1.heap.objs.size:=by simpa using hb
   subst e;exact i.J5 (aGy _) (i.bO.fresh (aGy _))
  | fl O=>
   cases e;obtain⟨C,t,u,k,r⟩:=pQ z;cases u;exact j k.sq (aCu m k r hz)
  | ref n=>
   obtain⟨C,t,u,P,Q,r⟩:=fM m z (sS e);cases u;exact j (.of Q) (YZ m P hz)
  | _=>cases e
def uN(lo:Int)(n:Nat):List D:=(List.range n).map λ(k:Nat)=>D.int (lo+(k:Int))
theorem YY{μ:List Addr}{St:MH->Prop}{lo:Int}{n:Nat}(hz:n<=sizeLine):GJ K μ H (uN lo n) St (Itr lo n):=by
 refine⟨by simpa[uN] using hz,λμ' mh' H' b a _ i d e=>?_,λμ' mh' H' b a _=>by show n<=_;simp[uN]⟩;simp only[uN,List.getElem?_map]at e;obtain⟨k,c,rfl⟩:=aHr.mp e;obtain⟨hi,rfl⟩:=aGt.mp c;simp at hi;refine⟨hi,λx H'' y=>?_⟩;obtain⟨rfl,rfl⟩:=y;exact⟨aI.refl,a,by simp;exact .int⟩
variable {a b:Expr}{wa:WA}{p pos:Pos}
def iS(wa:WA):WI:=λb mh Q=>wa b mh λds a=>∃j,ds=[.int j]/\ -(2^62)<=j/\j<=sizeLine/\Q (uN 0 j.toNat) (λ_=>True) a
theorem JP(hg:Gl X "range")(e:X.mg "range"=none)(ha:LA X [a] wa)(d:starEach [a] X.env=[(false,eval a X.env)]:=by rfl):LI X tg (.Call (.Name "range" p) [a] [] pos) (iS wa):=
 PI.imp (JG hg e ha d) λσ H R h=>by
  obtain⟨μ,f,mh,r,g,En,h,F⟩:=h;refine⟨μ,f,mh,_,g,En,h,λds b q c vs i k l m=>?_⟩;obtain⟨j,rfl,n,s,q⟩:=q;obtain⟨v,rfl,o⟩:=nP m;cases bR o;have t:=lR;have d:sizeLine=16777216:=aHh;exact⟨j,rfl,n,by lia,F _ _ b q c _ i k l (YY (by lia))⟩
def kA:List D->List D->List D
 | a::as,b::bs=>.tup [a,b]::kA as bs
 | _,_=>[]
theorem tB:∀(as bs:List D),(kA as bs).length=min as.length bs.length
 | [],bs=>by simp[kA]
 | a::as,[]=>by simp[kA]
 | a::as,b::bs=>by simp[kA,tB as bs]
theorem BC:∀{as bs:List D} {i:Nat} {d:D},(kA as bs)[i]? =some d->∃x y,as[i]? =some x/\bs[i]? =some y/\d= .tup [x,y]
 | [],bs,i,d,h=>by simp[kA]at h
 | a::as,[],i,d,h=>by simp[kA]at h
 | a::as,b::bs,0,d,h=>by simp[kA]at h;exact⟨a,b,rfl,rfl,h.symm⟩
 | a::as,b::bs,i+1,d,h=>by simpa using BC (as:=as) (bs:=bs) (i:=i) (by simpa[kA] using h)
def BJ(wa:WA):WI:=λc mh Q=>wa c mh λxs a=>∃x y ds b,xs=[x,y]/\bG a x=some ds/\bG a y=some b/\ds.length<=sizeLine/\Q (kA ds b) (λmh' =>bG mh' x=some ds/\bG mh' y=some b) a
def OE:D->Bool | .tup _=>true | _=>false
theorem t9{μ:List Addr}{mh:MH}{d:D}{v:V}{ds:List D}(R:Rep K μ mh H)(h:Is K μ H d v)(e:bG mh d=some ds):∃a vs,v= .ref a/\IQ K H (OE d) a vs/\IsL K μ H ds vs:=by
 cases d with
 | tup b=>obtain⟨a,vs,rfl,s,l⟩:=dX h;cases e;exact⟨a,vs,rfl,s,l⟩
 | fl b=>obtain⟨a,vs,rfl,s,l⟩:=pQ h;cases e;exact⟨a,vs,rfl,s.sq,l⟩
 | ref n=>obtain⟨a,vs,rfl,_,c,l⟩:=fM R h (sS e);exact⟨a,vs,rfl,oI.of c,l⟩
 | _=>cases e
variable {e1 e2:Expr}{elts:List Expr}{x1:Nat}{tpos:Pos}
theorem SO{x1}(hg:Gl X "zip")(V:X.mg "zip"=none)(ha:LA X [e1,e2] wa)
  (he:starEach [e1,e2] X.env=(false,eval e1 X.env)::starEach [e2] X.env:=by rfl) (B:(backTo pos (starEach [e2] X.env)).any (·.1)=false:=by rfl):
  LI X (.Tuple elts x1 tpos) (.Call (.Name "zip" p) [e1,e2] [] pos) (BJ wa):=
 PI.imp (WM UJ ⟨by decide,by decide⟩ hg V ha (by decide+kernel) he B) λσ H R h=>by
  obtain⟨μ,W,mh,g,Y,En,h,F⟩:=h;refine⟨μ,W,mh,_,Y,En,h,λxs C q o vs M Z D I1=>?_⟩;obtain⟨x,y,ds,E,rfl,h1,h2,hz,q⟩:=q;obtain⟨v,u,rfl,N,O⟩:=HX I1;obtain⟨a,xs,rfl,sa,la⟩:=t9 D N h1;obtain⟨b,ys,rfl,sb,lb⟩:=t9 D O h2;refine⟨[(a,OE x),(b,OE y)],rfl,rfl,?_,F _ _ C q o _ M Z D ?_⟩
  ·intro G r;simp at r;rcases r with rfl | rfl
   ·exact⟨xs,sa⟩
   ·exact⟨ys,sb⟩
  ·have l:∀μ' mh' H',j9 o M μ' H' ->Rep X.K μ' mh' H' ->(bG mh' x=some ds/\bG mh' y=some E)->∃xs ys,IQ X.K H' (OE x) a xs/\IsL X.K μ' H' ds xs/\IQ X.K H' (OE y) b ys/\IsL X.K μ' H' E ys:=λμ' mh' H' m g st=>by
    obtain⟨a',c,e1,s1,n⟩:=t9 g (Is.pM m _ _ N) st.1;obtain⟨b',f,e2,s2,s⟩:=t9 g (Is.pM m _ _ O) st.2;cases e1;cases e2;exact⟨c,f,s1,n,s2,s⟩
   refine⟨by rw[tB];lia,λμ' mh' H' m g st i d e=>?_,λμ' mh' H' m g st=>?_⟩
   ·obtain⟨c,f,s1,n,s2,s⟩:=l μ' mh' H' m g st;obtain⟨dx,dy,g1,g2,rfl⟩:=BC e;obtain⟨w,P,ix⟩:=eI n g1;obtain⟨A,Q,iy⟩:=eI s g2;refine⟨⟨[w,A],rfl,λk a' t' v I S=>?_⟩,λz H'' yl=>?_⟩
    ·match k with
     | 0=>cases I;cases S;exact⟨c,s1,P⟩
     | 1=>cases I;cases S;exact⟨f,s2,Q⟩
     | k+2=>simp at I
    ·obtain⟨G,vs,T,rfl,rfl,J,t⟩:=yl
     match vs,J with
     | [v1,v2],_=>
      have e1:=t 0 a (OE x) v1 rfl rfl c s1;have e2:=t 1 b (OE y) v2 rfl rfl f s2;rw[P]at e1;rw[Q]at e2;cases e1;cases e2;have L:aI μ' H' μ' (upd H' G (.tup [w,A])):=aI.new g T;refine⟨L,g.new T,?_⟩;unfold Is;refine⟨G,[w,A],rfl,.of bC,?_⟩;unfold IsL;exact⟨w,[A],rfl,Is.mono g L _ _ ix,mM (Is.mono g L _ _ iy)⟩
   ·obtain⟨c,f,s1,n,s2,s⟩:=l μ' mh' H' m g st;rw[tB];by_cases hle:ds.length<=E.length
    ·refine⟨0,a,OE x,c,rfl,s1,by rw[aK n];lia,λj b u U=>absurd U (by lia)⟩
    ·refine⟨1,b,OE y,f,rfl,s2,by rw[aK s];lia,λj b u U hs=>?_⟩;have:j=0:=by lia
     subst this;cases hs;exact⟨c,s1,by rw[aK n];lia⟩
end
section
variable {K:aL1}{μ μ' :List Addr}{mh:MH}{H H0:Hp}{q:Addr}{o:HO}
mutual
theorem Is.out(b:K3 (H q)):∀(d:D) (v:V),Is K μ H d v->Is K μ (upd H q o) d v
 | .b9,v,h=>by unfold Is at*;exact h
 | .bl _,v,h=>by unfold Is at*;exact h
 | .int _,v,h=>by unfold Is at*;exact h
 | .str _,v,h=>by unfold Is at*;exact h
 | .ty _,v,h=>by unfold Is at*;exact h
 | .tup ds,v,h=>by
  unfold Is at*;obtain⟨a,vs,e,s,l⟩:=h;refine⟨a,vs,e,?_,IsL.out b ds vs l⟩;rcases s with s | s
  ·exact .inl (by rw[aL (λz=>by subst z;rw[s]at b;exact b)];exact s)
  ·exact .inr s
 | .fl ds,v,h=>by
  unfold Is at*;obtain⟨a,vs,e,s,l⟩:=h;refine⟨a,vs,e,?_,IsL.out b ds vs l⟩
  rcases s with ⟨ob,s⟩ | s
  ·exact .inl ⟨ob,by rw[aL (λz=>by subst z;rw[s]at b;exact b)];exact s⟩
  ·exact .inr s
 | .ref n,v,h=>by unfold Is at*;exact h
theorem IsL.out(a:K3 (H q)):∀(ds:List D) (vs:List V),IsL K μ H ds vs->IsL K μ (upd H q o) ds vs
 | [],vs,h=>by unfold IsL at*;exact h
 | d::ds,vs,h=>by
  unfold IsL at*;obtain⟨v,r,e,i,l⟩:=h;exact⟨v,r,e,Is.out a d v i,IsL.out a ds r l⟩
end
mutual
theorem Is.pre(b:∀(n:Nat) a,μ[n]? =some a->μ'[n]? =some a):∀(d:D) (v:V),Is K μ H d v->Is K μ' H d v
 | .b9,v,h=>by unfold Is at*;exact h
 | .bl _,v,h=>by unfold Is at*;exact h
 | .int _,v,h=>by unfold Is at*;exact h
 | .str _,v,h=>by unfold Is at*;exact h
 | .ty _,v,h=>by unfold Is at*;exact h
 | .tup ds,v,h=>by unfold Is at*;obtain⟨a,vs,e,s,l⟩:=h;exact⟨a,vs,e,s,IsL.pre b ds vs l⟩
 | .fl ds,v,h=>by unfold Is at*;obtain⟨a,vs,e,s,l⟩:=h;exact⟨a,vs,e,s,IsL.pre b ds vs l⟩
 | .ref n,v,h=>by unfold Is at*;obtain⟨a,e,q⟩:=h;exact⟨a,b n a e,q⟩
theorem IsL.pre(b:∀(n:Nat) a,μ[n]? =some a->μ'[n]? =some a):∀(ds:List D) (vs:List V),IsL K μ H ds vs->IsL K μ' H ds vs
 | [],vs,h=>by unfold IsL at*;exact h
 | d::ds,vs,h=>by unfold IsL at*;obtain⟨v,r,e,i,l⟩:=h;exact⟨v,r,e,Is.pre b d v i,IsL.pre b ds r l⟩
end
theorem Rep.out(R:Rep K μ mh H)(c:K3 (H q))(f:q∉μ):Rep K μ mh (upd H q o):=⟨R.len,R.nd,λn a ob d g=>by
 have h:=R.obj n a ob d g;have b:a≠q:=λz=>f (z▸aH1 d)
 cases ob with
 | lst ds=>obtain⟨vs,e,l⟩:=h;exact⟨vs,by rw[aL b];exact e,IsL.out c ds vs l⟩
 | dic t kvs=>obtain⟨vs,e,l⟩:=h;exact⟨vs,by rw[aL b];exact e,IsL.out c _ vs l⟩
 | fdc t kvs ob=>obtain⟨vs,u,e,i,l⟩:=h;exact⟨vs,u,by rw[aL b];exact e,i,IsL.out c _ vs l⟩⟩
theorem aI.out(P:aI μ H0 μ' H)(h0:H0 q=none):aI μ H0 μ' (upd H q o):=⟨P.pre,λb u e n=>by rw[aL (bP e h0)];exact P.fr b u e n,P.nw⟩
theorem Rep.UA{f:MO}(R:Rep K μ mh H)(o:q∉μ)(e:mD K (μ++[q]) H f q):Rep K (μ++[q]) (mh++[f]) H:=by
 have k:∀{g us},IsL K μ H g us->IsL K (μ++[q]) H g us:=λ{g us} l=>IsL.pre (λn a h=>by rw[List.getElem?_append_left (List.getElem?_eq_some_iff.mp h).1];exact h) g us l;refine⟨by simp[R.len],?_,λn a ob c d=>?_⟩
 ·rw[List.nodup_append];refine⟨R.nd,by simp,λa ha b hb=>?_⟩;simp at hb;subst hb;exact λz=>o (z▸ha)
 ·by_cases m:n<μ.length
  ·rw[List.getElem?_append_left m]at c;rw[List.getElem?_append_left (by rw[<-R.len];exact m)]at d;have h:=R.obj n a ob c d
   cases ob with
   | lst g=>obtain⟨us,i,j⟩:=h;exact⟨us,i,k j⟩
   | dic t kvs=>obtain⟨us,i,j⟩:=h;exact⟨us,i,k j⟩
   | fdc t kvs ob=>obtain⟨us,u,i,p,j⟩:=h;exact⟨us,u,i,p,k j⟩
  ·rw[List.getElem?_append_right (by lia)]at c;rw[List.getElem?_append_right (by rw[<-R.len];lia)]at d
   have hz:n-μ.length=0:=by
    have:=(aGt.mp c).1;simp at this;lia
   rw[hz]at c;rw[<-R.len,hz]at d;simp at c d;subst c d;exact e
theorem Rep.aDa{ds:List D}{vs:List V}(R:Rep K μ mh H)(b:q∉μ)(e:H q=some (.lst vs))(l:IsL K μ H ds vs):Rep K (μ++[q]) (mh++[.lst ds]) H:=
 R.UA b ⟨vs,e,IsL.pre (λn a h=>by rw[List.getElem?_append_left (List.getElem?_eq_some_iff.mp h).1];exact h) ds vs l⟩
end
def jM(own:List Str)(aO:List Nat)(a:d7):d7:=own.map (λ_=>none)++aO.map λi=>(a[i]?).join
def i4(g:WG)(t:WT)(w:WE)(ρe:d7)(St:MH->Prop)(Q:DK):List D->List D->MH->Prop
 | [],ys,mh=>St mh/\Q (.ref mh.length) (mh++[.lst ys])
 | d::ds,ys,mh=>St mh/\g d ρe λa=>t a mh λb c=>if b=true then w a c λy e=>i4 g t w ρe St Q ds (ys++[y]) e else i4 g t w ρe St Q ds ys c
def GY(own:List Str)(aO:List Nat)(wi:WI)(g:WG)(t:WT)(w:WE):WE:=λb mh Q=>wi b mh λds St a=>i4 g t w (jM own aO b) St Q ds [] a
def lC:WT:=λ_ mh Q=>Q true mh
section
variable {K:aL1}{μ μ1:List Addr}{mh:MH}{H H1:Hp}
theorem aI.away{q:Addr}{o:HO}(P:aI μ H μ1 H1)(a:q∉μ)(e:H q=some o):q∉μ1/\H1 q=some o:=by
 refine⟨λh=>?_,P.fr q o e a⟩;rcases P.nw q h with z | z
 ·exact a z
 ·rw[e]at z;cases z
theorem cL.emb{a:d7}{σ:L2.St}{own:List Str}{aO:List Nat}(E:cL K μ H a σ):cL K μ H (jM own aO a) (qQ own aO σ):=by
 refine⟨by simp[jM,qQ],λi d h=>?_⟩;unfold jM at h;unfold qQ;by_cases hi:i<own.length
 ·rw[List.getElem?_append_left (by simpa using hi),List.getElem?_map]at h
  cases q:own[i]? with
  | none=>rw[q]at h;simp at h
  | some z=>rw[q]at h;simp at h
 ·rw[List.getElem?_append_right (by simpa using hi),List.getElem?_map]at h⊢;simp only[List.length_map]at h⊢
  cases q:aO[i-own.length]? with
  | none=>rw[q]at h;simp at h
  | some k=>
   rw[q]at h;simp only[Option.map_some,Option.some.injEq]at h⊢
   cases r:a[k]? with
   | none=>rw[r]at h;simp at h
   | some z=>
    rw[r]at h;simp at h;subst h;obtain⟨v,b,c⟩:=E.2 k d r;exact⟨v,by rw[b];rfl,c⟩
end
section
variable {X:Cx}
def LTs(X:Cx)(a:List Expr)(w:WT):Prop:=PTs X a (tLT X.K w)
theorem SA:LTs X [] lC:=λpins s σ H Q I q=>RA pins s σ H Q I (by
 obtain⟨μ,b,mh,R,a,En,h,F⟩:=q
 exact F true mh h μ H aI.refl a)
theorem R9{c:Expr}{t:WT}(h:LT X c t):LTs X [c] t:=Q9 h
theorem SY{wi:WI}{g:TG}{N:WG}{t:WT}{w:WE}{own:List Str}{aO:List Nat}(hr:vZ X.K g N){σ:L2.St}{Q:VK}(h:tL X.K (GY own aO wi N t w) σ H Q):tLC own aO (tLI X.K wi) g (tLT X.K t) (tL X.K w) σ H Q:=by
 intro _ _;obtain⟨μ,O,mh,R,RR,En,h,F⟩:=h;refine⟨μ,O,mh,_,RR,En,h,λds St W q n J Y P1 P It d j=>?_⟩;have p:d∉n:=λz=>P.ne j z rfl
 refine⟨λi m ys H' =>∃μ' mh' f,aI n Y μ' H' /\Rep X.K μ' mh' H' /\d∉μ' /\H' d=some (.lst ys)/\IsL X.K μ' H' f ys/\f.length<=i/\i<=ds.length/\m=ds.length-i/\i4 N t w (jM own aO O) St R (ds.drop i) f mh',
  ⟨ds.length,n,W,[],aI.out aI.refl j,P.new j,p,bC,by unfold IsL;rfl,aGy _,aI8 _,by simp,by simpa using q⟩,?_⟩
 rintro i m ys H' ⟨μ',mh',f,r,v,A,Z,l',hd',hi',rfl,c⟩;refine⟨Z,?_⟩;by_cases s:i<ds.length
 ·rw[List.drop_eq_getElem_cons s]at c;obtain⟨hst,c⟩:=c;obtain⟨hgo,hy⟩:=It.go μ' mh' H' (r.weak P) v hst i ds[i] (by simp[s]);refine .inr ⟨hgo,λu B=>∃l o k,aI n Y l B/\Rep X.K l o B/\d∉l/\B d=some (.lst u)/\IsL X.K l B k u/\k.length<=i+1/\i4 N t w (jM own aO O) St R (ds.drop (i+1)) k o,?_,λx H'' y=>?_⟩
  ·rintro u B ⟨l,o,k,P2,R2,ha2,e2,l2,hd2,c2⟩;exact⟨ds.length-(i+1),by lia,l,o,k,P2,R2,ha2,e2,l2,hd2,s,rfl,c2⟩
  ·obtain⟨S,T,Iy⟩:=hy x H'' y;obtain⟨hay,ey⟩:=S.away A Z;have ly:=IsL.mono v S f ys l';have P0y:=P1.trans (r.trans S);refine hr x _ H'' _ μ' (jM own aO O) mh' _ _ T (En.mono RR P0y).emb Iy c λC q2 σ2 D=>?_;refine⟨μ',C,mh',_,T,D,q2,λb E U G H3 V R3=>?_⟩;obtain⟨I,e3⟩:=V.away hay ey;have l3:=IsL.mono T V f ys ly;have L:=(r.trans S).trans V
   cases b with
   | false=>rw[if_neg Bool.false_ne_true]at U⊢;exact⟨G,E,f,L,R3,I,e3,l3,by lia,U⟩
   | true=>
    rw[if_pos rfl]at U⊢;refine⟨by have:=It.small;rw[aK l'];lia,G,C,E,_,R3,D.mono T V,U,λy mh4 q4 μ4 vy H4 P4 R4 I4=>?_⟩;obtain⟨M,e4⟩:=P4.away I e3;have hm:K3 (H4 d):=by rw[e4];trivial
    have l4:=IsL.mono R3 P4 f ys l3;exact⟨e4,μ4,mh4,f++[y],aI.out (L.trans P4) j,R4.out hm M,M,bC,IsL.out hm _ _ (e8 l4 (mM I4)),by simp;lia,q4⟩
 ·have e:i=ds.length:=by lia
  subst e;rw[List.drop_of_length_le (Nat.le_refl _)]at c;refine .inl ⟨It.stop μ' mh' H' (r.weak P) v c.1,?_⟩
  have Pa:aI n Y (μ' ++[d]) H' :=⟨by obtain⟨t,rfl⟩:=r.pre;exact⟨t++[d],by simp⟩,r.fr,λa ha=>by
   rcases aGz.mp ha with ha | ha
   ·exact r.nw a ha
   ·simp at ha;subst ha;exact .inr j⟩
  exact F _ _ c.2 (μ' ++[d]) _ H' (P1.trans Pa) (v.aDa A Z l') (by unfold Is;exact⟨d,by rw[<-v.len];simp,rfl⟩)
theorem aCm{tg iter a:Expr}{b:List Expr}{scope sc:Scope}{N:List Str}{pos:Pos}{wi:WI}{g:TG}{c:WG}{t:WT}{w:WE}(own:List Str)(aO:List Nat)
  (hN:X.N=N) (hsc:X.env.scope=sc) (chk:mR N sc scope aO=true) (hcalm:X.calm=true) (hi:LI X tg iter wi) (ho:GK own.length g)
  (d:vZ X.K g c)
  (hg:∀cl C fp s₀ H₀,PG (bV X own aO scope cl C fp s₀ H₀) tg g) (ht:∀cl C fp s₀ H₀,LTs (bV X own aO scope cl C fp s₀ H₀) b t)
  (he:∀cl C fp s₀ H₀,LE (bV X own aO scope cl C fp s₀ H₀) a w)
  (e:∀x,foldedSetIterable iter X.env x=pure x:=by intro _;rfl):LE X (.ListComp a [⟨tg,iter,b,0⟩] scope pos) (GY own aO wi c t w):=
 PE.imp (aBw (wi:=tLI X.K wi) (tt:=tLT X.K t) (te:=tL X.K w) own aO hN hsc chk hcalm hi ho hg (λcl C fp s₀ H₀=>ht cl C fp s₀ H₀) (λcl C fp s₀ H₀=>he cl C fp s₀ H₀) e) λσ H Q h=>SY d h
end
mutual
def dB(n:Nat):D->Bool
 | .ref k=>decide (k<n)
 | .tup ds=>cM n ds
 | .fl ds=>cM n ds
 | _=>true
def cM(n:Nat):List D->Bool
 | []=>true
 | d::ds=>dB n d && cM n ds
end
def zM(n:Nat):MO->Bool
 | .lst ds=>cM n ds
 | .dic _ kvs=>cM n (kvs.map (·.2))
 | .fdc _ kvs _=>cM n (kvs.map (·.2))
def i7(mh:MH):Prop:=∀o∈mh,zM mh.length o=true
section
variable {K:aL1}{μ:List Addr}{mh:MH}{H:Hp}
mutual
theorem Q3:∀(d:D) (v:V),Is K μ H d v->dB μ.length d=true
 | .b9,v,h=>rfl
 | .bl _,v,h=>rfl
 | .int _,v,h=>rfl
 | .str _,v,h=>rfl
 | .ty _,v,h=>rfl
 | .tup ds,v,h=>by obtain⟨a,vs,_,_,l⟩:=dX h;simpa[dB] using gH ds vs l
 | .fl ds,v,h=>by obtain⟨a,vs,_,_,l⟩:=pQ h;simpa[dB] using gH ds vs l
 | .ref n,v,h=>by obtain⟨a,e,_⟩:=jJ h;simpa[dB] using (aGt.mp e).1
theorem gH:∀(ds:List D) (vs:List V),IsL K μ H ds vs->cM μ.length ds=true
 | [],vs,h=>rfl
 | d::ds,vs,h=>by
  unfold IsL at h;obtain⟨v,r,_,i,l⟩:=h;simp only[cM,Q3 d v i,gH ds r l,Bool.and_self]
end
theorem Rep.mok(R:Rep K μ mh H):i7 mh:=λo ho=>by
 obtain⟨n,a⟩:=aHa.mp ho;have b:n<μ.length:=by rw[R.len];exact(aGt.mp a).1
 have h:=R.obj n μ[n] o (by simp[b]) a;rw[<-R.len]
 cases o with
 | lst ds=>obtain⟨vs,_,l⟩:=h;exact gH ds vs l
 | dic t kvs=>obtain⟨vs,_,l⟩:=h;exact gH _ vs l
 | fdc t kvs ob=>obtain⟨vs,_,_,_,l⟩:=h;exact gH _ vs l
mutual
theorem Is.cut{n:Nat}:∀(d:D) (v:V),dB n d=true->Is K μ H d v->Is K (μ.take n) H d v
 | .b9,v,_,h=>by unfold Is at*;exact h
 | .bl _,v,_,h=>by unfold Is at*;exact h
 | .int _,v,_,h=>by unfold Is at*;exact h
 | .str _,v,_,h=>by unfold Is at*;exact h
 | .ty _,v,_,h=>by unfold Is at*;exact h
 | .tup ds,v,b,h=>by unfold Is at*;obtain⟨a,vs,e,s,l⟩:=h;exact⟨a,vs,e,s,IsL.cut ds vs (by simpa[dB] using b) l⟩
 | .fl ds,v,b,h=>by unfold Is at*;obtain⟨a,vs,e,s,l⟩:=h;exact⟨a,vs,e,s,IsL.cut ds vs (by simpa[dB] using b) l⟩
 | .ref k,v,b,h=>by unfold Is at*;obtain⟨a,e,q⟩:=h;exact⟨a,by rw[List.getElem?_take_of_lt (by simpa[dB] using b)];exact e,q⟩
theorem IsL.cut{n:Nat}:∀(ds:List D) (vs:List V),cM n ds=true->IsL K μ H ds vs->IsL K (μ.take n) H ds vs
 | [],vs,_,h=>by unfold IsL at*;exact h
 | d::ds,vs,b,h=>by
  unfold IsL at*;simp only[cM,Bool.and_eq_true]at b;obtain⟨v,r,e,i,l⟩:=h;exact⟨v,r,e,Is.cut d v b.1 i,IsL.cut ds r b.2 l⟩
end
theorem Rep.cut{c d:MH}(R:Rep K μ (c++d) H)(ok:i7 c):Rep K (μ.take c.length) c H:=by
 have j:c.length<=μ.length:=by rw[R.len];simp
 refine⟨by simp[j],List.Nodup.sublist (aKs _ _) R.nd,λn a o g f=>?_⟩;have i:n<c.length:=(aGt.mp f).1;rw[List.getElem?_take_of_lt i]at g;have h:=R.obj n a o g (by rw[List.getElem?_append_left i];exact f);have b:=ok o (aH1 f)
 cases o with
 | lst ds=>obtain⟨vs,e,l⟩:=h;exact⟨vs,e,IsL.cut ds vs b l⟩
 | dic t kvs=>obtain⟨vs,e,l⟩:=h;exact⟨vs,e,IsL.cut _ vs b l⟩
 | fdc t kvs ob=>obtain⟨vs,u,e,k,l⟩:=h;exact⟨vs,u,e,k,IsL.cut _ vs b l⟩
end
def Out(n:Nat)(d:D)(c:MH)(R:DK):Prop:=R d c\/(∃a b,c=a++b/\n<=a.length/\i7 a/\dB a.length d=true/\R d a)\/
 ∃a b j o,c=a++b/\n<=a.length/\i7 a/\d= .ref j/\a.length<=j/\c[j]? =some o/\zM a.length o=true/\R (.ref a.length) (a++[o])
variable{μ:List Addr}{mh:MH}
theorem HE{Q:VK}(E:Rep K μ mh H)(F:Fin K μ H R Q):Fin K μ H (λd r=>Out mh.length d r R) Q:=by
 intro d r h g v w m x B
 have key:∀{f:MH},mh.length<=f.length->∃t,g.take f.length=μ++t:=λ{f} i=>by
  obtain⟨t,rfl⟩:=m.pre;rw[List.take_append,List.take_of_length_le (by rw[E.len];exact i)];exact⟨_,rfl⟩
 rcases h with h | ⟨f,y,rfl,i,ok,b,h⟩ | ⟨f,y,j,o,rfl,i,ok,rfl,I,ho,b,h⟩
 ·exact F d r h g v w m x B
 ·exact F d f h (g.take f.length) v w ⟨key i,m.fr,λa ha=>m.nw a (aIa ha)⟩ (x.cut ok) (Is.cut d v b B)
 ·have A:=x.cut ok;obtain⟨a,ha,rfl⟩:=jJ B;have s:=x.obj j a o ha ho;have p:(g.take f.length).length=f.length:=A.len
  have q:a∉g.take f.length:=λz=>by
   obtain⟨k,C⟩:=aHa.mp z;have D:k<f.length:=by have:=(aGt.mp C).1;lia
   rw[List.getElem?_take_of_lt D]at C;have:=HH x.nd C ha
   lia
  cases o with
  | lst ds=>
   obtain⟨vs,e,l⟩:=s;refine F _ _ h (g.take f.length++[a]) _ w ⟨?_,m.fr,λc hc=>?_⟩ (A.aDa q e (IsL.cut ds vs b l)) (by unfold Is;exact⟨a,by rw[<-p];simp,rfl⟩)
   ·obtain⟨t,ht⟩:=key i;exact⟨t++[a],by rw[ht];simp⟩
   ·rcases aGz.mp hc with hc | hc
    ·exact m.nw c (aIa hc)
    ·simp at hc;subst hc;exact m.nw c (aH1 ha)
  | dic t kvs=>
   obtain⟨vs,e,l⟩:=s;refine F _ _ h (g.take f.length++[a]) _ w ⟨?_,m.fr,λc hc=>?_⟩ (A.UA q ⟨vs,e,IsL.pre (λn a h=>by rw[List.getElem?_append_left (List.getElem?_eq_some_iff.mp h).1];exact h) _ vs (IsL.cut _ vs b l)⟩) (by unfold Is;exact⟨a,by rw[<-p];simp,rfl⟩)
   ·obtain⟨t,ht⟩:=key i;exact⟨t++[a],by rw[ht];simp⟩
   ·rcases aGz.mp hc with hc | hc
    ·exact m.nw c (aIa hc)
    ·simp at hc;subst hc;exact m.nw c (aH1 ha)
  | fdc t kvs ob=>
   obtain⟨vs,u,e,G,l⟩:=s;refine F _ _ h (g.take f.length++[a]) _ w ⟨?_,m.fr,λc hc=>?_⟩ (A.UA q ⟨vs,u,e,G,IsL.pre (λn a h=>by rw[List.getElem?_append_left (List.getElem?_eq_some_iff.mp h).1];exact h) _ vs (IsL.cut _ vs b l)⟩) (by unfold Is;exact⟨a,by rw[<-p];simp,rfl⟩)
   ·obtain⟨t,ht⟩:=key i;exact⟨t++[a],by rw[ht];simp⟩
   ·rcases aGz.mp hc with hc | hc
    ·exact m.nw c (aIa hc)
    ·simp at hc;subst hc;exact m.nw c (aH1 ha)
def aG(N:List Str)(ds:List D):d7:=ds.map some++List.replicate (N.length-ds.length) none
variable{N:List Str}{ds:List D}
theorem BQ{vs:List V}(l:IsL K μ H ds vs):cL K μ H (aG N ds) (L2.start N vs):=by
 have a:=aK l;refine⟨by simp[aG,L2.start,a],λi d h=>?_⟩;unfold aG at h;unfold L2.start;by_cases hi:i<ds.length
 ·rw[List.getElem?_append_left (by simpa using hi),List.getElem?_map]at h;obtain⟨d',b,c⟩:=aHr.mp h;cases c;obtain⟨v,e,f⟩:=eI l b;exact⟨v,by rw[List.getElem?_append_left (by simpa[a] using hi),List.getElem?_map,e];rfl,f⟩
 ·rw[List.getElem?_append_right (by simpa using hi)]at h;obtain⟨_,h⟩:=aGt.mp h;simp at h
section
variable {P:Program}{w:World}{K:aL1}{mg:aL4}{base:Heap}
theorem aD4{x qual:Str}{st:Stmt}{f:Addr}{fd:FuncData}{N ps:List Str}{k:Nat}{s:OA}{wB:WS}(F:Fun K x qual st f fd)(S:aV N ps (aC st))(len:∀ds mh R,s ds mh R->ds.length=ps.length)
  (hb:∀(cdv:Value) (A:Around) (outer:List Env) (s:Shared) (H:Hp) (E:XK),fH k (A.deeper (envOfC qual (aC st) s.heap.objs.size f cdv))->
   kI (vO A8 P w K mg base N qual (aC st) f cdv A outer s H E).QA (bX st) wB)
  (g:∀ds mh R,i7 mh->cM mh.length ds=true->s ds mh R->wB {nx:=λ_ a=>Out mh.length .b9 a R,rt:=λd a=>Out mh.length d a R} (aG N ds) mh):iN P w K mg base A8 (k+1) f fd ps (LX K s):=by
 refine F.ok S (λvs H Q E h=>?_) (λcdv A outer i H vs Q E j h=>?_)
 ·obtain⟨μ,mh,ds,R,b,c,h,_⟩:=h;rw[aK c];exact len ds mh R h
 ·obtain⟨μ,mh,ds,R,b,c,h,l⟩:=h;refine⟨_,hb cdv A outer i H E j,μ,aG N ds,mh,_,b,BQ c,g ds mh R b.mok (by rw[<-b.len];exact gH ds vs c) h,?_⟩;have e:=HE b l;exact⟨λm mh' q μ' n H' o p r =>e .b9 mh' q μ' .b9 H' o p .b9,e,λ_ _ q=>False.elim q,λ_ _ q=>False.elim q⟩
end
def Fn(P:Program)(w:World)(K:aL1)(mg:aL4)(base:Heap)(k:Nat)(x:Str)(ps:List Str)(s:OA):Prop:=
 ∃f fd,iN P w K mg base A8 k f fd ps (LX K s)/\mg x=some (.ref f)/\PySem.W.keepIn K (.ref f)=true/\Binds K fd ps []
variable{P:Program}{w:World}{mg:aL4}{x:Str}{ps:List Str}
theorem Fn.mono{base:Heap}{j k:Nat}{s:OA}(h:Fn P w K mg base j x ps s)(e:j<=k):Fn P w K mg base k x ps s:=
 let ⟨f,fd,a,b,c,d⟩:=h;⟨f,fd,a.mono e,b,c,d⟩
theorem Fn.imp{base:Heap}{k:Nat}{s g :OA}(h:Fn P w K mg base k x ps s)(hi:∀ds mh R,g ds mh R->s ds mh R):Fn P w K mg base k x ps g :=
 let ⟨f,fd,a,b,c,d⟩:=h;⟨f,fd,a.imp λvs H Q E e=>by obtain⟨μ,mh,ds,R,i,j,l,m⟩:=e;exact⟨μ,mh,ds,R,i,j,hi ds mh R l,m⟩,b,c,d⟩
section
variable {X:Cx}{e:Expr}{es:List Expr}{wr:WA}{pos p:Pos}{x:Str}
theorem NW{k:Nat}{s:OA}(F:Fn X.prog X.w X.K X.mg X.base k x ps s)(i:fH k X.A)(ha:LA X (e::es) wr)(hg:Gl X x:=by rfl)(g:(x==("__debug__":Str))=false:=by decide)
  (he:starEach (e::es) X.env=(false,eval e X.env)::starEach es X.env:=by rfl) (h:(backTo pos (starEach es X.env)).any (·.1)=false:=by rfl):LE X (.Call (.Name x p) (e::es) [] pos) (aE s wr):=by
 obtain⟨f,fd,a,b,c,d⟩:=F;exact SW a i hg b c d ha g he h
theorem CT{T:String}(a:X.mg x=none)(b:bootBuiltins x=some (.type T))(hg:Gl X x:=by rfl)(c:x≠ "__name__":=by decide)(hd:(x==("__debug__":Str))=false:=by decide):LE X (.Name x pos) (wC (.ty T)):=SQ hg a b c hd
theorem aCp{id:String}{f:OA}(c:cU X (.builtin id) (fF X.K f))(d:X.mg x=none)(g:bootBuiltins x=some (.builtin id))(ha:LA X (e::es) wr)(hg:Gl X x:=by rfl)(h:x≠ "__name__":=by decide)(a:(x==("__debug__":Str))=false:=by decide)
  (he:starEach (e::es) X.env=(false,eval e X.env)::starEach es X.env:=by rfl) (b:(backTo pos (starEach es X.env)).any (·.1)=false:=by rfl):LE X (.Call (.Name x p) (e::es) [] pos) (aE f wr):=NY c hg d g ha h a he b
theorem aCn{T:String}{f:OA}(c:cU X (.type T) (fF X.K f))(d:X.mg x=none)(g:bootBuiltins x=some (.type T))(ha:LA X (e::es) wr)(hg:Gl X x:=by rfl)(h:x≠ "__name__":=by decide)(a:(x==("__debug__":Str))=false:=by decide)
  (he:starEach (e::es) X.env=(false,eval e X.env)::starEach es X.env:=by rfl) (b:(backTo pos (starEach es X.env)).any (·.1)=false:=by rfl):LE X (.Call (.Name x p) (e::es) [] pos) (aE f wr):=JQ c hg d g ha h a he b
theorem QS(i:Nat)(hN:X.N.Nodup)(hi:X.N[i]? =some x:=by rfl)(a:Loc X.env.scope x:=by first | exact Or.inl rfl | exact Or.inr rfl)(b:X.fn x=true\/X.env.scope.names.lookup x=some .local:=by first | exact .inl rfl | exact .inr rfl):PG X (.Name x pos) (vG i):=RK hN hi a b
theorem aCa{a:CmpOp}(b:Expr)(h:a≠ .In:=by decide)(c:a≠ .NotIn:=by decide):behindInMarks a b=false:=NC b h c
end
structure Bl(mg:aL4):Prop where
 len:mg "len"=none
 range:mg "range"=none
 zip:mg "zip"=none
 all:mg "all"=none
 any:mg "any"=none
 abs:mg "abs"=none
 min:mg "min"=none
 max:mg "max"=none
 isinstance:mg "isinstance"=none
 sorted:mg "sorted"=none
 int:mg "int"=none
 str:mg "str"=none
 bool:mg "bool"=none
 list:mg "list"=none
 tuple:mg "tuple"=none
 set:mg "set"=none
 dict:mg "dict"=none
 sum:mg "sum"=none
 enumerate:mg "enumerate"=none
theorem Z4:bootBuiltins "int"=some (.type "int"):=by decide+kernel
theorem ZW:bootBuiltins "str"=some (.type "str"):=by decide+kernel
theorem T4:bootBuiltins "bool"=some (.type "bool"):=by decide+kernel
theorem IK:bootBuiltins "list"=some (.type "list"):=by decide+kernel
theorem vU:bootBuiltins "tuple"=some (.type "tuple"):=by decide+kernel
theorem ZX:bootBuiltins "set"=some (.type "set"):=by decide+kernel
theorem Z3:bootBuiltins "len"=some (.builtin "len"):=by decide+kernel
theorem Z5:bootBuiltins "abs"=some (.builtin "abs"):=by decide+kernel
theorem ZY:bootBuiltins "min"=some (.builtin "min"):=by decide+kernel
theorem ZZ:bootBuiltins "max"=some (.builtin "max"):=by decide+kernel
theorem wM:bootBuiltins "isinstance"=some (.builtin "isinstance"):=by decide+kernel
theorem qS:bootBuiltins "sorted"=some (.builtin "sorted"):=by decide+kernel
def oLt:O2:=λx y mh Q=>match x with
 | .int i=>match y with | .int j=>Q (.bl (decide (i<j))) mh | _=>False
 | .str a=>match y with | .str b=>Q (.bl (decide (a.cps.toList<b.cps.toList))) mh | _=>False
 | _=>False
def oLe:O2:=λx y mh Q=>match x with
 | .int i=>match y with | .int j=>Q (.bl (decide (i<=j))) mh | _=>False
 | .str a=>match y with | .str b=>Q (.bl (!decide (b.cps.toList<a.cps.toList))) mh | _=>False
 | _=>False
def P9:O2:=λx y mh Q=>match x with
 | .int i=>match y with | .int j=>Q (.bl (decide (j<i))) mh | _=>False
 | _=>False
def oGe:O2:=λx y mh Q=>match x with
 | .int i=>match y with | .int j=>Q (.bl (decide (j<=i))) mh | _=>False
 | _=>False
section
variable {X:Cx}
theorem aC5(g:X.A.units+64<cLine):eL X (compareOp .Lt) (bT X.K oLt):=by
 intro pins s σ H x y v u Q I a b q;obtain⟨μ,mh,dx,c,R,d,e,f,q,F⟩:=q
 cases dx with
 | int i=>cases c with
  | int j=>cases bR e;cases bR f;exact aC0 pins s σ H _ _ v u Q I a b ⟨i,j,rfl,rfl,F.here d q .bl⟩
  | _=>exact False.elim q
 | str i=>cases c with
  | str j=>cases eR e;cases eR f;exact JI pins s σ H _ _ v u Q I a b ⟨i,j,rfl,rfl,F.here d q .bl⟩
  | _=>exact False.elim q
 | _=>exact False.elim q
theorem aC6(g:X.A.units+64<cLine):eL X (compareOp .LtE) (bT X.K oLe):=by
 intro pins s σ H x y v u Q I a b q;obtain⟨μ,mh,dx,c,R,d,e,f,q,F⟩:=q
 cases dx with
 | int i=>cases c with
  | int j=>cases bR e;cases bR f;exact aC1 pins s σ H _ _ v u Q I a b ⟨i,j,rfl,rfl,F.here d q .bl⟩
  | _=>exact False.elim q
 | str i=>cases c with
  | str j=>
   cases eR e;cases eR f;obtain⟨t,rfl⟩:=a;obtain⟨t',rfl⟩:=b;exact PySem.P.le_str ⟨.bl (!decide (j.cps.toList<i.cps.toList)),H,I,by show _=_;first | rfl | (congr 1;simp),F.here d q .bl⟩
  | _=>exact False.elim q
 | _=>exact False.elim q
theorem aC7(g:X.A.units+64<cLine):eL X (compareOp .Gt) (bT X.K P9):=by
 intro pins s σ H x y v u Q I a b q;obtain⟨μ,mh,dx,c,R,d,e,f,q,F⟩:=q
 cases dx with
 | int i=>cases c with
  | int j=>cases bR e;cases bR f;exact aC2 pins s σ H _ _ v u Q I a b ⟨i,j,rfl,rfl,F.here d q .bl⟩
  | _=>exact False.elim q
 | _=>exact False.elim q
theorem aC8(g:X.A.units+64<cLine):eL X (compareOp .GtE) (bT X.K oGe):=by
 intro pins s σ H x y v u Q I a b q;obtain⟨μ,mh,dx,c,R,d,e,f,q,F⟩:=q
 cases dx with
 | int i=>cases c with
  | int j=>cases bR e;cases bR f;exact aC3 pins s σ H _ _ v u Q I a b ⟨i,j,rfl,rfl,F.here d q .bl⟩
  | _=>exact False.elim q
 | _=>exact False.elim q
end
variable{α:Type}
def got(o:Option α)(k:α->Prop):Prop:=match o with | some a=>k a | none=>False
@[simp] theorem cB (a:α)(k:α->Prop):got (some a) k=k a:=rfl
@[simp] theorem aD2 (k:α->Prop):got none k=False:=rfl
theorem fA(o:Option α)(k:α->Prop):(∃a,o=some a/\k a)↔got o k:=by
 cases o <;> simp[got]
def asB:D->Option Bool | .bl b=>some b | _=>none
def asI:D->Option Int | .int i=>some i | _=>none
@[simp] theorem aGl (b:Bool):asB (.bl b)=some b:=rfl
@[simp] theorem aE6 (i:Int):asI (.int i)=some i:=rfl
theorem exB(x:D)(P:Bool->Prop):(∃k,x= .bl k/\P k)=got (asB x) P:=by
 apply propext
 cases x with
 | bl b=>exact⟨λa=>by obtain⟨k,e,h⟩:=a;cases e;exact h,λh=>⟨b,rfl,h⟩⟩
 | _=>exact⟨λc=>by obtain⟨k,e,h⟩:=c;exact(by cases e),λh=>False.elim h⟩
theorem exI(x:D)(P:Int->Prop):(∃k,x= .int k/\P k)=got (asI x) P:=by
 apply propext
 cases x with
 | int b=>exact⟨λa=>by obtain⟨k,e,h⟩:=a;cases e;exact h,λh=>⟨b,rfl,h⟩⟩
 | _=>exact⟨λc=>by obtain⟨k,e,h⟩:=c;exact(by cases e),λh=>False.elim h⟩
section
variable {mh:MH}{Q:DK}{ρ:d7}
@[simp] theorem aBd (i:Nat):aB i ρ mh Q↔got ((ρ[i]?).join) λd=>Q d mh:=by
 unfold aB
 cases h:ρ[i]? with
 | none=>simp
 | some o=>cases o <;> simp
@[simp] theorem s_c (d:D):wC d ρ mh Q=(Q d mh):=rfl
@[simp] theorem aF4 (f:O2)(a b:WE):aT f a b ρ mh Q=(a ρ mh λx c=>b ρ c λy d=>f x y d Q):=rfl
@[simp] theorem s_un (f:O1)(a:WE):A7 f a ρ mh Q=(a ρ mh λx b=>f x b Q):=rfl
@[simp] theorem s_nil (R:List D->MH->Prop):aD ρ mh R=(R [] mh):=rfl
@[simp] theorem aFj (a:WE)(r:WA)(R:List D->MH->Prop):aA a r ρ mh R=(a ρ mh λx b=>r ρ b λxs c=>R (x::xs) c):=rfl
@[simp] theorem s_call (f:OA)(a:WA):aE f a ρ mh Q=(a ρ mh λds b=>f ds b Q):=rfl
@[simp] theorem s_tup (a:WA):eP a ρ mh Q=(a ρ mh λds b=>ds.length<=sizeLine/\Q (.tup ds) b):=rfl
@[simp] theorem s_lst (a:WA):kB a ρ mh Q=(a ρ mh λds b=>ds.length<=sizeLine/\Q (.ref b.length) (b++[.lst ds])):=rfl
@[simp] theorem aFk (a b:WE):wZ a b ρ mh Q↔a ρ mh λx d=>got (asB x) λc=>if c=true then b ρ d Q else Q (.bl false) d:=by unfold wZ;simp only[exB]
@[simp] theorem aF5 (a:WE):GX a ρ mh Q↔a ρ mh λx b=>got (asB x) λc=>Q (.bl !c) b:=by unfold GX;simp only[exB]
@[simp] theorem s_if (t:WT)(a b:WE):wIf t a b ρ mh Q=(t ρ mh λc d=>if c=true then a ρ d Q else b ρ d Q):=rfl
@[simp] theorem s_sl (f:OS)(a:WE)(l h:WO):wSl f a l h ρ mh Q=(a ρ mh λx b=>l ρ b λlo c=>h ρ c λhi d=>f x lo hi d Q):=rfl
@[simp] theorem s_no (R:Option Int->MH->Prop):VH ρ mh R=(R none mh):=rfl
@[simp] theorem aF3 (a:WE)(R:Option Int->MH->Prop):rG a ρ mh R↔a ρ mh λx b=>got (asI x) λi=>R (some i) b:=by unfold rG;simp only[exI]
@[simp] theorem s_mt (T:String)(f:OM)(a:WE)(r:WA):EF T f a r ρ mh Q=(a ρ mh λx b=>sI b T x/\r ρ b λds c=>f x ds c Q):=rfl
@[simp] theorem s_lc (own:List Str)(aO:List Nat)(i:WI)(g:WG)(t:WT)(a:WE):GY own aO i g t a ρ mh Q=(i ρ mh λds St b=>i4 g t a (jM own aO ρ) St Q ds [] b):=rfl
variable {R:Bool->MH->Prop}
@[simp] theorem s_tst (a:WE):dR a ρ mh R↔a ρ mh λx b=>got (asB x) λk=>R k b:=by unfold dR;simp only[exB]
@[simp] theorem s_tru (a:WE):sE a ρ mh R↔a ρ mh λx b=>got (iU b x) λk=>R k b:=by
 unfold sE
 have:(λx b=>∃k,iU b x=some k/\R k b)=λx b=>got (iU b x) λk=>R k b:=by
  funext x m;exact propext (fA _ _)
 rw[this]
@[simp] theorem aFl (t u:WT):rH t u ρ mh R=(t ρ mh λc a=>if c=true then u ρ a R else R false a):=rfl
@[simp] theorem s_orT (t u:WT):QQ t u ρ mh R=(t ρ mh λc a=>if c=true then R true a else u ρ a R):=rfl
@[simp] theorem aF6 (t:WT):tQ t ρ mh R=(t ρ mh λc a=>R (!c) a):=rfl
@[simp] theorem L4:lC ρ mh R=(R true mh):=rfl
variable {E:d6}
@[simp] theorem aF7:dE E ρ mh=(E.nx ρ mh):=rfl
@[simp] theorem UR (t u:WS):aW t u E ρ mh=(t {E with nx:=u E} ρ mh):=rfl
@[simp] theorem s_cnt:VI E ρ mh=(E.ct ρ mh):=rfl
@[simp] theorem aFg (a:WE):fB a E ρ mh=(a ρ mh λ_ b=>E.nx ρ b):=rfl
@[simp] theorem s_ret (a:WE):c5 a E ρ mh=(a ρ mh E.rt):=rfl
@[simp] theorem s_ifS (t:WT)(a b:WS):fK t a b E ρ mh=(t ρ mh λc d=>if c=true then a E ρ d else b E ρ d):=rfl
@[simp] theorem aBi (a:WE)(g:WG):bZ a g E ρ mh=(a ρ mh λd b=>g d ρ λc =>E.nx c b):=rfl
@[simp] theorem aEy (a o i:WE):rF a o i E ρ mh=(a ρ mh λd b=>o ρ b λob c=>i ρ c λg e=>QZ ob g d e λf=>E.nx ρ f):=rfl
@[simp] theorem s_for (i:WI)(g:WG)(b:WS):gB i g b E ρ mh=(i ρ mh λds St a=>j7 g b E St ds ρ a):=rfl
@[simp] theorem aFe (i:Nat)(d:D)(P:d7->Prop):gN i d ρ P=(P (ρ.set i (some d))):=rfl
@[simp] theorem aDo (P:d7->Prop):dZ [] ρ P↔P ρ:=by simp[dZ]
@[simp] theorem aBh (t:WG)(u:UC)(d:D)(r:List D)(P:d7->Prop):aQ t u (d::r) ρ P↔t d ρ λc =>u r c P:=⟨λf=>by obtain⟨a,b,e,h⟩:=f;cases e;exact h,λh=>⟨d,r,rfl,h⟩⟩
@[simp] theorem s_gT (n:Nat)(u:UC)(ds:List D)(P:d7->Prop):gT n u (.tup ds) ρ P↔ds.length=n/\u ds ρ P:=by
 unfold gT;exact⟨λa=>by obtain⟨b,e,h⟩:=a;cases e;exact h,λh=>⟨ds,rfl,h⟩⟩
@[simp] theorem aEz (a:WE)(P:List D->(MH->Prop)->MH->Prop):cZ a ρ mh P↔a ρ mh λx b=>got (bG b x) λds=>P ds (λmh' =>bG mh' x=some ds) b:=by
 unfold cZ
 have:(λx b=>∃ds,bG b x=some ds/\P ds (λmh' =>bG mh' x=some ds) b)=λx b=>got (bG b x) λds=>P ds (λmh' =>bG mh' x=some ds) b:=by
  funext x m;exact propext (fA _ _)
 rw[this]
@[simp] theorem aF0 (a:WA)(P:List D->(MH->Prop)->MH->Prop):iS a ρ mh P=(a ρ mh λds b=>∃j,ds=[.int j]/\ -(2^62)<=j/\j<=sizeLine/\P (uN 0 j.toNat) (λ_=>True) b):=rfl
@[simp] theorem aEx (a:WA)(P:List D->(MH->Prop)->MH->Prop):BJ a ρ mh P↔a ρ mh λxs b=>match xs with
  | [x,y]=>got (bG b x) λds=>got (bG b y) λc=>ds.length<=sizeLine/\P (kA ds c) (λmh' =>bG mh' x=some ds/\bG mh' y=some c) b
  | _=>False:=by
 unfold BJ
 have:(λxs b=>∃x y ds c,xs=[x,y]/\bG b x=some ds/\bG b y=some c/\ds.length<=sizeLine/\P (kA ds c) (λmh' =>bG mh' x=some ds/\bG mh' y=some c) b)=λxs b=>match xs with
  | [x,y]=>got (bG b x) λds=>got (bG b y) λc=>ds.length<=sizeLine/\P (kA ds c) (λmh' =>bG mh' x=some ds/\bG mh' y=some c) b
  | _=>False:=by
  funext xs m;apply propext
  match xs with
  | []=>simp
  | [_]=>simp
  | [x,y]=>
   simp only[<-fA];constructor
   ·rintro⟨g,y',ds,c,e,d,f,h⟩;cases e;exact⟨ds,d,c,f,h⟩
   ·rintro⟨ds,d,c,f,h⟩;exact⟨x,y,ds,c,rfl,d,f,h⟩
  | _::_::_::_=>simp
 rw[this]
@[simp high] theorem aE0 (b:Int)(P:Int->Prop):(∃c,[D.int b]=[D.int c]/\P c)↔P b:=⟨λa=>by obtain⟨c,e,h⟩:=a;cases e;exact h,λh=>⟨b,rfl,h⟩⟩
@[simp high] theorem aDz (a b:Int)(P:Int->Int->Prop):(∃c d,[D.int a,D.int b]=[D.int c,D.int d]/\P c d)↔P a b:=⟨λf=>by obtain⟨c,d,e,h⟩:=f;cases e;exact h,λh=>⟨a,b,rfl,h⟩⟩
@[simp] theorem L5 (C:Int->Int->Prop)(g:Int->Int->D)(i j:Int):CD C g (.int i) (.int j) mh Q↔C i j/\Q (g i j) mh:=by
 unfold CD;exact⟨λc=>by obtain⟨a,b,e,f,h⟩:=c;cases e;cases f;exact h,λh=>⟨i,j,rfl,rfl,h⟩⟩
@[simp] theorem s_neg (i:Int):kG (.int i) mh Q↔Q (.int (-i)) mh:=by
 unfold kG;exact⟨λb=>by obtain⟨a,e,h⟩:=b;cases e;exact h,λh=>⟨i,rfl,h⟩⟩
@[simp] theorem L8 (i j:Int):cO (.int i) (.int j) mh Q=(Q (.int (i+j)) mh):=rfl
@[simp] theorem aFn (i j:Str):cO (.str i) (.str j) mh Q=(i.length+j.length<=sizeLine/\Q (.str (i++j)) mh):=rfl
@[simp] theorem aFm (i j:List D):cO (.tup i) (.tup j) mh Q=(i.length+j.length<=sizeLine/\Q (.tup (i++j)) mh):=rfl
theorem L7{n m:Nat}{i j:List D}(d:mh[n]? =some (.lst i))(g:mh[m]? =some (.lst j)):cO (.ref n) (.ref m) mh Q↔(i++j).length<=sizeLine/\Q (.ref mh.length) (mh++[.lst (i++j)]):=by
 show (∃i j,mh[n]? =some (.lst i)/\mh[m]? =some (.lst j)/\FA (i++j) mh Q)↔_;rw[d,g];exact⟨λc=>by obtain⟨a,b,e,f,h⟩:=c;cases e;cases f;exact h,λh=>⟨i,j,rfl,rfl,h⟩⟩
@[simp] theorem L6 (ds:List D)(i:Int):fI (.tup ds) (.int i) mh Q↔got (mY ds i) λd=>Q d mh:=by
 unfold fI;rw[<-fA];exact⟨λb=>by obtain⟨a,e,j,d,f,g,h⟩:=b;cases e;cases f;exact⟨d,g,h⟩,λc=>by obtain⟨d,f,h⟩:=c;exact⟨i,rfl,ds,d,rfl,f,h⟩⟩
@[simp] theorem aBf (ds:List D)(i:Int):fI (.fl ds) (.int i) mh Q↔got (mY ds i) λd=>Q d mh:=by
 unfold fI;rw[<-fA];exact⟨λb=>by obtain⟨a,e,j,d,f,g,h⟩:=b;cases e;cases f;exact⟨d,g,h⟩,λc=>by obtain⟨d,f,h⟩:=c;exact⟨i,rfl,ds,d,rfl,f,h⟩⟩
variable{n:Nat}
theorem eM(h:mh[n]? =some (.lst ds))(i:Int):fI (.ref n) (.int i) mh Q↔got (mY ds i) λd=>Q d mh:=by
 unfold fI;rw[<-fA];have e:bG mh (.ref n)=some ds:=by simp[bG,h]
 exact⟨λb=>by obtain⟨a,j,l,d,f,k,g⟩:=b;cases j;rw[e]at f;cases f;exact⟨d,k,g⟩,λc=>by obtain⟨d,f,g⟩:=c;exact⟨i,rfl,ds,d,e,f,g⟩⟩
@[simp] theorem s_ltI (i j:Int):oLt (.int i) (.int j) mh Q=(Q (.bl (decide (i<j))) mh):=rfl
@[simp] theorem s_leI (i j:Int):oLe (.int i) (.int j) mh Q=(Q (.bl (decide (i<=j))) mh):=rfl
@[simp] theorem aBg (i j:Int):P9 (.int i) (.int j) mh Q=(Q (.bl (decide (j<i))) mh):=rfl
@[simp] theorem s_geI (i j:Int):oGe (.int i) (.int j) mh Q=(Q (.bl (decide (j<=i))) mh):=rfl
@[simp] theorem s_eqI (i j:Int):oEq (.int i) (.int j) mh Q↔Q (.bl (i==j)) mh:=by simp[oEq,jN,bare,deep,pY]
@[simp] theorem s_neI (i j:Int):P8 (.int i) (.int j) mh Q↔Q (.bl (!(i==j))) mh:=by simp[P8,jN,bare,deep,pY]
@[simp] theorem s_eqB (i j:Bool):oEq (.bl i) (.bl j) mh Q↔Q (.bl (i==j)) mh:=by simp[oEq,jN,bare,deep,pY]
@[simp] theorem s_neB (i j:Bool):P8 (.bl i) (.bl j) mh Q↔Q (.bl (!(i==j))) mh:=by simp[P8,jN,bare,deep,pY]
@[simp] theorem s_eqS (i j:Str):oEq (.str i) (.str j) mh Q↔Q (.bl (i==j)) mh:=by simp[oEq,jN,bare,deep,pY]
@[simp] theorem s_eqT (i j:List D):oEq (.tup i) (.tup j) mh Q↔fQ i=true/\fQ j=true/\c8 i+1<=40/\Q (.bl (fO i j)) mh:=by simp[oEq,jN,bare,deep,pY]
@[simp] theorem aFd (x:D)(T:String):qB [x,.ty T] mh Q↔got (QR mh x) λt=>T∈bL/\Q (.bl (sF t T)) mh:=by
 unfold qB;rw[<-fA];constructor
 ·rintro⟨f,c,t,e,a,⟨g,b,d,h⟩ | ⟨i,b,_⟩⟩
  ·cases e;cases b;exact⟨t,a,d,h⟩
  ·cases e;cases b
 ·rintro⟨t,a,d,h⟩;exact⟨x,_,t,rfl,a,.inl ⟨T,rfl,d,h⟩⟩
@[simp] theorem aFc (x:D)(T U:String):qB [x,.tup [.ty T,.ty U]] mh Q↔got (QR mh x) λt=>T∈bL/\U∈bL/\Q (.bl (sF t T || sF t U)) mh:=by
 unfold qB;rw[<-fA];constructor
 ·rintro⟨k,c,t,e,d,⟨g,f,a,h⟩ | ⟨i,f,a,h⟩⟩
  ·cases e;cases f
  ·cases e;injection f with b
   match i,b with
   | [g,l],b=>
    simp at b;obtain⟨rfl,rfl⟩:=b;exact⟨t,d,a _ (by simp),a _ (by simp),by simpa using h⟩
 ·rintro⟨t,d,a,j,h⟩;exact⟨x,_,t,rfl,d,.inr ⟨[T,U],rfl,by simp[a,j],by simpa using h⟩⟩
@[simp] theorem V5 (ds:List D):fX [.tup ds] mh Q↔Q (.int ds.length) mh:=by
 unfold fX;exact⟨λb=>by obtain⟨a,e,h⟩:=b;cases e;obtain⟨d,c,h⟩:=h;cases c;exact h,λh=>⟨_,rfl,ds,rfl,h⟩⟩
@[simp] theorem aFb (ds:List D):fX [.fl ds] mh Q↔Q (.int ds.length) mh:=by
 unfold fX;exact⟨λb=>by obtain⟨a,e,h⟩:=b;cases e;obtain⟨d,c,h⟩:=h;cases c;exact h,λh=>⟨_,rfl,ds,rfl,h⟩⟩
theorem lN(h:mh[n]? =some (.lst ds)):fX [.ref n] mh Q↔Q (.int ds.length) mh:=by
 unfold fX;have e:bG mh (.ref n)=some ds:=by simp[bG,h]
 exact⟨λb=>by obtain⟨a,f,c⟩:=b;cases f;obtain⟨g,d,c⟩:=c;rw[e]at d;cases d;exact c,λc=>⟨_,rfl,ds,e,c⟩⟩
@[simp] theorem aFa (z:Str):fX [.str z] mh Q↔z.length<=sizeLine/\Q (.int z.length) mh:=by
 unfold fX;exact⟨λb=>by obtain⟨a,e,h⟩:=b;cases e;exact h,λh=>⟨_,rfl,h⟩⟩
@[simp] theorem s_abs (i:Int):UB [.int i] mh Q↔Q (.int (if i<0 then -i else i)) mh:=by
 unfold UB;exact⟨λb=>by obtain⟨a,e,h⟩:=b;cases e;exact h,λh=>⟨i,rfl,h⟩⟩
@[simp] theorem aF9 (i j:Int):EC [.int i,.int j] mh Q↔Q (.int (if j > i then j else i)) mh:=by
 unfold EC;exact⟨λc=>by obtain⟨a,b,e,h⟩:=c;cases e;exact h,λh=>⟨i,j,rfl,h⟩⟩
@[simp] theorem aF8 (i j:Int):r9 [.int i,.int j] mh Q↔Q (.int (if j<i then j else i)) mh:=by
 unfold r9;exact⟨λc=>by obtain⟨a,b,e,h⟩:=c;cases e;exact h,λh=>⟨i,j,rfl,h⟩⟩
@[simp] theorem aBe (x:D):oG [x] mh Q↔got (bG mh x) λds=>Q (.tup ds) mh:=by
 unfold oG;rw[<-fA];exact⟨λb=>by obtain⟨a,ds,e,d,h⟩:=b;cases e;exact⟨ds,d,h⟩,λc=>by obtain⟨ds,d,h⟩:=c;exact⟨x,ds,rfl,d,h⟩⟩
@[simp] theorem s_slT (ds:List D)(lo hi:Option Int):oSl (.tup ds) lo hi mh Q=(Q (.tup (cutD ds lo hi)) mh):=rfl
theorem UQ(h:mh[n]? =some (.lst ds))(lo hi:Option Int):oSl (.ref n) lo hi mh Q↔Q (.ref mh.length) (mh++[.lst (cutD ds lo hi)]):=by
 show (∃ds,mW mh (.ref n)=some ds/\Q (.ref mh.length) (mh++[.lst (cutD ds lo hi)]))↔_;have e:mW mh (.ref n)=some ds:=by simp[mW,h]
 exact⟨λa=>by obtain⟨d,c,b⟩:=a;rw[e]at c;cases c;exact b,λb=>⟨ds,e,b⟩⟩
theorem uI{P:MH->Prop}(h:mh[n]? =some (.lst ds))(i:Int)(d:D):QZ (.ref n) (.int i) d mh P↔got (FO ds.length i) λj=>P (mh.set n (.lst (ds.set j d))):=by
 unfold QZ;rw[<-fA];exact⟨λa=>by obtain⟨m,o,k,j,f,g,c,l,e⟩:=a;cases f;cases g;rw[h]at c;cases c;exact⟨j,l,e⟩,λb=>by obtain⟨j,c,e⟩:=b;exact⟨n,ds,i,j,rfl,rfl,h,c,e⟩⟩
theorem dS{b:List D}(h:mh[n]? =some (.lst b))(d:D):cP (.ref n) [d] mh Q↔b.length<sizeLine/\Q .b9 (mh.set n (.lst (b++[d]))):=by
 unfold cP;exact⟨λa=>by obtain⟨m,fs,d',f,g,e,c⟩:=a;cases f;cases g;rw[h]at e;cases e;exact c,λc=>⟨n,b,d,rfl,rfl,h,c⟩⟩
@[simp] theorem aGj (d:D)(ds:List D):mY (d::ds) 0=some d:=by
 have:=iG (xs:=d::ds) (j:=0) (v:=d) rfl;simpa using this
theorem fL(mh:MH)(o:MO):(mh++[o])[mh.length]? =some o:=by simp
end
variable{n:Nat}{d:D}
theorem cA(h:R d mh):Out n d mh R:= .inl h
theorem uU{mh a:MH}(ok:i7 mh)(b:dB mh.length d=true)(h:R d mh):Out mh.length d (mh++a) R:= .inr (.inl ⟨mh,a,rfl,aGy _,ok,b,h⟩)
def lx:List Int->List Int->Bool
 | [],[]=>false
 | [],_::_=>true
 | _::_,[]=>false
 | a::as,b::bs=>if a<b then true else if b<a then false else lx as bs
theorem HK:∀x y:List Int,lx x y=true->lx y x=false
 | [],[],h=>by simp[lx]at h
 | [],_::_,h=>by simp[lx]
 | _::_,[],h=>by simp[lx]at h
 | a::as,b::bs,h=>by
  simp only[lx]at h⊢;by_cases c:a<b
  ·rw[if_neg (by lia),if_pos c]
  ·rw[if_neg c]at h;by_cases d:b<a
   ·rw[if_pos d]at h;cases h
   ·rw[if_neg d]at h⊢;rw[if_neg c];exact HK as bs h
theorem UZ:∀x y z:List Int,lx y x=false->lx z y=false->lx z x=false
 | [],y,z,h1,h2=>by
  cases z with
  | nil=>rfl
  | cons _ _=>rfl
 | a::as,[],z,h1,h2=>by simp[lx]at h1
 | a::as,b::bs,[],h1,h2=>by simp[lx]at h2
 | a::as,b::bs,c::cs,h1,h2=>by
  simp only[lx]at h1 h2⊢;by_cases d:b<a
  ·rw[if_pos d]at h1;cases h1
  ·rw[if_neg d]at h1;by_cases e:c<b
   ·rw[if_pos e]at h2;cases h2
   ·rw[if_neg e]at h2;rw[if_neg (by lia)];by_cases f:a<c
    ·rw[if_pos f]
    ·rw[if_neg f];rw[if_neg (by lia)]at h1 h2;exact UZ as bs cs h1 h2
def jL:D->List Int
 | .int i=>[i]
 | .str z=>z.cps.toList.map (λ(c:Nat)=>(c:Int))++[-1]
 | _=>[]
def enc:D->List Int
 | .tup ds=>ds.flatMap jL
 | d=>jL d
theorem FF:∀a b:List Nat,lx (a.map (λ(c:Nat)=>(c:Int))++[-1]) (b.map (λ(c:Nat)=>(c:Int))++[-1])=decide (a<b)
 | [],[]=>by simp[lx]
 | [],b::bs=>by
  have:(-1:Int)<(b:Int):=by lia
  simp[lx,this]
 | a::as,[]=>by
  have d:¬((a:Int) < -1):=by lia
  have f:(-1:Int)<(a:Int):=by lia
  simp[lx,d,f]
 | a::as,b::bs=>by
  have g:=FF as bs;simp only[List.map_cons,List.cons_append,lx,g];by_cases d:a<b
  ·rw[if_pos (by lia)];exact(decide_eq_true (List.cons_lt_cons_iff.mpr (.inl d))).symm
  ·rw[if_neg (by lia)];by_cases f:b<a
   ·rw[if_pos (by lia)];exact(aIw (λq=>by rcases List.cons_lt_cons_iff.mp q with q | q <;> lia)).symm
   ·rw[if_neg (by lia)];have e:a=b:=by lia
    subst e;rw[Bool.eq_iff_iff,decide_eq_true_iff,decide_eq_true_iff,List.cons_lt_cons_iff];simp
inductive Sc where | i | s
def fN:Sc->D->Bool
 | .i,.int _=>true
 | .s,.str _=>true
 | _,_=>false
def dY:List Sc->List D->Bool
 | [],[]=>true
 | c::cs,d::ds=>fN c d && dY cs ds
 | _,_=>false
theorem R5(x:List Int):∀r b :List Int,lx (x++r) (x++b)=lx r b :=by
 induction x with
 | nil=>intro r b;rfl
 | cons a as ih=>intro r b;simp[lx,ih]
theorem QV{a b:Str}(h:a.cps.toList=b.cps.toList):a=b:=by
 cases a;cases b;simp at h;simp[h]
theorem rO:∀(a b:List Nat) (r d :List Int),a≠b->lx ((a.map (λ(c:Nat)=>(c:Int))++[-1])++r) ((b.map (λ(c:Nat)=>(c:Int))++[-1])++d)=lx (a.map (λ(c:Nat)=>(c:Int))++[-1]) (b.map (λ(c:Nat)=>(c:Int))++[-1])
 | [],[],_,_,h=>absurd rfl h
 | [],b::bs,r,d,_=>by
  have:(-1:Int)<(b:Int):=by lia
  simp[lx,this]
 | a::as,[],r,d,_=>by
  have f:¬((a:Int) < -1):=by lia
  have g:(-1:Int)<(a:Int):=by lia
  simp[lx,f,g]
 | a::as,b::bs,r,d,h=>by
  simp only[List.map_cons,List.cons_append,lx];by_cases f:(a:Int)<b
  ·simp[f]
  ·by_cases g:(b:Int)<a
   ·simp[f,g]
   ·have e:a=b:=by lia
    subst e;simp only[f,g,if_false];exact rO as bs r d λq=>h (by rw[q])
theorem R7{c:Sc}{d e:D}(f:fN c d=true)(k:fN c e=true)(h:d≠e)(r g :List Int):lx (jL d++r) (jL e++g)=lx (jL d) (jL e):=by
 cases c <;> cases d <;> simp[fN]at f <;> cases e <;> simp[fN]at k
 ·rename_i i j;have:i≠j:=λq=>h (by rw[q]);simp only[jL,List.cons_append,List.nil_append,lx];by_cases f:i<j
  ·simp[f]
  ·have:j<i:=by lia
   simp[f,this]
 ·rename_i a b;simp only[jL];exact rO _ _ r g λq=>h (by rw[QV q])
theorem O5{c:Sc}{d e:D}(a:fN c d=true)(b:fN c e=true):pY d e=true↔d=e:=by
 cases c <;> cases d <;> simp[fN]at a <;> cases e <;> simp[fN]at b
 ·simp[pY]
 ·simp[pY]
mutual
theorem LN{h:Heap}:∀{d e:D} {u:Value},Vl h d u->Vl h e u->d=e
 | .b9,e,u,p,q=>by
  unfold Vl at p;subst p
  cases e <;> unfold Vl at q <;> first | rfl | (cases q;done) | (obtain⟨_,q⟩:=q;cases q;done) | (obtain⟨_,_,q,_⟩:=q;cases q;done)
 | .bl a,e,u,p,q=>by
  unfold Vl at p;subst p
  cases e <;> unfold Vl at q <;> first | (cases q;rfl) | (cases q;done) | (obtain⟨_,q⟩:=q;cases q;done) | (obtain⟨_,_,q,_⟩:=q;cases q;done)
 | .int a,e,u,p,q=>by
  unfold Vl at p;obtain⟨t,rfl⟩:=p
  cases e <;> unfold Vl at q <;> first | (cases q;done) | (obtain⟨_,q⟩:=q;cases q;rfl) | (obtain⟨_,q⟩:=q;cases q;done) | (obtain⟨_,_,q,_⟩:=q;cases q;done)
 | .str a,e,u,p,q=>by
  unfold Vl at p;obtain⟨t,rfl⟩:=p
  cases e <;> unfold Vl at q <;> first | (cases q;done) | (obtain⟨_,q⟩:=q;cases q;rfl) | (obtain⟨_,q⟩:=q;cases q;done) | (obtain⟨_,_,q,_⟩:=q;cases q;done)
 | .ty _,e,u,p,q=>by unfold Vl at p;exact p.elim
 | .ref _,e,u,p,q=>by unfold Vl at p;exact p.elim
 | .tup as,e,u,p,q=>by
  unfold Vl at p;obtain⟨a,us,rfl,ht,l⟩:=p
  cases e with
  | tup bs=>
   unfold Vl at q;obtain⟨b,f,e,c,g⟩:=q;cases e;obtain⟨o,k,_,n,m⟩:=ht;obtain⟨v,i,_,w,j⟩:=c;rw[k]at i;cases i;rw[m]at j;injection j with r;have s:us=f:=by simpa using aHu Array.toList r
   subst s;rw[y6 l g]
  | fl bs=>
   unfold Vl at q;obtain⟨b,f,e,c,g⟩:=q;cases e;exact(sV c ht).elim
  | _=>unfold Vl at q;first | (cases q;done) | (obtain⟨_,q⟩:=q;cases q;done)
 | .fl as,e,u,p,q=>by
  unfold Vl at p;obtain⟨a,us,rfl,ht,l⟩:=p
  cases e with
  | fl bs=>
   unfold Vl at q;obtain⟨b,f,e,c,g⟩:=q;cases e;obtain⟨o,k,_,n,m⟩:=ht;obtain⟨v,i,_,w,j⟩:=c;rw[k]at i;cases i;rw[m]at j;injection j with r;have s:us=f:=by simpa using aHu Array.toList r
   subst s;rw[y6 l g]
  | tup bs=>
   unfold Vl at q;obtain⟨b,f,e,c,g⟩:=q;cases e;exact(sV ht c).elim
  | _=>unfold Vl at q;first | (cases q;done) | (obtain⟨_,q⟩:=q;cases q;done)
theorem y6{h:Heap}:∀{ds a:List D} {us:List Value},eN h ds us->eN h a us->ds=a
 | [],a,us,p,q=>by unfold eN at p;subst p;cases a with | nil=>rfl | cons=>unfold eN at q;obtain⟨_,_,e,_⟩:=q;cases e
 | d::ds,a,us,p,q=>by
  unfold eN at p;obtain⟨u,r,rfl,i,l⟩:=p
  cases a with
  | nil=>unfold eN at q;cases q
  | cons e a=>
   unfold eN at q;obtain⟨g,j,b,c,f⟩:=q;cases b;rw[LN i c,y6 l f]
end
mutual
theorem Vl.keep{h h' :Heap}(k:∀b o,h.get? b=some o->h'.get? b=some o):∀(d:D) (u:Value),Vl h d u->Vl h' d u
 | .b9,u,q=>by unfold Vl at*;exact q
 | .bl _,u,q=>by unfold Vl at*;exact q
 | .int _,u,q=>by unfold Vl at*;exact q
 | .str _,u,q=>by unfold Vl at*;exact q
 | .ty _,u,q=>by unfold Vl at*;exact q
 | .ref _,u,q=>by unfold Vl at*;exact q
 | .tup ds,u,q=>by
  unfold Vl at*;obtain⟨a,us,e,⟨o,c,f⟩,l⟩:=q;exact⟨a,us,e,⟨o,k _ _ c,f⟩,eN.keep k ds us l⟩
 | .fl ds,u,q=>by
  unfold Vl at*;obtain⟨a,us,e,⟨o,c,f⟩,l⟩:=q;exact⟨a,us,e,⟨o,k _ _ c,f⟩,eN.keep k ds us l⟩
theorem eN.keep{h h' :Heap}(k:∀b o,h.get? b=some o->h'.get? b=some o):∀(ds:List D) (us:List Value),eN h ds us->eN h' ds us
 | [],us,q=>by unfold eN at*;exact q
 | d::ds,us,q=>by
  unfold eN at*;obtain⟨u,r,e,i,l⟩:=q;exact⟨u,r,e,Vl.keep k d u i,eN.keep k ds r l⟩
end
def K2(ds:List D):Prop:=(∃c,∀d∈ds,fN c d=true)\/∃c b,∀d∈ds,∃a,d= .tup a/\dY (c::b) a=true
open Classical in
noncomputable def dv(h:Heap)(u:Value):D:=if q:∃d,Vl h d u then q.choose else .b9
theorem nT{u:Value}(p:Vl h d u):dv h u=d:=by
 unfold dv;rw[dif_pos ⟨d,p⟩];exact LN (Exists.choose_spec (⟨d,p⟩:∃d,Vl h d u)) p
noncomputable def ltV(h:Heap)(x y:Keyed):Bool:=lx (enc (dv h x.1)) (enc (dv h y.1))
theorem FG(h:Heap):TS.Wk (ltV h):=⟨λx y=>HK _ _,λx y z=>UZ _ _ _⟩
theorem mH{h:Heap}:∀{ds:List D} {us:List Value},eN h ds us->∀u∈us,∃d∈ds,Vl h d u
 | [],us,q,u,hu=>by unfold eN at q;subst q;cases hu
 | d::ds,us,q,u,hu=>by
  unfold eN at q;obtain⟨w,r,rfl,i,l⟩:=q;rcases aH2.mp hu with rfl | hu
  ·exact⟨d,aGw,i⟩
  ·obtain⟨e,he,p⟩:=mH l u hu;exact⟨e,aGx _ he,p⟩
open PySem.W in
theorem xZ{prog:Program}{w:World}{A:Around}{Q:Bool->Shared->Prop}{s:Shared}(p:A.units+32<cLine):∀(m:List Sc) (as bs:List D) (us vs:List Value) (i:Nat) (b:Bool),(b=true->i=0->True)->dY m as=true->dY m bs=true->eN s.heap as us->eN s.heap bs vs->
  Q (lx (as.flatMap jL) (bs.flatMap jL)) s->KatLex prog w A b false Q (us.zip vs) i s
 | [],[],[],us,vs,i,b,_,_,_,f,g,q=>by unfold eN at f g;subst f g;exact kat_nil q
 | [],[],_::_,_,_,_,_,_,_,h2,_,_,_=>by simp[dY]at h2
 | [],_::_,_,_,_,_,_,_,h1,_,_,_,_=>by simp[dY]at h1
 | _::_,[],_,_,_,_,_,_,h1,_,_,_,_=>by simp[dY]at h1
 | _::_,_::_,[],_,_,_,_,_,_,h2,_,_,_=>by simp[dY]at h2
 | c::m,a::as,d::bs,us,vs,i,b,hb,h1,h2,f,g,q=>by
  unfold eN at f g;obtain⟨u,r,rfl,h,f⟩:=f;obtain⟨v,t,rfl,j,g⟩:=g;simp only[dY,Bool.and_eq_true]at h1 h2;rw[List.zip_cons_cons];have B:deep a<=0:=by cases c <;> cases a <;> simp[fN]at h1 <;> simp[deep]
  refine kat_cons (oD (s:=s) 0 B (by lia) h j prog w _ _ ?_);simp only[List.flatMap_cons]at q;refine kat_go (λe=>kat_yes ?_) (λe=>kat_no ?_)
  ·have n:a=d:=(O5 h1.1 h2.1).mp e;subst n;rw[R5]at q;exact xZ p m as bs r t (i+1) b (λ_ _=>trivial) h1.2 h2.2 f g q
  ·have o:a≠d:=λz=>by rw[(O5 h1.1 h2.1).mpr z]at e;cases e
   rw[R7 h1.1 h2.1 o]at q
   cases c with
   | i=>
    cases a <;> simp[fN]at h1;cases d <;> simp[fN]at h2;rename_i x y;unfold Vl at h j;obtain⟨C,rfl⟩:=h;obtain⟨E,rfl⟩:=j
    have k :Q (decide (x<y)) s:=by
     have:lx (jL (.int x)) (jL (.int y))=decide (x<y):=by
      simp only[jL,lx];by_cases l:x<y
      ·simp[l]
      ·simp[l]
     rw[<-this];exact q
    cases hbi:(b && i==0) with
    | true=>exact oneLt_int k
    | false=>exact kat_one _ _ (lt_int k)
   | s=>
    cases a <;> simp[fN]at h1;cases d <;> simp[fN]at h2;rename_i x y;unfold Vl at h j;obtain⟨C,rfl⟩:=h;obtain⟨E,rfl⟩:=j
    have k :Q (decide (x.cps.toList<y.cps.toList)) s:=by
     have:lx (jL (.str x)) (jL (.str y))=decide (x.cps.toList<y.cps.toList):=FF _ _;rw[<-this];exact q
    cases hbi:(b && i==0) with
    | true=>exact oneLt_str k
    | false=>exact kat_one _ _ (lt_str k)
def scT:Sc->String | .i=>"int" | .s=>"str"
section
variable {prog:Program}{w:World}{A:Around}
theorem qN:∀{a:List Sc} {ds:List D},dY a ds=true->ds.length=a.length
 | [],[],_=>rfl
 | [],_::_,h=>by simp[dY]at h
 | _::_,[],h=>by simp[dY]at h
 | c::a,d::ds,h=>by simp only[dY,Bool.and_eq_true]at h;simp[qN h.2]
theorem mL{vs:List Value}{x:Keyed}(h:x∈(pairsOf vs).toList):x=(x.1,x.1)/\x.1∈vs:=by
 rw[pairsOf_toList]at h
 induction vs with
 | nil=>simp at h
 | cons v r ih=>
  rw[List.zip_cons_cons]at h;rcases aH2.mp h with e | e
  ·rw[e];exact⟨rfl,aGw⟩
  ·obtain⟨a,b⟩:=ih e;exact⟨a,aGx _ b⟩
theorem uA{s:Shared}{vs:List Value}(hu:A.units+40<cLine)(U:K2 ds)(l:eN s.heap ds vs)(T:2<=vs.length):
  ∃κ,∀h' :Heap,(∀b o,s.heap.get? b=some o->h'.get? b=some o)->TS.mV prog w A {s with heap:=h'} κ (ltV s.heap) (pairsOf vs)/\
   ∀B G,B κ {s with heap:=h'}->wpAny (model prog w) A (keyKind' vs.toArray) B G {s with heap:=h'}:=by
 rcases U with ⟨c,f⟩ | ⟨c,V,f⟩
 ·refine⟨oneType',λh' k=>⟨λx y H I Q q=>?_,λB G q=>?_⟩⟩
  ·obtain⟨_,J⟩:=mL H;obtain⟨_,K⟩:=mL I;obtain⟨d,g,dp⟩:=mH l _ J;obtain⟨e,em,ep⟩:=mH l _ K
   have C :Q (lx (enc d) (enc e)) {s with heap:=h'}:=by
    have:ltV s.heap x y=lx (enc d) (enc e):=by unfold ltV;rw[nT dp,nT ep]
    rw[<-this];exact q
   have hd:=f d g;have he:=f e em;obtain⟨x1,x2⟩:=x;obtain⟨y1,y2⟩:=y
   cases c with
   | i=>
    cases d <;> simp[fN]at hd;cases e <;> simp[fN]at he;rename_i i j;unfold Vl at dp ep;obtain⟨h,rfl⟩:=dp;obtain⟨t2,rfl⟩:=ep;refine PySem.W.kat_lt_int ?_
    have:lx (enc (.int i)) (enc (.int j))=decide (i<j):=by
     simp only[enc,jL,lx];by_cases m:i<j
     ·simp[m]
     ·simp[m]
    rw[<-this];exact C
   | s=>
    cases d <;> simp[fN]at hd;cases e <;> simp[fN]at he;rename_i i j;unfold Vl at dp ep;obtain⟨h,rfl⟩:=dp;obtain⟨t2,rfl⟩:=ep;refine PySem.W.kas_lt_str ?_;have:lx (enc (.str i)) (enc (.str j))=decide (i.cps.toList<j.cps.toList):=FF _ _;rw[<-this];exact C
  ·have ty:∀v∈vs,PySem.W.Looks (model prog w) h' (typeOf v) (.type (scT c)):=λv hv=>by
    obtain⟨d,g,dp⟩:=mH l _ hv;have hd:=f d g
    cases c with
    | i=>cases d <;> simp[fN]at hd;unfold Vl at dp;obtain⟨h,rfl⟩:=dp;exact aJa rfl
    | s=>cases d <;> simp[fN]at hd;unfold Vl at dp;obtain⟨h,rfl⟩:=dp;exact aJa rfl
   exact PySem.W.kas_kind (s:={s with heap:=h'}) T ty (by cases c <;> rfl) (by cases c <;> rfl) q
 ·refine⟨tuples' true,λh' k=>⟨λx y H I Q q=>?_,λB G q=>?_⟩⟩
  ·obtain⟨_,J⟩:=mL H;obtain⟨_,K⟩:=mL I;obtain⟨d,g,dp⟩:=mH l _ J;obtain⟨e,em,ep⟩:=mH l _ K
   have C :Q (lx (enc d) (enc e)) {s with heap:=h'}:=by
    have:ltV s.heap x y=lx (enc d) (enc e):=by unfold ltV;rw[nT dp,nT ep]
    rw[<-this];exact q
   obtain⟨as,rfl,ha⟩:=f d g;obtain⟨bs,rfl,hb⟩:=f e em;obtain⟨x1,x2⟩:=x;obtain⟨y1,y2⟩:=y;unfold Vl at dp ep;obtain⟨a,us,ea,⟨o,ho,t,n,hd⟩,z⟩:=dp;obtain⟨b,L,eb,⟨o2,M,X,n2,N⟩,Y⟩:=ep;have O :x1=Value.ref a:=ea;have P :y1=Value.ref b:=eb;subst O P;refine PySem.W.kat_lt (s:={s with heap:=h'}) (k _ _ ho) hd (k _ _ M) N ?_;have z1:=bH z;have z2:=bH Y;have z3:=qN ha;have z4:=qN hb;have zz:decide (us.toArray.size<L.toArray.size)=false:=aIw (by simp only[List.size_toArray];lia);rw[zz];exact xZ (s:={s with heap:=h'}) (by lia) (c::V) as bs us L 0 true (λ_ _=>trivial) ha hb (eN.keep k as us z) (eN.keep k bs L Y) C
  ·have fs:∃fs:List Value,PySem.W.KatTups h' vs fs/\fs.length=vs.length/\∀v∈fs,PySem.W.Looks (model prog w) h' (typeOf v) (.type (scT c)):=by
    clear q T
    have go:∀(ds:List D) (vs:List Value),(∀d∈ds,∃E,d= .tup E/\dY (c::V) E=true)->eN s.heap ds vs->∃fs:List Value,PySem.W.KatTups h' vs fs/\fs.length=vs.length/\∀v∈fs,PySem.W.Looks (model prog w) h' (typeOf v) (.type (scT c)):=by
     intro ds
     induction ds with
     | nil=>intro vs _ l;unfold eN at l;subst l;exact⟨[],PySem.W.KatTups.nil,rfl,λv hv=>by cases hv⟩
     | cons d r ih=>
      intro vs f l;unfold eN at l;obtain⟨u,ur,rfl,p,l⟩:=l;obtain⟨fs,R,Z,S⟩:=ih ur (λe he=>f e (aGx _ he)) l;obtain⟨E,rfl,he⟩:=f d aGw;unfold Vl at p;obtain⟨a,us,rfl,⟨o,ho,t,n,hd⟩,z⟩:=p
      cases E with
      | nil=>simp[dY]at he
      | cons e0 er=>
       unfold eN at z;obtain⟨u0,u1,rfl,F,_⟩:=z;simp only[dY,Bool.and_eq_true]at he;refine⟨u0::fs,PySem.W.KatTups.cons (k _ _ ho) t hd (by simp) R,by simp[Z],λv hv=>?_⟩;rcases aH2.mp hv with rfl | hv
       ·cases c with
        | i=>cases e0 <;> simp[fN]at he;unfold Vl at F;obtain⟨h,rfl⟩:=F;exact aJa rfl
        | s=>cases e0 <;> simp[fN]at he;unfold Vl at F;obtain⟨h,rfl⟩:=F;exact aJa rfl
       ·exact S v hv
    exact go ds vs f l
   obtain⟨fs,R,Z,S⟩:=fs;refine PySem.W.kat_kind (s:={s with heap:=h'}) R (by lia) S (by cases c <;> rfl) ?_;have:(Value.type (scT c) !=Value.type "tuple")=true:=by cases c <;> rfl
   rw[this];exact q
end
theorem lP{α c:Type}(f:α->c):∀{l:List c} {m:List c},l.Perm m->∀t:List α,m=t.map f->∃t' :List α,t'.Perm t/\t'.map f=l:=by
 intro l m h
 induction h with
 | nil=>intro t e;cases t <;> simp at e;exact⟨[],.refl _,rfl⟩
 | cons x _ ih=>
  intro t e
  cases t with
  | nil=>simp at e
  | cons a r=>
   simp at e;obtain⟨t',p,q⟩:=ih r e.2;exact⟨a::t',p.cons a,by simp[q,e.1]⟩
 | swap x y l=>
  intro t e
  match t,e with
  | [],e=>simp at e
  | [_],e=>simp at e
  | a::b::r,e=>
   simp at e;exact⟨b::a::r,.swap _ _ _,by simp[e]⟩
 | trans _ _ ih1 ih2=>
  intro t e;obtain⟨d,g,i⟩:=ih2 t e;obtain⟨j,k,n⟩:=ih1 d i.symm;exact⟨j,k.trans g,n⟩
def IM:OA:=λxs mh Q=>∃x ds,xs=[x]/\mW mh x=some ds/\ds.length<4000/\K2 ds/\
 ∀a,a.Perm ds->a.Pairwise (λd e=>lx (enc e) (enc d)=false)->Q (.ref mh.length) (mh++[.lst a])
theorem yU(U:K2 ds):fQ ds=true:=by
 have sc:∀{b:List Sc} {a:List D},dY b a=true->fQ a=true:=λ{b}=>by
  induction b with
  | nil=>intro a h;cases a with | nil=>rfl | cons=>simp[dY]at h
  | cons c b ih=>
   intro a h
   cases a with
   | nil=>simp[dY]at h
   | cons e a=>
    simp only[dY,Bool.and_eq_true]at h;simp only[fQ,ih h.2,Bool.and_true];cases c <;> cases e <;> simp[fN]at h <;> rfl
 rcases U with ⟨c,f⟩ | ⟨c,b,f⟩
 ·induction ds with
  | nil=>rfl
  | cons d r ih=>
   have hd:=f d aGw;simp only[fQ,ih λe he=>f e (List.mem_cons_of_mem _ he),Bool.and_true];cases c <;> cases d <;> simp[fN]at hd <;> rfl
 ·induction ds with
  | nil=>rfl
  | cons d r ih=>
   obtain⟨a,rfl,he⟩:=f d aGw;simp only[fQ,ih λe he=>f e (List.mem_cons_of_mem _ he),Bool.and_true];simpa[bare] using sc he
structure Tri where
 d:D
 v:V
 u:Value
theorem VS{K:aL1}{μ:List Addr}{H:Hp}{h:Heap}:∀{ds:List D} {vs:List V} {us:List Value},IsL K μ H ds vs->Vals vs us->eN h ds us->∃g:List Tri,g.map (·.d)=ds/\g.map (·.v)=vs/\g.map (·.u)=us/\∀t∈g,Is K μ H t.d t.v/\RelV t.v t.u/\Vl h t.d t.u
 | [],vs,us,l,r,q=>by unfold IsL at l;subst l;cases r;exact⟨[],rfl,rfl,rfl,λt ht=>by cases ht⟩
 | d::ds,vs,us,l,r,q=>by
  unfold IsL at l;obtain⟨v,x,rfl,i,l⟩:=l
  cases r with
  | @cons _ j _ k m n=>
   unfold eN at q;obtain⟨w,y,e,p,q⟩:=q;injection e with o s;subst o s;obtain⟨g,a,b,c,f⟩:=VS l n q
   exact⟨⟨d,v,j⟩::g,by simp[a],by simp[b],by simp[c],λt ht=>by
    rcases aH2.mp ht with rfl | ht
    ·exact⟨i,m,p⟩
    ·exact f t ht⟩
theorem AB{K:aL1}{μ:List Addr}{H:Hp}:∀{a:List Tri},(∀t∈a,Is K μ H t.d t.v)->IsL K μ H (a.map (·.d)) (a.map (·.v))
 | [],_=>by simp[IsL]
 | t::a,h=>by
  simp only[List.map_cons];unfold IsL;exact⟨_,_,rfl,h t aGw,AB λx b=>h x (aGx _ b)⟩
theorem tS:∀{a:List Tri},(∀t∈a,RelV t.v t.u)->Vals (a.map (·.v)) (a.map (·.u))
 | [],_=>.nil
 | t::a,h=>.cons (h t aGw) (tS λx b=>h x (aGx _ b))
section
variable {X:Cx}
theorem KI(hu:X.A.units+64<cLine):cU X (.builtin "sorted") (fF X.K IM):=by
 intro pins s σ H xs us Q I r q;obtain⟨μ,mh,ds,R,p,J,⟨x,g,rfl,e,L,U,q⟩,F⟩:=q;obtain⟨v,rfl,M⟩:=nP J;obtain⟨a,vs,rfl,sq,l⟩:=u6 p M e;obtain⟨u,rfl,N⟩:=vals1 r;cases N;obtain⟨aH,y,O,hz⟩:=I.list sq;have h:=qG I g (yU U) l y;have B:aH.length=g.length:=bH h;have P:X.A.in1.in1.units+40<cLine:=by show X.A.units+1+1+40<_;lia
 have ask:∃κ,2<=aH.length->∀h' :Heap,(∀b o,s.heap.get? b=some o->h'.get? b=some o)->TS.mV X.prog X.w X.A.in1.in1 {s with heap:=h'} κ (ltV s.heap) (pairsOf aH)/\
   ∀C S,C κ {s with heap:=h'}->wpAny (model X.prog X.w) X.A.in1.in1 (keyKind' aH.toArray) C S {s with heap:=h'}:=by
  by_cases D:2<=aH.length
  ·obtain⟨κ,T⟩:=uA (prog:=X.prog) (w:=X.w) (A:=X.A.in1.in1) P U h D;exact⟨κ,λ_=>T⟩
  ·exact⟨general',λz=>absurd z D⟩
 obtain⟨κ,ask⟩:=ask;refine TS.LZ (κ:=κ) (FG s.heap) O.isList (by lia) ask λout E i=>?_;obtain⟨V,W,Y,Z,t4⟩:=VS l y h;rw[<-Z]at E;obtain⟨c,j,G⟩:=lP (·.u) E V rfl;have f:∀t∈c,Is X.K μ H t.d t.v/\RelV t.v t.u/\Vl s.heap t.d t.u:=λt ht=>t4 t (j.mem_iff.mp ht);have pd:(c.map (·.d)).Perm g:=by rw[<-W];exact j.map _
 have pw:(c.map (·.d)).Pairwise (λd e=>lx (enc e) (enc d)=false):=by
  rw[<-G]at i;rw[List.pairwise_map]at i⊢;refine i.imp_of_mem λ{t t'} m m' k=>?_;have e1:dv s.heap t.u=t.d:=nT (f t m).2.2;have e2:dv s.heap t'.u=t'.d:=nT (f t' m').2.2;unfold ltV at k;rw[e1,e2]at k;exact k
 obtain⟨ep,he⟩:=sortedAll_at s.heap aH out.toArray
 have ln:(c.map (·.v)).length<=sizeLine:=by
  have:=j.length_eq;have n :=aHu List.length Y;simp at n ⊢
  lia
 have I1:Inv X pins σ (upd H (s.heap.objs.size+1) (.lst (c.map (·.v)))) {s with heap:=sortedAll s.heap aH out.toArray}:=
  I.laid (t' :=s.toks) (λb o hb=>sortedAll_old hb) (aKt _) ⟨ln,out,ep,by rw[<-G];exact tS λt ht=>(f t ht).2.1,he⟩
 exact⟨.ref (s.heap.objs.size+1),_,I1,rfl,iE p F (AB λt ht=>(f t ht).1) (q _ pd pw) _ (I.bO.fresh (aKt _))⟩
end
theorem bJ{g:WG}{b:WS}{E:d6}{St:MH->Prop}(e:Nat->d7->MH->Prop)(ds:List D)(f:∀i a mh,e i a mh->St mh)
  (l:∀i d a mh (N:d7->MH->Prop),ds[i]? =some d->e i a mh->(∀c mh',e (i+1) c mh' ->N c mh')->g d a λj=>b {E with nx:=N,ct:=N,bk:=E.nx} j mh)
  (hd:∀a mh,e ds.length a mh->E.nx a mh) {a:d7}  (h0:e 0 a mh):j7 g b E St ds a mh:=by
 have go:∀(k i:Nat),i+k=ds.length->∀a mh,e i a mh->j7 g b E St (ds.drop i) a mh:=by
  intro k
  induction k with
  | zero=>
   intro i hi a mh p;have:i=ds.length:=by lia
   subst this;rw[List.drop_of_length_le (Nat.le_refl _)];exact⟨f _ _ _ p,hd a mh p⟩
  | succ k ih=>
   intro i hi a mh p;have h:i<ds.length:=by lia
   rw[List.drop_eq_getElem_cons h];exact⟨f _ _ _ p,l i ds[i] a mh _ (by simp[h]) p λc mh' m =>ih (i+1) (by lia) c mh' m⟩
 have:=go ds.length 0 (by simp) a mh h0;simpa using this
theorem PJ{g:WG}{t:WT}{w:WE}{ρe:d7}{St:MH->Prop}{Q:DK}(c:Nat->List D->MH->Prop)(ds:List D)(e:∀i ys mh,c i ys mh->St mh)
  (m:∀i d ys mh (N:List D->MH->Prop),ds[i]? =some d->c i ys mh->(∀a mh',c (i+1) a mh' ->N a mh')->g d ρe λf=>t f mh λb h=>if b=true then w f h λy l=>N (ys++[y]) l else N ys h)
  (hd:∀ys mh,c ds.length ys mh->Q (.ref mh.length) (mh++[.lst ys]))  (h0:c 0 [] mh):i4 g t w ρe St Q ds [] mh:=by
 have go:∀(k i:Nat),i+k=ds.length->∀ys mh,c i ys mh->i4 g t w ρe St Q (ds.drop i) ys mh:=by
  intro k
  induction k with
  | zero=>
   intro i hi ys mh p;have:i=ds.length:=by lia
   subst this;rw[List.drop_of_length_le (Nat.le_refl _)];exact⟨e _ _ _ p,hd ys mh p⟩
  | succ k ih=>
   intro i hi ys mh p;have j:i<ds.length:=by lia
   rw[List.drop_eq_getElem_cons j];exact⟨e _ _ _ p,m i ds[i] ys mh (λa mh' =>i4 g t w ρe St Q (ds.drop (i+1)) a mh') (by simp[j]) p λa mh' n =>ih (i+1) (by lia) a mh' n⟩
 have:=go ds.length 0 (by simp) [] mh h0;simpa using this
theorem pH{lo:Int}{n i:Nat}(h:(uN lo n)[i]? =some d):i<n/\d= .int (lo+i):=by
 simp only[uN,List.getElem?_map]at h;obtain⟨k,a,rfl⟩:=aHr.mp h;obtain⟨hi,rfl⟩:=aGt.mp a;simp at hi;exact⟨hi,by simp⟩
@[simp] theorem Q2 (lo:Int)(n:Nat):(uN lo n).length=n:=by simp[uN]
def wV(mh:MH)(b:Nat):Prop:=∃c m:Int,mh[b]? =some (.lst [.int c,.int m])/\0<=c/\0<=m/\m<2147483629
variable{b:Nat}
theorem wV.lt(h:wV mh b):b<mh.length:=let ⟨_,_,e,_⟩:=h;(aGt.mp e).1
def cR(mh:MH)(b:Nat)(mh' :MH):Prop:=wV mh' b/\∃o,mh' =mh.set b o
theorem cR.len{mh mh' :MH}(h:cR mh b mh'):mh'.length=mh.length:=by obtain⟨_,o,rfl⟩:=h;simp
theorem cR.trans{mh a c:MH}(h:cR mh b a)(h' :cR a b c):cR mh b c:=by
 obtain⟨_,o,rfl⟩:=h;obtain⟨d,e,rfl⟩:=h';exact⟨d,e,by simp⟩
theorem cR.refl(h:wV mh b):cR mh b mh:=by
 refine⟨h,mh[b]'h.lt,?_⟩;simp
theorem cR.other{mh mh' :MH}(h:cR mh b mh')(a:n≠b):mh'[n]? =mh[n]? :=by
 obtain⟨_,o,rfl⟩:=h;exact List.getElem?_set_ne (aHv a)
theorem wV.zM(h:wV mh b)(k:Nat):∀o,mh[b]? =some o->zM k o=true:=by
 obtain⟨c,m,e,_⟩:=h;intro o ho;rw[e]at ho;cases ho;rfl
theorem cR.mok{mh mh' :MH}(h:cR mh b mh')(ok:i7 mh):i7 mh' :=by
 have hb:=h.1;obtain⟨_,o,e⟩:=h;intro x d;have f:mh'.length=mh.length:=by rw[e];simp
 obtain⟨n,c⟩:=aHa.mp d;by_cases a:n=b
 ·subst a;exact hb.zM _ x c
 ·rw[e,List.getElem?_set_ne (Ne.symm a)]at c;rw[f];exact ok x (aH1 c)
def iA:OA:=λds mh Q=>∃b a,ds=[.ref b,.int a]/\1<=a/\a<=1073741789/\wV mh b/\∀r mh',0<=r->r<a->cR mh b mh' ->Q (.int r) mh'
def JB:OA:=λds mh Q=>∃(ns:List Int) (a:Int),ds=[.fl (ns.map .int),.int a]/\ns.length<=63/\0<=a/\a<=100/\∀mh',(∃o,mh' =mh++[o])->wV mh' mh.length->Q (.ref mh.length) mh'
def eU(K:aL1)(x:Str)(st:Stmt):Prop:=∃f oc od kV doc pm an cd ct sl,PySem.W.nsIn K mainGlobals x=some (some (.ref f))/\
 K.lookup f=some ⟨oc,od,.func (PySem.W.fnOf x x (cQ st) (bX st) (aC st) .none kV doc pm an cd ct),sl⟩/\PySem.W.codeIn K cd x=true/\PySem.W.keepIn K (.ref f)=true
variable{st:Stmt}
theorem aE2{f:Addr}{oc:Value}{od an:Option Addr}{sl:Array (Option Value)}{kV doc pm cd ct:Value}(a:PySem.W.nsIn K mainGlobals x=some (some (.ref f)))
  (l:K.lookup f=some ⟨oc,od,.func (PySem.W.fnOf x x (cQ st) (bX st) (aC st) .none kV doc pm an cd ct),sl⟩) (c:PySem.W.codeIn K cd x=true) (k:PySem.W.keepIn K (.ref f)=true):eU K x st:=⟨f,oc,od,kV,doc,pm,an,cd,ct,sl,a,l,c,k⟩
def cE(x:Str)(st:Stmt)(ps:List Str):Prop:=∀(kV doc pm:Value) (an:Option Addr) (cdv ct:Value) (us:List Value),us.length=ps.length->bindArgs (PySem.W.fnOf x x (cQ st) (bX st) (aC st) .none kV doc pm an cdv ct) ⟨us,[]⟩=pure (ps.zip us)
section
variable {P:Program}{w:World}{K:aL1}{mg:aL4}{base:Heap}{h:Heap}
theorem ZM{k:Nat}{s:OA}{wB:WS}(e:eU K x st)(KX:K.In h)(G:h.Ns mainGlobals mg)(g:cE x st ps)(S:aV N ps (aC st))(len:∀ds mh R,s ds mh R->ds.length=ps.length)
  (hb:∀(f:Addr) (cdv:Value) (A:Around) (outer:List Env) (s:Shared) (H:Hp) (E:XK),fH k (A.deeper (envOfC x (aC st) s.heap.objs.size f cdv))->
   kI (vO A8 P w K mg base N x (aC st) f cdv A outer s H E).QA (bX st) wB)
  (i:∀ds mh R,i7 mh->cM mh.length ds=true->s ds mh R->wB {nx:=λ_ b=>Out mh.length .b9 b R,rt:=λd b=>Out mh.length d b R} (aG N ds) mh):Fn P w K mg base (k+1) x ps s:=by
 obtain⟨f,oc,od,kV,doc,pm,an,cd,ct,sl,a,l,c,kp⟩:=e;have F:=FY (st:=st) l c kp;exact⟨f,_,aD4 F S len (λcdv A outer s H E j=>hb f cdv A outer s H E j) i,aKw KX G a,kp,F.binds g⟩
theorem O0{k:Nat}(b:eU K x st)(KX:K.In h)(G:h.Ns mainGlobals mg)(d:cE x st ps):Fn P w K mg base k x ps (λ_ _ _=>False):=by
 obtain⟨f,oc,od,kV,doc,pm,an,cd,ct,sl,a,l,c,kp⟩:=b;have F:=FY (st:=st) l c kp;refine⟨f,_,⟨λvs H Q E q=>?_,λA outer s H args us vs Q E _ _ _ _ q=>?_⟩,aKw KX G a,kp,F.binds d⟩
 ·obtain⟨_,_,_,_,_,_,q,_⟩:=q;exact q.elim
 ·obtain⟨_,_,_,_,_,_,q,_⟩:=q;exact q.elim
end
def wA:OA:=λds mh Q=>∃ns:List Int,ds=[.fl (ns.map .int)]/\ns.length<=63/\∀mh',Q (.bl true) mh'
theorem C9{K:aL1}{μ:List Addr}{H:Hp}:∀ns:List Int,IsL K μ H (ns.map .int) (ns.map .int)
 | []=>by simp[IsL]
 | n::ns=>by simp only[List.map_cons];unfold IsL;exact⟨_,_,rfl,.int,C9 ns⟩
theorem YJ{ns:List Int}(b:ns.length<=63)(c:UD H)(hS:oI K H a (ns.map V.int)):LX K wA [.ref a] H (λv _=>v= .bl true) λ_ _ _=>False:=by
 have e:QF K H a (ns.map V.int):=by
  rcases hS with (hS | hS) | hS
  ·rcases c a with z | ⟨o,xs,z⟩
   ·rw[hS]at z;cases z
   ·rw[hS]at z;cases z
  ·exact .inl hS
  ·exact .inr hS
 refine⟨[],[],[.fl (ns.map .int)],λd _=>d= .bl true,⟨rfl,List.nodup_nil,λn a o f=>by simp at f⟩,?_,⟨ns,rfl,b,λ_=>rfl⟩,λd mh' q μ' v H' _ _ I=>?_⟩
 ·refine mM ?_;unfold Is;exact⟨a,_,rfl,e,C9 ns⟩
 ·subst q;exact OD I
theorem walkD{l:PySem.W.OpenLaw}{k:Nat}{q:Program}{loose:List Str}{XP:(aL4)->Heap->Prop}{c:World->Heap->Prop}{d:DefRec}{K:Params->aL1}(g:l.most=some 63)(b:d.params.defaults=[])(i:fH k callerA)
  (j:∀(w:World) (h:Heap),c w h->(K w.params).In h)
  (F:∀(w:World) (mg:aL4) (e:Addr) (h:Heap),(K w.params).In h->h.Ns mainGlobals mg->mg d.name=some (.ref e)->
   ∃fd:FuncData,(∀(s:Shared) (u:Value),BindsTo s fd ⟨[u],[]⟩ [(x,u)])/\∀base:Heap,(K w.params).In base->base.Ns mainGlobals mg->iN l.prog w (K w.params) mg base A8 k e fd [x] (LX (K w.params) wA)):
  PySem.W.WalkO q loose XP c l.row.toRowW d [] (λf vs=>PySem.call f vs):=
 L2.QP (n:=63) (k:=k) (x:=x) (CX:=λ_=>A8) (sp:=λw=>LX (K w.params) wA) g (by decide) b i j F (λ_ _ a ns m o p=>YJ m o p) λ_ _ _ _ _ z=>z
theorem YL{k:Nat}{g:Addr}(KX:K.In h)(G:h.Ns mainGlobals mg)(i:mg "law"=some (.ref g))(j:eU K "law" st)(S:aV N [x] (aC st))(m:cE "law" st [x])
  (hb:∀base:Heap,∃wB:WS,(∀(f:Addr) (cdv:Value) (A:Around) (outer:List Env) (s:Shared) (H:Hp) (E:XK),fH k (A.deeper (envOfC "law" (aC st) s.heap.objs.size f cdv))->
   kI (vO A8 P w K mg base N "law" (aC st) f cdv A outer s H E).QA (bX st) wB)/\
   ∀ds mh R,i7 mh->cM mh.length ds=true->wA ds mh R->wB {nx:=λ_ b=>Out mh.length .b9 b R,rt:=λd b=>Out mh.length d b R} (aG N ds) mh):
  ∃fd:FuncData,(∀(s:Shared) (u:Value),BindsTo s fd ⟨[u],[]⟩ [(x,u)])/\∀base:Heap,iN P w K mg base A8 (k+1) g fd [x] (LX K wA):=by
 obtain⟨f,oc,od,kV,doc,pm,an,cd,ct,sl,a,l,c,kp⟩:=j;have e:=i.symm.trans (aKw KX G a);cases e;have F:=FY (st:=st) l c kp;refine⟨_,λs u=>.of_eq (m kV doc pm an cd ct [u] rfl),λbase=>?_⟩;obtain⟨wB,n,o⟩:=hb base;exact aD4 F S (λds mh R p=>by obtain⟨ns,rfl,_⟩:=p;rfl) (λcdv A outer s H E q=>n g cdv A outer s H E q) o
theorem bl_mk(KX:K.In h)(G:h.Ns mainGlobals mg)
  (l:PySem.W.nsIn K mainGlobals "len"=some none) (m:PySem.W.nsIn K mainGlobals "range"=some none) (n:PySem.W.nsIn K mainGlobals "zip"=some none) (o:PySem.W.nsIn K mainGlobals "all"=some none) (p:PySem.W.nsIn K mainGlobals "any"=some none) (q:PySem.W.nsIn K mainGlobals "abs"=some none) (r:PySem.W.nsIn K mainGlobals "min"=some none) (s:PySem.W.nsIn K mainGlobals "max"=some none) (t:PySem.W.nsIn K mainGlobals "isinstance"=some none) (a:PySem.W.nsIn K mainGlobals "sorted"=some none) (b:PySem.W.nsIn K mainGlobals "int"=some none) (c:PySem.W.nsIn K mainGlobals "str"=some none) (d:PySem.W.nsIn K mainGlobals "bool"=some none) (e:PySem.W.nsIn K mainGlobals "list"=some none) (f:PySem.W.nsIn K mainGlobals "tuple"=some none) (g:PySem.W.nsIn K mainGlobals "set"=some none) (i:PySem.W.nsIn K mainGlobals "dict"=some none) (j:PySem.W.nsIn K mainGlobals "sum"=some none) (k:PySem.W.nsIn K mainGlobals "enumerate"=some none):Bl mg:=
 ⟨aHi KX G l,aHi KX G m,aHi KX G n,aHi KX G o,aHi KX G p,aHi KX G q,aHi KX G r,aHi KX G s,aHi KX G t,aHi KX G a,aHi KX G b,aHi KX G c,aHi KX G d,aHi KX G e,aHi KX G f,aHi KX G g,aHi KX G i,aHi KX G j,aHi KX G k⟩
theorem FT{M:Model}{A:Around}{E:aL2}{s:Shared}{a b:Value}{Q:aL2}(ha:s.TypeIs a "list")(hb:s.TypeIs b "list")(c:wpAny M A (call (.builtin "list.__iadd__") [a,b]) Q E s):wpAny M A (inplaceOp .Add a b) Q E s:=by
 refine aHo (aGs (aIq ha (aGs (aJw (show fillsInplaceSlot (.type "list") "add" true=pure false from rfl) ?_))));show wpAny M A (if false=true then _ else _) Q E s;rw[if_neg Bool.false_ne_true];exact aGs (wpAny_binaryOp1_none ha hb rfl (aGs (aJw (show seqSlot? (Value.type "list") (dunderI "add")=pure (some (Value.builtin "list.__iadd__")) from rfl) (aGs (aI2 c)))))
section
variable {X:Cx}
theorem OH:eL X (inplaceOp .Add) (λx y H Q=>∃l b xs d,x= .ref l/\y= .ref b/\H l=some (.lst xs)/\H b=some (.lst d)/\xs.length+d.length<=sizeLine/\Q (.ref l) (upd H l (.lst (xs++d)))):=by
 intro pins s σ H x y v u Q I i j h;obtain⟨l,b,xs,d,rfl,rfl,f,k,hz,q⟩:=h;cases i;cases j;obtain⟨z,aH,n,r,t,e⟩:=I.zR f;obtain⟨w,a,m,o,p,g⟩:=I.zR k;have hsz:aH.toArray.size+a.toArray.size<=sizeLine:=by rw[List.size_toArray,List.size_toArray];lia
 have c:¬(!aH.toArray.isEmpty && Builtin.List.listTooLong (aH.toArray.size+a.toArray.size))=true:=by
  rw[pK hsz,Bool.and_false];exact aJt
 refine FT ⟨_,e,rfl⟩ ⟨_,g,rfl⟩ (call_meets F.slot_list_iadd ⟨_,e,rfl⟩ F.entry_list_iadd (F.args_list_iadd_2 _ _)
  (AutoSeq1.list___iadd___list_list_0 l aH.toArray n b a.toArray m c (by rw[List.size_toArray];lia) (by lia)) ⟨e,g,?_⟩)
 refine⟨.ref l,_,I.NQ (its' :=aH++a) f e (by simp) (r.append o) ?_,rfl,q⟩;rw[List.length_append]
 lia
def UX:O2:=λx y mh Q=>match x with
 | .int i=>match y with | .int j=>Q (.int (i+j)) mh | _=>False
 | .str i=>match y with | .str j=>i.length+j.length<=sizeLine/\Q (.str (i++j)) mh | _=>False
 | .ref n=>match y with | .ref m=>∃a fs,mh[n]? =some (.lst a)/\mh[m]? =some (.lst fs)/\a.length+fs.length<=sizeLine/\Q (.ref n) (mh.set n (.lst (a++fs))) | _=>False
 | _=>False
theorem RW:eL X (inplaceOp .Add) (bT X.K UX):=by
 intro pins s σ H x y v u Q I e f q;obtain⟨μ,mh,dx,g,R,c,d,h,q,F⟩:=q
 cases dx with
 | int i=>
  cases g with
  | int j=>cases bR d;cases bR h;exact S6 pins s σ H _ _ v u Q I e f ⟨i,j,rfl,rfl,F.here c q .int⟩
  | _=>exact False.elim q
 | str i=>
  cases g with
  | str j=>cases eR d;cases eR h;exact DB pins s σ H _ _ v u Q I e f ⟨i,j,rfl,rfl,q.1,F.here c q.2 .str⟩
  | _=>exact False.elim q
 | ref n=>
  cases g with
  | ref m=>
   obtain⟨A,fs,o,p,hz,q⟩:=q;obtain⟨a,vs,rfl,r,t,l⟩:=fM c d o;obtain⟨b,w,rfl,B,z,k⟩:=fM c h p;exact OH pins s σ H _ _ v u Q I e f ⟨a,b,vs,w,rfl,rfl,t,z,by rw[aK l,aK k];exact hz,F.put c r (e8 l k) q d⟩
  | _=>exact False.elim q
 | _=>exact False.elim q
def aAy(i:Nat)(w:WE)(f:O2):WS:=λE a mh=>∃x,a[i]? =some (some x)/\w a mh λy b=>f x y b λz c=>E.nx (a.set i (some z)) c
theorem X4(i:Nat){e:Expr}{w:WE}{m:Operator}{f:O2}{pos a :Pos}(hN:X.N.Nodup)(ho:eL X (inplaceOp m) (bT X.K f))(he:LE X e w)(hi:X.N[i]? =some x:=by rfl)(b:Loc X.env.scope x:=by first | exact Or.inl rfl | exact Or.inr rfl)(n:X.fn x=true\/X.env.scope.names.lookup x=some .local:=by first | exact .inl rfl | exact .inr rfl | assumption):
  LS X (.AugAssign (.Name x a) m e pos) (aAy i w f):=PS.imp (WL hN hi b he ho n) λD σ H h=>by
 obtain⟨μ,o,mh,E,R,En,⟨x,b,h⟩,F⟩:=h;obtain⟨v,p,r⟩:=En.2 i x b;refine⟨v,p,μ,o,mh,_,R,En,h,λd c q g u C j s t=>?_⟩;exact⟨g,c,x,d,_,s,Is.mono R j x v r,t,q,λz k y l G A P2 R2 B=>F.nx _ k y l _ A (j.trans P2) R2 ((En.mono R (j.trans P2)).set i B)⟩
end
theorem iZ{a b:Key}(h:aN a=aN b):a=b:=by
 cases a <;> cases b <;> simp[aN]at h <;> rw[h]
theorem xY:∀{a b:List Key},a.map aN=b.map aN->a=b
 | [],[],_=>rfl
 | [],_::_,h=>by simp at h
 | _::_,[],h=>by simp at h
 | x::xs,y::ys,h=>by
  simp only[List.map_cons,List.cons.injEq]at h;rw[iZ h.1,xY h.2]
theorem vA{a b:List Key}(h:D.tup (a.map aN)=D.tup (b.map aN)):a=b:=xY (by injection h)
open Classical in
noncomputable def putD(kvs:List (D×D))(k v:D):List (D×D):=if ∃p∈kvs,p.1=k then kvs.map (λp=>if p.1=k then (p.1,v) else p) else kvs++[(k,v)]
variable{kvs:List (D×D)}
theorem B6{k v:D}{p:D×D}(h:p∈putD kvs k v):p∈kvs\/(p.1=k/\p.2=v):=by
 unfold putD at h;split at h
 ·obtain⟨q,a,e⟩:=aH5.mp h;split at e
  ·rename_i hk;subst e;exact .inr ⟨hk,rfl⟩
  ·subst e;exact .inl a
 ·rcases aGz.mp h with h | h
  ·exact .inl h
  ·simp at h;subst h;exact .inr ⟨rfl,rfl⟩
open Classical in
theorem JD(kvs:List (D×D))(k v:D):(putD kvs k v).map (·.1)=if (∃p∈kvs,p.1=k) then kvs.map (·.1) else kvs.map (·.1)++[k]:=by
 unfold putD;split
 ·rw[List.map_map];apply aJo;intro p _;simp only[Function.comp];split <;> rfl
 ·simp
section
variable {K:aL1}{μ:List Addr}{H:Hp}{κ:Type}[DecidableEq κ]{f:κ->D}
theorem BY(g:∀{a b},f a=f b->a=b)(k:κ){d:D}{v:V}(hd:Is K μ H d v):∀(kvs:List (D×D)) (kk:List (κ×V)),kvs.map (·.1)=kk.map (λp=>f p.1)->IsL K μ H (kvs.map (·.2)) (kk.map (·.2))->
  IsL K μ H ((open Classical in kvs.map λp=>if p.1=f k then (p.1,d) else p).map (·.2)) ((kk.map λp=>if p.1=k then (p.1,v) else p).map (·.2))
 | [],[],_,_=>by simp[IsL]
 | [],_::_,h,_=>by simp at h
 | _::_,[],h,_=>by simp at h
 | p::kvs,q::kk,h,l=>by
  simp only[List.map_cons,List.cons.injEq]at h;simp only[List.map_cons]at l⊢;unfold IsL at l⊢;obtain⟨w,r,e,i,l⟩:=l;simp only[List.cons.injEq]at e;obtain⟨rfl,rfl⟩:=e;have j:=BY g k hd kvs kk h.2 l;by_cases c:q.1=k
  ·have:p.1=f k:=by rw[h.1,c]
   simp only[if_pos c,if_pos this];exact⟨_,_,rfl,hd,j⟩
  ·have:¬p.1=f k:=λz=>c (g (h.1.symm.trans z));simp only[if_neg c,if_neg this];exact⟨_,_,rfl,i,j⟩
theorem sU(m:∀{a b},f a=f b->a=b)(k:κ){v:V}(hd:Is K μ H d v){kk:List (κ×V)}(h:kvs.map (·.1)=kk.map (λp=>f p.1))(l:IsL K μ H (kvs.map (·.2)) (kk.map (·.2))):
  (putD kvs (f k) d).map (·.1)=(putK kk k v).map (λp=>f p.1)/\IsL K μ H ((putD kvs (f k) d).map (·.2)) ((putK kk k v).map (·.2)):=by
 have same:(∃p∈kvs,p.1=f k)↔(kk.any λn=>decide (n.1=k))=true:=by
  rw[List.any_eq_true];constructor
  ·rintro⟨p,i,e⟩;have:f k∈kk.map (λp=>f p.1):=by rw[<-h,<-e];exact aH5.mpr ⟨p,i,rfl⟩
   obtain⟨q,j,g⟩:=aH5.mp this;exact⟨q,j,by simpa using m g⟩
  ·rintro⟨q,j,e⟩;have:f q.1∈kvs.map (·.1):=by rw[h];exact aH5.mpr ⟨q,j,rfl⟩
   obtain⟨p,i,g⟩:=aH5.mp this;exact⟨p,i,by rw[g];simp at e;rw[e]⟩
 unfold putD putK;by_cases c:∃p∈kvs,p.1=f k
 ·rw[if_pos c,if_pos (same.mp c)];refine⟨?_,BY m k hd kvs kk h l⟩
  have o:(open Classical in kvs.map λp=>if p.1=f k then (p.1,d) else p).map (·.1)=kvs.map (·.1):=by
   rw[List.map_map];apply aJo;intro p _;simp only[Function.comp];split <;> rfl
  have g:(kk.map λp=>if p.1=k then (p.1,v) else p).map (λp=>f p.1)=kk.map (λp=>f p.1):=by
   rw[List.map_map];apply aJo;intro p _;simp only[Function.comp];split <;> rfl
  rw[o,g,h]
 ·rw[if_neg c,if_neg (λz=>c (same.mpr z))];refine⟨by simp[h],?_⟩;simp only[List.map_append,List.map_cons,List.map_nil];exact e8 l (mM hd)
end
theorem mO{o:MO}{ob:HO}(R:Rep K μ mh H)(h:μ[n]? =some a)(i:K3 (some ob))(l:mD K μ (upd H a ob) o a):Rep K μ (mh.set n o) (upd H a ob):=by
 have P:aI μ H μ (upd H a ob):=aI.set R h;refine⟨by simp[R.len],R.nd,λm b f d e=>?_⟩;by_cases c:m=n
 ·subst c;rw[h]at d;cases d;have g:m<mh.length:=by rw[<-R.len];exact(aGt.mp h).1
  rw[List.getElem?_set_self g]at e;cases e;exact l
 ·rw[List.getElem?_set_ne (Ne.symm c)]at e;exact(R.obj m b f d e).mono R P (aL λz=>c (HH R.nd d (by rw[z];exact h)))
theorem Rep.aCb{q:Addr}{o:MO}{ob:HO}(R:Rep K μ mh H)(a:H q=none)(l:mD K (μ++[q]) (upd H q ob) o q):Rep K (μ++[q]) (mh++[o]) (upd H q ob):=by
 have b:Rep K μ mh (upd H q ob):=R.new a;exact b.UA (λz=>R.ne a z rfl) l
def yY(t:Bool):WE:=λ_ mh Q=>Q (.ref mh.length) (mh++[.dic t []])
section
variable {X:Cx}{pos:Pos}
theorem SU:LE X (.Dict [] [] pos) (yY false):=PE.imp MT λσ H Q h=>by
 obtain⟨μ,c,mh,R,a,E,h,F⟩:=h;intro p b;exact F _ _ h (μ++[p]) _ _ (aI.JM a b) (a.aCb b ⟨[],⟨[],bC,rfl,rfl⟩,by simp[IsL]⟩) (by unfold Is;exact⟨p,by rw[<-a.len];simp,rfl⟩)
theorem SS:LE X (.Dict [] [] pos) (yY true):=PE.imp MS λσ H Q h=>by
 obtain⟨μ,c,mh,R,a,E,h,F⟩:=h;intro p b;exact F _ _ h (μ++[p]) _ _ (aI.JM a b) (a.aCb b ⟨[],⟨[],bC,rfl,rfl⟩,by simp[IsL]⟩) (by unfold Is;exact⟨p,by rw[<-a.len];simp,rfl⟩)
end
theorem jK{k:Key}{v:V}(h:Is K μ H (aN k) v):v=kV k:=by
 cases k <;> (simp only[aN]at h;unfold Is at h;exact h)
theorem fZ{K:aL1}{μ:List Addr}{H:Hp}:∀{ks:List Key} {vs:List V},IsL K μ H (ks.map aN) vs->vs=ks.map kV
 | [],vs,h=>by simp only[List.map_nil]at h;unfold IsL at h;exact h
 | k::ks,vs,h=>by
  simp only[List.map_cons]at h;unfold IsL at h;obtain⟨v,r,rfl,i,l⟩:=h;rw[jK i,fZ l];rfl
theorem gP{v:V}{t:Bool}(R:Rep K μ mh H)(h:Is K μ H (.ref n) v)(e:mh[n]? =some (.dic t kvs)):∃a vs,v= .ref a/\μ[n]? =some a/\sC (H a) (kvs.map (·.1)) vs t/\IsL K μ H (kvs.map (·.2)) vs:=by
 obtain⟨a,q,rfl⟩:=jJ h;obtain⟨vs,b,l⟩:=R.obj n a _ q e;exact⟨a,vs,rfl,q,b,l⟩
def UU(o k d:D)(mh:MH)(Q:MH->Prop):Prop:=∃n kvs key,o= .ref n/\mh[n]? =some (.dic false kvs)/\k=aN key/\kvs.length<sizeLine/\Q (mh.set n (.dic false (putD kvs k d)))
def GW(w g wi:WE):WS:=λE a mh=>w a mh λd b=>g a b λo c=>wi a c λi e=>UU o i d e λf=>E.nx a f
def UT(o:D)(ks:List D)(d:D)(mh:MH)(Q:MH->Prop):Prop:=∃(n:Nat) (kvs:List (D×D)) (keys:List Key),o= .ref n/\mh[n]? =some (.dic true kvs)/\ks=keys.map aN/\ks.length<=sizeLine/\kvs.length<sizeLine/\Q (mh.set n (.dic true (putD kvs (.tup ks) d)))
def LL(w g:WE)(wi:WA):WS:=λE a mh=>w a mh λd b=>g a b λo c=>wi a c λks e=>UT o ks d e λf=>E.nx a f
section
variable {X:Cx}{pos pos' tpos:Pos}{o i e:Expr}{es:List Expr}{w wo wi:WE}{wa:WA}
theorem SG(Y:X.A.units+64<cLine)(he:LE X e w)(ho:LE X o wo)(hi:LE X i wi)(I:swapsWith e (some (.Subscript o i pos')) pos.line X.env=pure false:=by rfl):LS X (.Assign [.Subscript o i pos'] e pos) (GW w wo wi):=
 PS.imp (zH (by lia) ho hi he I) λD σ H h=>by
  obtain⟨μ,g,mh,E,R,En,h,F⟩:=h;refine⟨μ,g,mh,_,R,En,h,λd m q p v Z r z J=>?_⟩;refine⟨p,g,m,_,z,En.mono R r,q,λL s M t vo H2 P2 R2 N=>?_⟩;refine⟨t,g,s,_,R2,En.mono R (r.trans P2),M,λdi u O b vi x y j P=>?_⟩;obtain⟨n,kvs,key,rfl,Q,rfl,hz,S⟩:=O;obtain⟨a,vs,rfl,B,⟨kk,T,C,rfl⟩,l⟩:=gP j (Is.mono R2 y _ _ N) Q;cases jK P;have U:=Is.mono z (P2.trans y) d v J;have G:aI b x b (upd x a (.dK (putK kk key v))):=aI.set j B;have ln:kk.length=kvs.length:=by have:=aHu List.length C;simp at this;lia
  obtain⟨V,W⟩:=sU (f:=aN) iZ key U C l;have R4:Rep X.K b (u.set n (.dic false (putD kvs (aN key) d))) (upd x a (.dK (putK kk key v))):=mO j B (by trivial) ⟨_,⟨_,bC,V,rfl⟩,W.mono j G⟩;have c:=((r.trans P2).trans y).trans G;exact⟨a,_,rfl,.k T (by lia),F.nx g _ S b σ _ c R4 (En.mono R c)⟩
theorem SF{x1}(hu:X.A.units+64<cLine)(he:LE X e w)(ho:LE X o wo)(hi:LA X es wa)(M:swapsWith e (some (.Subscript o (.Tuple es x1 tpos) pos')) pos.line X.env=pure false:=by rfl):LS X (.Assign [.Subscript o (.Tuple es x1 tpos) pos'] e pos) (LL w wo wa):=
 PS.imp (zH (by lia) ho (MN hi) he M) λD σ H h=>by
  obtain⟨μ,m,mh,E,R,En,h,F⟩:=h;refine⟨μ,m,mh,_,R,En,h,λd r q s v H1 u B N=>?_⟩;refine⟨s,m,r,_,B,En.mono R u,q,λO x P y vo H2 P2 R2 Q=>?_⟩;refine⟨y,m,x,_,R2,En.mono R (u.trans P2),P,λks j S b T i z C U=>?_⟩;obtain⟨n,kvs,keys,rfl,V,rfl,W,hz,Y⟩:=S;have Z:=fZ U;subst Z;refine⟨by simpa using W,λp G=>?_⟩;have g :aI b i b (upd i p (.tup (keys.map kV))):=aI.new C G;have c :Rep X.K b j (upd i p (.tup (keys.map kV))):=C.new G;obtain⟨a,vs,rfl,I,⟨kk,hv,J,rfl⟩,l⟩:=gP c (Is.mono R2 (z.trans g) _ _ Q) V;have Iv:=Is.mono B (P2.trans (z.trans g)) d v N;have L:aI b (upd i p (.tup (keys.map kV))) b (upd (upd i p (.tup (keys.map kV))) a (.dT (putK kk keys v))):=aI.set c I;have ln:kk.length=kvs.length:=by have:=aHu List.length J;simp at this;lia
  obtain⟨p1,p2⟩:=sU (f:=λks:List Key=>D3.D.tup (ks.map aN)) vA keys Iv J l;have R4:Rep X.K b (j.set n (.dic true (putD kvs (.tup (keys.map aN)) d))) (upd (upd i p (.tup (keys.map kV))) a (.dT (putK kk keys v))):=mO c I (by trivial) ⟨_,⟨_,bC,p1,rfl⟩,p2.mono c L⟩;have k:=((u.trans P2).trans (z.trans g)).trans L;exact⟨a,_,rfl,.t hv bC (by lia),F.nx m _ Y b σ _ k R4 (En.mono R k)⟩
end
def gV(h:Heap)(d:Addr)(a:Array DictEntry)(ep:Nat):Prop:=∃o,h.get? d=some o/\o.ExactDict/\o.data= .dict a ep
variable{es:Array DictEntry}
theorem gV.keep{h h' :Heap}{d:Addr}{ep:Nat}(x:gV h d es ep)(k:∀o,h.get? d=some o->h'.get? d=some o):gV h' d es ep:=let ⟨o,a,b,c⟩:=x;⟨o,k o a,b,c⟩
section
variable {prog:Program}{w:World}{A:Around}{E:aL2}{s:Shared}{it d:Addr}{i ep:Nat}{es:Array DictEntry}
variable{Q:Option Value->Shared->Prop}
theorem B4{e:DictEntry}(b:Heap.IsKeyIter s.heap it d i es.size ep)(m:gV s.heap d es ep)(n:es[i]? =some e)
  (q:∀h',Heap.IsKeyIter h' it d (i+1) es.size ep->Heap.SameBut it s.heap h' ->Q (some e.key) {s with heap:=h'}):wpAny (model prog w) A (pyNext (.ref it)) Q E s:=by
 obtain⟨o,ho,h,hd⟩:=id b;obtain⟨od,f,p,g⟩:=id m;have ht:=b.typeIs;refine aGs (aIf (aHj ht aI7 (aHe aI7 ht F.entry_dict_keyiterator_next ?_ (F.args_dict_keyiterator_next_1 _))));refine aGs (aGu ?_);refine aGs (aGs (aGs (aIp ht (aGu ?_))));refine aGs (aJg ho hd ?_);show wpAny _ _ (if (Value.ref d==Value.none)=true then _ else _) _ _ _;rw[if_neg (show ¬((Value.ref d==Value.none)=true) from Bool.false_ne_true)];refine aGs (aGu ?_);refine aGs (aJd f g ?_);rw[if_neg (show ¬(((es.size:Int) !=(es.size:Int))=true) by simp)];refine aGs (aGu ?_);refine aGs (wpAny_dictEpoch f g ?_);rw[if_neg (show ¬(((ep:Int) !=(ep:Int))=true) by simp)];refine aGu ?_
 have r:(if (i:Int)<0 then none else es[(i:Int).toNat]?)=some e:=by
  rw[if_neg (by lia)];simpa using n
 show wpAny _ _ (match (if (i:Int)<0 then none else es[(i:Int).toNat]?) with | some e=>_ | none=>_) _ _ _;rw[r];refine aGs (aGs (aIp ht (aGu ?_)));refine aGs (wpAny_isOneOf_keyiter ht ?_);refine aGs (aKp ho hd (by show 1<4;lia) ?_)
 have j:(s.heap.update it (Obj.mapFields λx=>x.setIfInBounds 1 (rawInt ((i:Int)+1)))).get? it=some (Obj.mapFields (λx=>x.setIfInBounds 1 (rawInt ((i:Int)+1))) o):=by
  refine aHs _ ho ?_;obtain⟨c,k,l,sl⟩:=o;simp only at hd h;subst hd;rfl
 have a:Heap.IsKeyIter (s.heap.update it (Obj.mapFields λx=>x.setIfInBounds 1 (rawInt ((i:Int)+1)))) it d (i+1) es.size ep:=by
  refine⟨_,j,?_,?_⟩
  ·obtain⟨c,k,l,sl⟩:=o;simp only at hd h;subst hd;exact h
  ·obtain⟨c,k,l,sl⟩:=o;simp only at hd h;subst hd;rfl
 refine aGs (aHo (aGs (wpAny_isOneOf_keyiter (Heap.IsKeyIter.typeIs (s:={s with heap:=s.heap.update it (Obj.mapFields λx=>x.setIfInBounds 1 (rawInt ((i:Int)+1)))}) a) (aGu (aGu ⟨_,rfl,aGu (q _ a (aHt _ _ _))⟩)))))
theorem HA(g:A.handled=none)(a:Heap.IsKeyIter s.heap it d i es.size ep)(h:gV s.heap d es ep)(j:es[i]? =none)
  (q:∀h',Heap.ExtBut it s.heap h' ->Q none {s with heap:=h'}):wpAny (model prog w) A (pyNext (.ref it)) Q E s:=by
 obtain⟨o,ho,m,hd⟩:=id a;obtain⟨od,c,k,f⟩:=id h;have ht:=a.typeIs;refine aGs (aIf (aHj ht aI7 (aHe aI7 ht F.entry_dict_keyiterator_next ?_ (F.args_dict_keyiterator_next_1 _))));refine aGs (aGu ?_);refine aGs (aGs (aGs (aIp ht (aGu ?_))));refine aGs (aJg ho hd ?_);show wpAny _ _ (if (Value.ref d==Value.none)=true then _ else _) _ _ _;rw[if_neg (show ¬((Value.ref d==Value.none)=true) from Bool.false_ne_true)];refine aGs (aGu ?_);refine aGs (aJd c f ?_);rw[if_neg (show ¬(((es.size:Int) !=(es.size:Int))=true) by simp)];refine aGs (aGu ?_);refine aGs (wpAny_dictEpoch c f ?_);rw[if_neg (show ¬(((ep:Int) !=(ep:Int))=true) by simp)];refine aGu ?_
 have l:(if (i:Int)<0 then none else es[(i:Int).toNat]?)=none:=by
  rw[if_neg (by lia)];simpa using j
 show wpAny _ _ (match (if (i:Int)<0 then none else es[(i:Int).toNat]?) with | some e=>_ | none=>_) _ _ _;rw[l];refine aGs (aGs (aIp ht (aGu ?_)));refine aGs (aKp ho hd (by show 0<4;lia) ?_);refine aGs (aGs (aHk (aGs (aJw (show firstArgMember (Value.type "StopIteration") []=pure _ from rfl) (aHk ?_)))));refine aGs (wpAny_handled ?_);rw[show A.in1.handled=none from g];refine wpAny_throw (aGs (aJl (T:= "StopIteration") (b:=true) ⟨_,aH0 _ rfl,rfl⟩ rfl (aGu (q _ ?_))));intro b u hb e;refine aGv _ (aGv _ ?_);rw[Heap.get?_update_ne _ _ _ _ hb];exact e
end
theorem gV.typeIs{s:Shared}{d:Addr}{ep:Nat}(x:gV s.heap d es ep):s.TypeIs (.ref d) "dict":=let ⟨o,a,b,c⟩:=x;⟨o,a,b.1⟩
section
variable {prog:Program}{w:World}{A:Around}{E:aL2}{s:Shared}{d:Addr}{ep:Nat}{es:Array DictEntry}
theorem B3{Q:aL2}(hd:(d==sysModules)=false)(b:gV s.heap d es ep)
  (q:Q (.ref s.heap.objs.size) {s with heap:=s.heap.push {cls:= .type "dict_keyiterator",data:= .fields #[.ref d,.int 0 0,.int es.size 0,.int ep 0]}}):wpAny (model prog w) A (pyIter (.ref d)) Q E s:=by
 obtain⟨o,ho,c,a⟩:=id b;refine aJc b.typeIs F.slot_dict_iter (aHe F.slot_dict_iter b.typeIs F.entry_dict_iter ?_ (F.args_dict_iter_1 _));refine aGs (aGs (wpAny_notOrdered_dict b.typeIs (aGs (aGu (aGu ?_)))));refine aGs (aGu ?_);refine aGs (m:=Builtin.Dict.showsAll d) ?_;show wpAny _ _ (if (d==sysModules)=true then _ else _) _ _ _;rw[hd,if_neg Bool.false_ne_true];refine aGu (aGs (aJd ho a (aGs (wpAny_dictEpoch ho a (aGs (aHk (aGu ⟨_,rfl,"dict_keyiterator",_,⟨_,aH0 _ rfl,rfl⟩,aI7.lookup,q⟩)))))))
theorem Q4(hd:(d==sysModules)=false):W.KdlSrc prog w "dict" d d es.size (λi v=>∃e,es[i]? =some e/\v=e.key) λh=>gV h d es ep where
 type:=λs x=>x.typeIs
 there:=λh x=>let ⟨o,a,_⟩:=x;⟨aH4 a,aH4 a⟩
 keep:=λh h' x k=>x.keep λo=>k d (.inl rfl) o
 notList:=rfl
 notTuple:=rfl
 hint:=λA E s Q x q=>W.kdl_hint_dict x.typeIs q
 iter:=λA s l x=>by
  refine⟨_,λi h=>Heap.IsKeyIter h s.heap.objs.size d i es.size ep/\gV h d es ep,λE Q q=>B3 hd x q,?_,?_⟩
  ·have g:d≠s.heap.objs.size:=by obtain⟨o,a,_⟩:=x;exact aHc (aH4 a)
   refine⟨λb hb=>by simp at hb;simp[hb],λi h h' st k=>⟨st.1.at λo=>k _ (by simp) o,st.2.keep λo=>k _ (by simp) o⟩,λi s1 Q E hi st q=>?_,λs1 Q E st q=>?_,λi s1 Q E st q=>wpAny_pyIter_keyiter st.1 q⟩
   ·have j:es[i]? =some es[i]:=by simp[hi]
    refine B4 st.1 st.2 j λh' a b=>q _ h' s1.toks ⟨_,j,rfl⟩ ⟨a,st.2.keep λo e=>(b.2 d g).trans e⟩ λc o f e=>?_;simp at f;exact(b.2 c f).trans e
   ·refine HA l st.1 st.2 (by simp) λh' a=>q h' s1.toks λc o f e=>?_;simp at f;exact a c o f e
  ·refine⟨⟨_,aH0 _ rfl,rfl,rfl⟩,x.keep λo e=>aGv _ e⟩
end
end D3
namespace TS
open PySem PySem.Spec PyProof.Rows L2
section
variable {prog:Program}{w:World}{A:Around}{E:aL2}{s:Shared}{lt:Value×Value->Value×Value->Bool}{r d:Addr}{n:Nat}{P:Nat->Value->Prop}{OK:Heap->Prop}{T:String}
theorem L0(O:Wk lt){Q:aL2}(src:W.KdlSrc prog w T r d n P OK)(l:A.handled=none)(ok:OK s.heap)(p:n<4000)
  (j:∀vs:List Value,ItemsOf P vs.toArray n->∀(c:Heap) (f:Nat),(∀b o,s.heap.get? b=some o->c.get? b=some o)->∃κ,2<=vs.length->∀h' :Heap,(∀b o,c.get? b=some o->h'.get? b=some o)->
   mV prog w A.in1.in1 {s with heap:=h',toks:=f} κ lt (pairsOf vs)/\∀i t,i κ {s with heap:=h',toks:=f}->wpAny (model prog w) A.in1.in1 (keyKind' vs.toArray) i t {s with heap:=h',toks:=f})
  (h:∀vs:List Value,ItemsOf P vs.toArray n->∀out:List Value,out.Perm vs->out.Pairwise (λx y=>lt (y,y) (x,x)=false)->∀(c g:Heap) (f:Nat) (ep:Nat),(∀b o,s.heap.get? b=some o->c.get? b=some o)->(∀b o,c.get? b=some o->g.get? b=some o)->
   g.get? c.objs.size=some (seqObj "list" out.toArray ep)->Q (.ref c.objs.size) {s with heap:=g,toks:=f}):
  wpAny (model prog w) A (call (.builtin "sorted") [.ref r]) Q E s:=by
 have C:sizeLine=16777216:=aHh;refine aJm kind_sorted plain_sorted entry_sorted (args_sorted1 _) ?_;unfold Builtin.«sorted»;refine aGs (m:=checkCount "sorted" 1 1 _) (aGu ?_);refine aGs (W.kdu_collect src l ok (by lia) λc f a kept items=>?_);have hsz:a.toList.length=n:=by have:=items.1;simpa using this
 obtain⟨κ,j⟩:=j a.toList (by simpa using items) c f kept;refine aGs (aKv ?_ (by lia));have ob:(c.push (seqObj "list" a.toList.toArray 0)).get? c.objs.size=some (seqObj "list" a.toList.toArray 0):=aH0 _ rfl;refine aGs (aHo (aHe slot_list_sort ⟨_,ob,rfl⟩ entry_list_sort (EU (κ:=κ) (s:={s with heap:=c.push (seqObj "list" a.toList.toArray 0),toks:=f}) O ob (by lia) (λg h' k=>?_) λout u v=>⟨_,rfl,aGu ⟨_,rfl,?_⟩⟩) (args_list_sort _)))
 ·obtain⟨z,B⟩:=j g h' λb o e=>k b o (aHc (aH4 e)) (aGv _ e);exact⟨z,λi q=>B i _ q⟩
 ·obtain⟨ep,he⟩:=sortedHeap_at (out:=out.toArray) ob;refine h a.toList (by simpa using items) out u v c _ f ep kept (λb o e=>?_) he;have lb:=aH4 e;have hb:b<(c.push (seqObj "list" a.toList.toArray 0)).objs.size:=by rw[size_push'];exact aI0 lb
  rw[sortedHeap_old (Nat.ne_of_lt lb) hb];exact aGv _ e
end
end TS
namespace D3
open PySem PySem.Spec PyProof.Rows L2
def vY:OA:=λxs mh Q=>∃n t kvs,xs=[.ref n]/\mh[n]? =some (.dic t kvs)/\kvs.length<4000/\K2 (kvs.map (·.1))/\∀fs:List D,fs.Perm (kvs.map (·.1))->fs.Pairwise (λd e=>lx (enc e) (enc d)=false)->Q (.ref mh.length) (mh++[.lst fs])
theorem OC{K:aL1}{μ:List Addr}{H:Hp}(k:Key):Is K μ H (aN k) (kV k):=by
 cases k <;> (simp only[aN];unfold Is;rfl)
theorem sY{K:aL1}{μ:List Addr}{H:Hp}:∀ks:List Key,IsL K μ H (ks.map aN) (ks.map kV)
 | []=>by simp[IsL]
 | k::ks=>by simp only[List.map_cons];unfold IsL;exact⟨_,_,rfl,OC k,sY ks⟩
theorem BZ{P:Program}{w:World}{k:Key}{u:Value}(h:(aS P w).is k u=true):RelV (kV k) u:=by
 rcases bU (k:=k) (v:=u) h with ⟨i,t,rfl,rfl⟩ | ⟨x,t,rfl,rfl⟩
 ·exact⟨t,rfl⟩
 ·exact⟨t,rfl⟩
theorem n5{P:Program}{w:World}:∀{a:List DictEntry} {vs:List (Key×Value)} {kk:List (Key×V)},Pairs (aS P w) a vs->KV kk vs->Vals (kk.map λp=>kV p.1) (a.map (·.key))
 | [],vs,kk,p,r=>by cases p;cases r;exact .nil
 | e::a,vs,kk,p,r=>by
  cases p with
  | cons b g c=>
   cases r with
   | cons d f=>
    simp only[List.map_cons];refine .cons ?_ (n5 c f);rw[d.1];exact BZ b
theorem yC{K:aL1}{μ:List Addr}{H:Hp}:∀kk:List (Key×V),IsL K μ H (kk.map λp=>aN p.1) (kk.map λp=>kV p.1)
 | []=>by simp[IsL]
 | p::kk=>by simp only[List.map_cons];unfold IsL;exact⟨_,_,rfl,OC _,yC kk⟩
theorem yB{K:aL1}{μ:List Addr}{H:Hp}:∀{kk:List (List Key×V)} {xs:List (List Key×Addr×Value)},KT H kk xs->IsL K μ H (kk.map λp=>.tup (p.1.map aN)) (xs.map λx=>.ref x.2.1)
 | [],xs,r=>by cases r;simp[IsL]
 | p::kk,xs,r=>by
  cases r with
  | cons a b=>
   simp only[List.map_cons];unfold IsL;refine⟨_,_,rfl,?_,yB b⟩;unfold Is;exact⟨_,_,rfl,.inl a.2.1,sY _⟩
theorem fY:∀(xs:List (List Key×Addr×Value)),Vals (xs.map λx=>V.ref x.2.1) (xs.map λx=>Value.ref x.2.1)
 | []=>.nil
 | x::xs=>.cons rfl (fY xs)
theorem TM{X:Cx}{pins:List (Addr×Obj)}{σ:L2.St}{H:Hp}{s:Shared}{μ:List Addr}{a:Addr}{ks:List D}{vs:List V}{t:Bool}(I:Inv X pins σ H s)(g:sC (H a) ks vs t):
  ∃(b:Array DictEntry) (ep:Nat) (h:List V),(a==sysModules)=false/\gV s.heap a b ep/\IsL X.K μ H ks h/\Vals h (b.toList.map (·.key)):=by
 cases t with
 | false=>
  obtain⟨kk,e,rfl,rfl⟩:=g;obtain⟨z,hd,vs,r,o,b,ep,c,d,f,i,j,k⟩:=IE I.bO e;exact⟨b,ep,_,hd,⟨o,c,d,f⟩,yC kk,n5 j r⟩
 | true=>
  obtain⟨kk,e,rfl,rfl⟩:=g;obtain⟨z,hd,xs,r,o,b,ep,c,d,f,i,j⟩:=O7 I.bO e;refine⟨b,ep,_,hd,⟨o,c,d,f⟩,yB r,?_⟩;rw[i,List.map_map];exact fY xs
section
variable {X:Cx}
theorem F8(hu:X.A.units+64<cLine)(Y:X.calm=true):cU X (.builtin "sorted") (fF X.K vY):=by
 intro pins s σ H xs us Q I r q;obtain⟨μ,mh,ds,R,N,Z,⟨n,t,kvs,rfl,e,h64,U,q⟩,F⟩:=q;obtain⟨v,rfl,iv⟩:=nP Z;obtain⟨a,vs,rfl,hn,hv,l0⟩:=gP N iv e;obtain⟨u,rfl,ru⟩:=vals1 r;cases ru;obtain⟨f,ep,ws,hd,D,l,O⟩:=TM (μ:=μ) I hv;have E:=qG I (kvs.map (·.1)) (yU U) l O;have P:f.size=kvs.length:=by have:=bH E;simpa using this
 have u2:X.A.in1.in1.units+40<cLine:=by show X.A.units+1+1+40<_;lia
 have y:∀vs:List Value,ItemsOf (λi v=>∃e,f[i]? =some e/\v=e.key) vs.toArray f.size->vs=f.toList.map (·.key):=λvs h=>by
  apply aK2;intro i;have hs:vs.length=f.size:=by simpa using h.1
  by_cases hi:i<f.size
  ·have B :i<vs.length:=by lia
   obtain⟨e,p,g⟩:=h.2 i vs[i] (by simp[B]);rw[List.getElem?_map,List.getElem?_eq_getElem B];simp only[Array.getElem?_toList,p,Option.map_some,g]
  ·rw[List.getElem?_eq_none (by lia),List.getElem?_eq_none (by simp;lia)]
 refine TS.L0 (FG s.heap) (Q4 (ep:=ep) hd) (I.ok.hd Y) D (by lia) (λvs hi p x kept=>?_) λvs hi out S G p g x J kept j he=>?_
 ·cases y vs hi;by_cases g:2<=(f.toList.map (·.key)).length
  ·obtain⟨κ,hk⟩:=uA (prog:=X.prog) (w:=X.w) (A:=X.A.in1.in1) (s:={s with toks:=x}) u2 U E g;exact⟨κ,λ_ h' k=>hk h' λb o e=>k b o (kept b o e)⟩
  ·exact⟨general',λz=>absurd z g⟩
 ·cases y vs hi;obtain⟨ts,T,t2,t3,t4⟩:=VS l O E;rw[<-t3]at S;obtain⟨c,L,V⟩:=lP (·.u) S ts rfl;have C:∀t∈c,Is X.K μ H t.d t.v/\RelV t.v t.u/\Vl s.heap t.d t.u:=λt ht=>t4 t (L.mem_iff.mp ht);have pd:(c.map (·.d)).Perm (kvs.map (·.1)):=by rw[<-T];exact L.map _
  have pw:(c.map (·.d)).Pairwise (λd e=>lx (enc e) (enc d)=false):=by
   rw[<-V]at G;rw[List.pairwise_map]at G⊢;refine G.imp_of_mem λ{t t'} m m' M=>?_;have e1:dv s.heap t.u=t.d:=nT (C t m).2.2;have e2:dv s.heap t'.u=t'.d:=nT (C t' m').2.2;unfold ltV at M;rw[e1,e2]at M;exact M
  have ln:(c.map (·.v)).length<=sizeLine:=by
   have a1:=L.length_eq;have a2:=aHu List.length T;have a3:=aHh;simp at a2⊢
   lia
  have W:Inv X pins σ H {s with heap:=p,toks:=x}:=I.kept (t' :=x) kept
  have I1:Inv X pins σ (upd H p.objs.size (.lst (c.map (·.v)))) {s with heap:=g,toks:=x}:=
   W.laid (h' :=g) (t' :=x) j (aGy _) ⟨ln,out,J,by rw[<-V];exact tS λt ht=>(C t ht).2.1,he⟩
  exact⟨.ref p.objs.size,_,I1,rfl,iE N F (AB λt ht=>(C t ht).1) (q _ pd pw) _ (W.bO.fresh (aGy _))⟩
end
def dD(mh:MH)(b:Nat)(mh' :MH):Prop:=∃a T,mh' =a++T/\cR mh b a
variable{mh:MH}{b:Nat}
theorem dD.refl(h:wV mh b):dD mh b mh:=⟨mh,[],by simp,.refl h⟩
variable{mh':MH}
theorem dD.le(h:dD mh b mh'):mh.length<=mh'.length:=by
 obtain⟨a,T,rfl,t⟩:=h;rw[List.length_append,t.len];lia
theorem dD.blt(h:dD mh b mh'):b<mh.length:=by
 obtain⟨a,T,rfl,t⟩:=h;rw[<-t.len];exact t.1.lt
theorem dD.bag(h:dD mh b mh'):wV mh' b:=by
 obtain⟨a,T,rfl,⟨c,m,e,r⟩,_⟩:=h;exact⟨c,m,by rw[List.getElem?_append_left (List.getElem?_eq_some_iff.mp e).1];exact e,r⟩
theorem dD.to{mh mh' a:MH}(h:dD mh b mh')(t:cR mh' b a):dD mh b a:=by
 have hb:=h.blt;obtain⟨d,T,rfl,g⟩:=h;have f:b<d.length:=by rw[g.len];exact hb
 obtain⟨⟨c,m,e,r⟩,o,rfl⟩:=t;rw[List.set_append_left _ _ f]at e⊢;refine⟨d.set b o,T,rfl,g.trans ⟨⟨c,m,?_,r⟩,o,rfl⟩⟩;rw[List.getElem?_append_left (by simpa using f)]at e;exact e
theorem dD.push(h:dD mh b mh')(o:MO):dD mh b (mh' ++[o]):=by
 obtain⟨a,T,rfl,c⟩:=h;exact⟨a,T++[o],by simp,c⟩
theorem dD.set{b n:Nat}(h:dD mh b mh')(d:mh.length<=n)(o:MO):dD mh b (mh'.set n o):=by
 obtain⟨a,T,rfl,c⟩:=h;refine⟨a,T.set (n-a.length) o,?_,c⟩;rw[List.set_append_right _ _ (by rw[c.len];exact d)]
theorem gE{a:Int}{Q:DK}(h:dD mh b mh')(d:1<=a)(e:a<=1073741789)
  (q:∀r c,0<=r->r<a->dD mh b c->c.length=mh'.length->(∀n,mh.length<=n->c[n]? =mh'[n]?)->Q (.int r) c):iA [.ref b,.int a] mh' Q:=
 ⟨b,a,rfl,d,e,h.bag,λr c f g t=>q r c f g (h.to t) t.len λn i=>t.other (by have:=h.blt;lia)⟩
open Classical in
noncomputable def bF:List (D×D)->D->Option D
 | [],_=>none
 | p::r,k=>if p.1=k then some p.2 else bF r k
theorem jC{K:aL1}{μ:List Addr}{H:Hp}(key:Key):∀{kvs:List (D×D)} {kk:List (Key×V)},kvs.map (·.1)=kk.map (λp=>aN p.1)->IsL K μ H (kvs.map (·.2)) (kk.map (·.2))->
  (gC kk key=none/\bF kvs (aN key)=none)\/∃d v,gC kk key=some v/\bF kvs (aN key)=some d/\Is K μ H d v
 | [],[],_,_=>.inl ⟨rfl,rfl⟩
 | [],_::_,h,_=>by simp at h
 | _::_,[],h,_=>by simp at h
 | p::kvs,q::kk,h,l=>by
  simp only[List.map_cons,List.cons.injEq]at h;simp only[List.map_cons]at l;unfold IsL at l;obtain⟨w,r,e,i,l⟩:=l;simp only[List.cons.injEq]at e;obtain⟨rfl,rfl⟩:=e;by_cases a:q.1=key
  ·right;have b:p.1=aN key:=by rw[h.1,a]
   exact⟨p.2,q.2,lE a,by simp[bF,b],i⟩
  ·have b:¬p.1=aN key:=λz=>a (iZ (h.1.symm.trans z));rw[lF a];simp only[bF,if_neg b];exact jC key h.2 l
section
variable {X:Cx}
theorem S5(m:X.A.units+64<cLine):VA X (λx y H Q=>∃a v,x= .ref a/\EE H a y (some v)/\Q v H):=by
 intro b c pins s σ H x y v u Q I i j h k;obtain⟨a,z,rfl,g,q⟩:=h;cases i;have f:=DU I g;unfold subscriptTail;refine aGs ?_;rw[getitemInPython_of_ne f.not_modules];refine aGs (aKf f PySem.F.slot_dict_getitem.lookup ?_)
 have fin:wpAny (model X.prog X.w) X.A (subscripted c false (.ref a) u) (λr d=>wpAny (model X.prog X.w) X.A (letTemporaryGo b (.ref a) r >>=λ_=>pure r) (EP X pins σ Q) X.xe d) X.xe s:=by
  rw[k];exact wpAny_operating (KA (by lia) I g j λn o l e =>aGs (wpAny_letTemporaryGo (aGu ⟨z,H,l,e,q⟩)))
 first
  | exact aGu (aGs fin)
  | exact aGs (aGu (aGs fin))
  | exact aGs fin
def MZ:O2:=λx y mh Q=>∃n kvs key d,x= .ref n/\mh[n]? =some (.dic false kvs)/\y=aN key/\bF kvs y=some d/\Q d mh
theorem ixD(h:X.A.units+64<cLine):VA X (bT X.K MZ):=by
 intro b c pins s σ H x y v u Q I i j q m;obtain⟨μ,mh,dx,D,R,f,o,p,⟨n,kvs,key,d,rfl,e,rfl,hd,q⟩,F⟩:=q;obtain⟨a,vs,rfl,E,⟨kk,r,t,rfl⟩,l⟩:=gP f o e;cases jK p
 rcases jC key t l with ⟨_,z⟩ | ⟨d',w,B,g,C⟩
 ·rw[hd]at z;cases z
 ·rw[hd]at g;cases g;exact S5 h b c pins s σ H _ _ v u Q I i j ⟨a,w,rfl,by rw[<-B];exact .k r,F.here f q C⟩ m
end
end D3
namespace TS
open PySem PySem.Spec PyProof.Rows L2
section
variable {prog:Program}{w:World}{A:Around}{E:aL2}{s:Shared}{lt:Value×Value->Value×Value->Bool}
theorem LY(O:Wk lt){Q:aL2}{r:Addr}{Ok:List Value->Shared->Prop}
  (c:∀(E:aL2) (R:List Value->Shared->Prop),(∀vs a,Ok vs a ->R vs a)->wpAny (model prog w) A.in1 (collect (.ref r)) R E s)
  (g:∀vs a,Ok vs a ->vs.length<4000)
  (i:∀vs a,Ok vs a ->∃κ,2<=vs.length->∀h' :Heap,(∀b o,a.heap.get? b=some o->h'.get? b=some o)->
   mV prog w A.in1.in1 {a with heap:=h'} κ lt (pairsOf vs)/\∀f j,f κ {a with heap:=h'}->wpAny (model prog w) A.in1.in1 (keyKind' vs.toArray) f j {a with heap:=h'})
  (h:∀vs a,Ok vs a ->∀out:List Value,out.Perm vs->out.Pairwise (λx y=>lt (y,y) (x,x)=false)->∀(d:Heap) (ep:Nat),(∀b o,a.heap.get? b=some o->d.get? b=some o)->
   d.get? a.heap.objs.size=some (seqObj "list" out.toArray ep)->Q (.ref a.heap.objs.size) {a with heap:=d}):
  wpAny (model prog w) A (call (.builtin "sorted") [.ref r]) Q E s:=by
 have u:sizeLine=16777216:=aHh;refine aJm kind_sorted plain_sorted entry_sorted (args_sorted1 _) ?_;unfold Builtin.«sorted»;refine aGs (m:=checkCount "sorted" 1 1 _) (aGu ?_);refine aGs (c _ _ λvs a ok=>?_);have hsz:=g vs a ok;obtain⟨κ,i⟩:=i vs a ok;refine aGs (aKv ?_ (by lia));have ob:(a.heap.push (seqObj "list" vs.toArray 0)).get? a.heap.objs.size=some (seqObj "list" vs.toArray 0):=aH0 _ rfl;refine aGs (aHo (aHe slot_list_sort ⟨_,ob,rfl⟩ entry_list_sort (EU (κ:=κ) (s:={a with heap:=a.heap.push (seqObj "list" vs.toArray 0)}) O ob (by lia) (λd h' k=>?_) λout l n=>⟨_,rfl,aGu ⟨_,rfl,?_⟩⟩) (args_list_sort _)))
 ·obtain⟨p,t⟩:=i d h' λb o e=>k b o (aHc (aH4 e)) (aGv _ e);exact⟨p,λf q=>t f _ q⟩
 ·obtain⟨ep,he⟩:=sortedHeap_at (out:=out.toArray) ob;refine h vs a ok out l n _ ep (λb o e=>?_) he;have lb:=aH4 e;have hb:b<(a.heap.push (seqObj "list" vs.toArray 0)).objs.size:=by rw[size_push'];exact aI0 lb
  rw[sortedHeap_old (Nat.ne_of_lt lb) hb];exact aGv _ e
end
end TS
namespace D3
open PySem PySem.Spec PyProof.Rows L2
section
variable {X:Cx}
variable{pins:List (Addr×Obj)}
theorem Inv.drawn{σ:L2.St}{H:Hp}{s a :Shared}(I:Inv X pins σ H s)(hg:a.gens=s.gens)(ho:a.os=s.os)(e:∀b o,s.heap.get? b=some o->a.heap.get? b=some o):Inv X pins σ H a :=by
 have J:Inv X pins σ H {s with heap:=a.heap,toks:=a.toks}:=I.kept (t' :=a.toks) e;obtain⟨f,g,h,i,j,k,l,m,n,c,d⟩:=J;exact⟨f,by rw[ho];exact g,by rw[hg];exact h,i,j,k,l,m,n,c,d⟩
theorem w4{P:Program}{w:World}:∀{ks:List Key} {us:List Value},Vals (ks.map kV) us->ks.length=us.length/\∀(i:Nat) (v:Value),us[i]? =some v->∃k,ks[i]? =some k/\(aS P w).is k v=true/\v.scannable=true
 | [],us,r=>by cases r;exact⟨rfl,λi v h=>by simp at h⟩
 | k::ks,us,r=>by
  cases r with
  | cons a b=>
   obtain⟨e,f⟩:=w4 (P:=P) (w:=w) b;refine⟨by simp[e],λi v h=>?_⟩
   cases i with
   | zero=>
    simp at h;subst h;refine⟨k,rfl,rP a,?_⟩
    cases k with
    | inl i=>obtain⟨t,rfl⟩:=a;rfl
    | inr x=>obtain⟨t,rfl⟩:=a;rfl
   | succ i=>exact f i v (by simpa using h)
theorem V4{σ:L2.St}{H:Hp}{s:Shared}{p:Addr}{ks:List Key}(I:Inv X pins σ H s)(e:H p=some (GH X.prog X.w p ks)):ST.gU (aS X.prog X.w) (ST.iD X.w) s.heap p ks:=(I.bO p _ e).1
theorem oV{P:Program}{w:World}{h:Heap}:∀{ps:List (Key×Value)},(∀p∈ps,(aS P w).is p.1 p.2=true)->eN h (ps.map λp=>aN p.1) (ps.map (·.2))
 | [],_=>by simp[eN]
 | p::ps,hp=>by
  simp only[List.map_cons];unfold eN;refine⟨_,_,rfl,?_,oV λq c=>hp q (aGx _ c)⟩;have:=hp p aGw
  rcases bU (k:=p.1) (v:=p.2) this with ⟨i,t,a,b⟩ | ⟨x,t,a,b⟩
  ·rw[a,b];simp only[aN];unfold Vl;exact⟨t,rfl⟩
  ·rw[a,b];simp only[aN];unfold Vl;exact⟨t,rfl⟩
theorem LQ{ds a:List D}(U:K2 ds)(p:a.Perm ds):K2 a:=by
 rcases U with ⟨c,h⟩ | ⟨c,b,h⟩
 ·exact .inl ⟨c,λd hd=>h d (p.mem_iff.mp hd)⟩
 ·exact .inr ⟨c,b,λd hd=>h d (p.mem_iff.mp hd)⟩
theorem vT(hu:X.A.units+64<cLine)(K:X.calm=true):cU X (.builtin "sorted") (λxs H Q=>∃(p:Addr) (ks:List Key),xs=[.ref p]/\H p=some (GH X.prog X.w p ks)/\ks.length<4000/\K2 (ks.map aN)/\
  ∀f :List Key,f.Perm ks->(f.map aN).Pairwise (λd e=>lx (enc e) (enc d)=false)->∀q,H q=none->Q (.ref q) (upd H q (.lst (f.map kV)))):=by
 intro pins s σ H xs us Q I r q;obtain⟨p,ks,rfl,e,L,U,q⟩:=q;obtain⟨u,rfl,M⟩:=vals1 r;cases M;have N:=V4 I e;have sz:=aHh;have O:X.A.in1.in1.units+40<cLine:=by show X.A.units+1+1+40<_;lia
 refine TS.LY (A:=X.A) (FG s.heap) (Ok:=λvs c =>ST.Vof (aS X.prog X.w) ks vs/\c.gens=s.gens/\c.os=s.os/\∀b o,s.heap.get? b=some o->c.heap.get? b=some o)
  (λE R S=>ST.BS (A:=X.A.in1) N (I.ok.hd K) (by lia) λc vs T hg ho i=>S vs c ⟨T,hg,ho,i⟩) ?_ ?_ ?_
 ·rintro vs c ⟨⟨ps,V,j,n⟩,_⟩;have W:=aHu List.length V;have Y:=j.length_eq;simp at W Y
  lia
 ·rintro vs c ⟨⟨ps,rfl,j,n⟩,hg,ho,i⟩;have Z:eN s.heap (ps.map λp=>aN p.1) (ps.map (·.2)):=oV n;have U2:K2 (ps.map λp=>aN p.1):=LQ U (by have:=j.map aN;simpa[Function.comp_def] using this);by_cases l:2<=(ps.map (·.2)).length
  ·obtain⟨κ,y⟩:=uA (prog:=X.prog) (w:=X.w) (A:=X.A.in1.in1) (s:={c with heap:=s.heap}) O U2 Z l;exact⟨κ,λ_ h' k=>y h' λb o e=>k b o (i b o e)⟩
  ·exact⟨general',λz=>absurd z l⟩
 ·rintro vs c ⟨⟨ps,rfl,j,n⟩,hg,ho,i⟩ out p1 B l ep kept he;obtain⟨a,C,D⟩:=lP (·.2) p1 ps rfl;have x:∀p∈a,(aS X.prog X.w).is p.1 p.2=true:=λp hp=>n p (C.mem_iff.mp hp);have J:Inv X pins σ H c :=Inv.drawn I hg ho i;have F:(a.map (·.1)).Perm ks:=(C.map _).trans j
  have pw:((a.map (·.1)).map aN).Pairwise (λd e=>lx (enc e) (enc d)=false):=by
   rw[<-D]at B;rw[List.pairwise_map]at B;rw[List.pairwise_map,List.pairwise_map];refine B.imp_of_mem λ{t t'} m m' G=>?_
   have v1:Vl s.heap (aN t.1) t.2:=by
    have:=oV (h:=s.heap) (ps:=[t]) (P:=X.prog) (w:=X.w) λq g=>by simp at g;subst g;exact x _ m
    simp only[List.map_cons,List.map_nil]at this;unfold eN at this;obtain⟨u,r,e,v,_⟩:=this;cases e;exact v
   have v2:Vl s.heap (aN t'.1) t'.2:=by
    have:=oV (h:=s.heap) (ps:=[t']) (P:=X.prog) (w:=X.w) λq g=>by simp at g;subst g;exact x _ m'
    simp only[List.map_cons,List.map_nil]at this;unfold eN at this;obtain⟨u,r,e,v,_⟩:=this;cases e;exact v
   unfold ltV at G;rw[nT v1,nT v2]at G;exact G
  have ln:((a.map (·.1)).map kV).length<=sizeLine:=by have:=F.length_eq;simp at*;lia
  have vv:Vals ((a.map (·.1)).map kV) out:=by
   rw[<-D];clear C D F pw ln
   induction a with
   | nil=>exact .nil
   | cons p a ih=>exact .cons (BZ (x p aGw)) (ih λq g=>x q (aGx _ g))
  have I1:Inv X pins σ (upd H c.heap.objs.size (.lst ((a.map (·.1)).map kV))) {c with heap:=l}:=
   J.laid (h' :=l) (t' :=c.toks) kept (aGy _) ⟨ln,out,ep,vv,he⟩
  exact⟨.ref c.heap.objs.size,_,I1,rfl,q _ F pw _ (J.bO.fresh (aGy _))⟩
end
theorem E8{ks:List Key}(h:ks.Nodup)(k:Key):(ST.mZ ks k).Nodup:=by
 unfold ST.mZ;split
 ·exact h
 ·rename_i hk;rw[List.nodup_append];exact⟨h,by simp,λa ha b hb=>by simp at hb;subst hb;exact λz=>hk (z▸ha)⟩
theorem jF:∀{xs ks:List Key},ks.Nodup->(ST.bS ks xs).Nodup
 | [],ks,h=>h
 | x::xs,ks,h=>jF (xs:=xs) (E8 h x)
def XJ:Expr->Bool
 | .Starred .. =>false
 | _=>true
def JK:List Expr->Bool
 | []=>true
 | e::es=>XJ e && JK es
theorem tZ{e:Expr}{a:List Expr}{env:Env}(h:XJ e=true):starEach (e::a) env=(false,eval e env)::starEach a env:=by
 cases e <;> first | rfl | (simp[XJ]at h)
theorem oX{pos:Pos}{env:Env}:∀{a:List Expr},JK a=true->(backTo pos (starEach a env)).any (·.1)=false
 | [],_=>rfl
 | e::a,h=>by
  unfold JK at h;rw[Bool.and_eq_true]at h;rw[tZ h.1];show (false || (backTo pos (starEach a env)).any (·.1))=false;rw[oX h.2];rfl
section
variable {X:Cx}{e:Expr}{es:List Expr}{w:WE}{wr wa:WA}{pos p:Pos}{x:Str}
theorem aG5(ha:LE X e w)(a:LA X es wr)(h:XJ e=true:=by rfl):LA X (e::es) (aA w wr):=S2 ha a (tZ h)
theorem aCo{k:Nat}{ps:List Str}{s:OA}(F:Fn X.prog X.w X.K X.mg X.base k x ps s)(b:fH k X.A)(ha:LA X (e::es) wr)(hg:Gl X x:=by rfl)(a:(x==("__debug__":Str))=false:=by decide)
  (h:XJ e=true:=by rfl) (c:JK es=true:=by rfl):LE X (.Call (.Name x p) (e::es) [] pos) (aE s wr):=NW F b ha hg a (tZ h) (oX c)
theorem FL{id:String}{f:OA}(b:cU X (.builtin id) (fF X.K f))(c:X.mg x=none)(d:bootBuiltins x=some (.builtin id))(ha:LA X (e::es) wr)(hg:Gl X x:=by rfl)(g:x≠ "__name__":=by decide)(a:(x==("__debug__":Str))=false:=by decide)
  (h:XJ e=true:=by rfl) (i:JK es=true:=by rfl):LE X (.Call (.Name x p) (e::es) [] pos) (aE f wr):=aCp b c d ha hg g a (tZ h) (oX i)
theorem aG4{T:String}{f:OA}(b:cU X (.type T) (fF X.K f))(c:X.mg x=none)(d:bootBuiltins x=some (.type T))(ha:LA X (e::es) wr)(hg:Gl X x:=by rfl)(g:x≠ "__name__":=by decide)(a:(x==("__debug__":Str))=false:=by decide)
  (h:XJ e=true:=by rfl) (i:JK es=true:=by rfl):LE X (.Call (.Name x p) (e::es) [] pos) (aE f wr):=aCn b c d ha hg g a (tZ h) (oX i)
end
def HI:Expr->Bool
 | .ListComp .. =>false
 | .SetComp .. =>false
 | .DictComp .. =>false
 | _=>true
theorem BP{e:Expr}{t:Option Expr}{l:Nat}{env:Env}(h:HI e=true):swapsWith e t l env=pure false:=by
 cases e <;> first | rfl | (simp[HI]at h)
section
variable {X:Cx}{e:Expr}{w:WE}{pos:Pos}
theorem aFy(i:Nat){x:Str}{a :Pos}(hN:X.N.Nodup)(he:LE X e w)(hi:X.N[i]? =some x:=by rfl)(b:Loc X.env.scope x:=by first | exact Or.inl rfl | exact Or.inr rfl)(c:HI e=true:=by rfl)(d:X.fn x=true\/X.env.scope.names.lookup x=some .local:=by first | exact .inl rfl | exact .inr rfl | assumption):
  LS X (.Assign [.Name x a] e pos) (bZ w (gN i)):=XZ i hN he hi b (BP c) d
theorem aFz(he:LE X e w)(a:HI e=true:=by rfl):LS X (.Expr e pos) (fB w):=SH he (BP a)
end
section
variable {prog:Program}{w:World}{A:Around}{E:aL2}{s:Shared}
variable{aH items:Array Value}
theorem vK{S it:Addr}{c:Nat}{Q:aL2}(b:s.heap.get? S=some {cls:= .type "list",data:= .seq aH c})(ht:s.heap.IsTuple it items)
  (a:¬(!aH.isEmpty && Builtin.List.listTooLong (aH.size+items.size))=true) (hz:aH.size+items.size<=sizeLine)
  (h:Q .none {s with heap:=s.heap.update S (Obj.mapSeq (· ++items))}):wpAny (model prog w) A (call (.builtin "list.extend") [.ref S,.ref it]) Q E s:=by
 obtain⟨o,ho,e,n,hd⟩:=id ht;refine aHe aJr ⟨_,b,rfl⟩ PySem.F.entry_list_extend ?_ (PySem.F.args_list_extend_2 _ _);unfold Builtin.«list.extend»;refine aGs (m:=selfAndOne "list.extend" _) (aGu ?_);dsimp only;unfold Builtin.List.listExtendWith;refine aGs (aIq ht.typeIs ?_);have d:(Builtin.List.listSameRef (.ref S) (.ref it) || Value.type "tuple"==Value.type "list" || Value.type "tuple"==Value.type "tuple")=true:=by simp
 simp only[d,if_true];refine aGs ?_;unfold Builtin.List.listItems;refine aGs (aHx ho hd (aGu ?_));refine aGs ?_;refine aGs (aHx b rfl (aGu ?_));rw[if_neg a];refine aGs ?_;show wpAny _ _ (updateSeq S (· ++items)) _ _ _;refine aI5 (hz:=by lia) (_hz' :=by simp only[Array.size_append];lia) b rfl ?_;exact aGu ⟨_,rfl,h⟩
theorem F0{S it:Addr}{c n:Nat}{o:Obj}{Q:aL2}(b:s.heap.get? S=some {cls:= .type "list",data:= .seq aH c})(ho:s.heap.get? it=some o)(d:o.cls= .type "list")(hd:o.data= .seq items n)
  (a:¬(!aH.isEmpty && Builtin.List.listTooLong (aH.size+items.size))=true) (hz:aH.size+items.size<=sizeLine)
  (h:Q .none {s with heap:=s.heap.update S (Obj.mapSeq (· ++items))}):wpAny (model prog w) A (call (.builtin "list.extend") [.ref S,.ref it]) Q E s:=by
 refine aHe aJr ⟨_,b,rfl⟩ PySem.F.entry_list_extend ?_ (PySem.F.args_list_extend_2 _ _);unfold Builtin.«list.extend»;refine aGs (m:=selfAndOne "list.extend" _) (aGu ?_);dsimp only;unfold Builtin.List.listExtendWith;refine aGs (aIq (T:= "list") ⟨_,ho,d⟩ ?_);have e:(Builtin.List.listSameRef (.ref S) (.ref it) || Value.type "list"==Value.type "list" || Value.type "list"==Value.type "tuple")=true:=by simp
 simp only[e,if_true];refine aGs ?_;unfold Builtin.List.listItems;refine aGs (aHx ho hd (aGu ?_));refine aGs ?_;refine aGs (aHx b rfl (aGu ?_));rw[if_neg a];refine aGs ?_;show wpAny _ _ (updateSeq S (· ++items)) _ _ _;refine aI5 (hz:=by lia) (_hz' :=by simp only[Array.size_append];lia) b rfl ?_;exact aGu ⟨_,rfl,h⟩
end
section
variable {X:Cx}
def NL:OM:=λx ds mh Q=>∃n a fs,x= .ref n/\ds=[.tup fs]/\mh[n]? =some (.lst a)/\a.length+fs.length<=sizeLine/\Q .b9 (mh.set n (.lst (a++fs)))
theorem XQ:MtR X "list.extend" (liftM X.K NL):=by
 intro pins s σ H x xs v us Q I k rs q;obtain⟨μ,mh,dx,ds,R,g,m,o,⟨n,B,fs,rfl,rfl,e,hz,q⟩,F⟩:=q;obtain⟨a,vs,rfl,p,h,l⟩:=fM g m e;obtain⟨z,rfl,t⟩:=nP o;obtain⟨b,C,rfl,sq,i⟩:=dX t;cases k;obtain⟨u,rfl,w⟩:=rs.one;cases w;obtain⟨D,aH,c,r,E,ho⟩:=I.zR h;obtain⟨d,j,y,A⟩:=I.tuple sq;have G:=aK l;have J:=aK i;have L:=j.length;have hsz:aH.toArray.size+d.toArray.size<=sizeLine:=by rw[List.size_toArray,List.size_toArray];lia
 have f:¬(!aH.toArray.isEmpty && Builtin.List.listTooLong (aH.toArray.size+d.toArray.size))=true:=by
  rw[pK hsz,Bool.and_false];exact aJt
 refine vK ho (show s.heap.IsTuple b d.toArray from y) f hsz ?_;refine⟨.b9,_,I.NQ (its' :=aH++d) h ho (by simp) (r.append j) ?_,rfl,F.put g p (e8 l i) q .b9⟩;rw[List.length_append]
 lia
def u5:OM:=λx ds mh Q=>∃n y a fs,x= .ref n/\ds=[y]/\mh[n]? =some (.lst a)/\bG mh y=some fs/\a.length+fs.length<=sizeLine/\Q .b9 (mh.set n (.lst (a++fs)))
theorem FC:MtR X "list.extend" (liftM X.K u5):=by
 intro pins s σ H x xs v us Q I p rs q;obtain⟨μ,mh,dx,ds,R,g,t,B,⟨n,y,S,fs,rfl,rfl,e,C,hz,q⟩,F⟩:=q;obtain⟨a,vs,rfl,D,k,l⟩:=fM g t e;obtain⟨z,rfl,E⟩:=nP B;obtain⟨b,G,rfl,sq,m⟩:=zC g E C;cases p;obtain⟨u,rfl,J⟩:=rs.one;cases J;obtain⟨T,aH,c,r,U,ho⟩:=I.zR k;have V:=aK l;have W:=aK m
 have fin:∀d:List Value,Vals G d->(∀{Q:aL2},aH.toArray.size+d.toArray.size<=sizeLine->¬(!aH.toArray.isEmpty && Builtin.List.listTooLong (aH.toArray.size+d.toArray.size))=true->Q .none {s with heap:=s.heap.update a (Obj.mapSeq (· ++d.toArray))}->
   wpAny (model X.prog X.w) X.A (call (.builtin "list.extend") [.ref a,.ref b]) Q X.xe s)->wpAny (model X.prog X.w) X.A (call (.builtin "list.extend") [.ref a,.ref b]) (EP X pins σ Q) X.xe s:=λd f go=>by
  have Y:=f.length;have hsz:aH.toArray.size+d.toArray.size<=sizeLine:=by rw[List.size_toArray,List.size_toArray];lia
  refine go hsz (by rw[pK hsz,Bool.and_false];exact aJt) ?_;refine⟨.b9,_,I.NQ (its' :=aH++d) k ho (by simp) (r.append f) ?_,rfl,F.put g D (e8 l m) q .b9⟩;rw[List.length_append]
  lia
 rcases sq with sq | sq
 ·obtain⟨d,f,⟨o,Z,L,M,_,N⟩,_⟩:=I.list sq;exact fin d f λh i j=>F0 ho L M N i h j
 ·obtain⟨d,f,O,P⟩:=I.tuple sq;exact fin d f λh i j=>vK ho (show s.heap.IsTuple b d.toArray from O) i h j
end
section
variable {ρ:d7}{mh:MH}{Q:DK}{E:d6}
@[simp] theorem aF2 (w f wi:WE):GW w f wi E ρ mh=(w ρ mh λd a=>f ρ a λo b=>wi ρ b λi c=>UU o i d c λe=>E.nx ρ e):=rfl
@[simp] theorem aF1 (w f:WE)(wi:WA):LL w f wi E ρ mh=(w ρ mh λd a=>f ρ a λo b=>wi ρ b λks c=>UT o ks d c λe=>E.nx ρ e):=rfl
@[simp] theorem s_dic (t:Bool):yY t ρ mh Q=(Q (.ref mh.length) (mh++[.dic t []])):=rfl
end
theorem mC(d e:D)(ds:List D):mY (d::e::ds) 1=some e:=by
 have:=iG (xs:=d::e::ds) (j:=1) (v:=e) rfl;simpa using this
theorem A3(d e f:D)(ds:List D):mY (d::e::f::ds) 2=some f:=by
 have:=iG (xs:=d::e::f::ds) (j:=2) (v:=f) rfl;simpa using this
variable{α:Type}
theorem T8{f:α->D}{ss:List α}{i:Int}(h0:0<=i)(a:i<ss.length):∃v,v∈ss/\ss[i.toNat]? =some v/\mY (ss.map f) i=some (f v):=by
 have hi:i.toNat<ss.length:=by lia
 refine⟨ss[i.toNat],aK8 _,by simp[hi],?_⟩;have e:i=((i.toNat:Nat):Int):=by lia
 have:=iG (xs:=ss.map f) (j:=i.toNat) (v:=f (ss[i.toNat])) (by rw[List.getElem?_map,List.getElem?_eq_getElem hi];rfl);rw[<-e]at this;exact this
open Classical in
theorem G0(k v:D):∀kvs:List (D×D),(∃p∈kvs,p.1=k)->bF (kvs.map λp=>if p.1=k then (p.1,v) else p) k=some v
 | [],h=>by obtain⟨p,b,_⟩:=h;cases b
 | p::kvs,h=>by
  rw[List.map_cons];by_cases e:p.1=k
  ·simp[bF,e]
  ·simp only[bF,if_neg e];refine G0 k v kvs ?_;obtain⟨r,c,a⟩:=h;rcases aH2.mp c with z | z
   ·subst z;exact absurd a e
   ·exact⟨r,z,a⟩
theorem G1(k v:D):∀kvs:List (D×D),(¬∃p∈kvs,p.1=k)->bF (kvs++[(k,v)]) k=some v
 | [],h=>by simp[bF]
 | p::kvs,h=>by
  have e:¬p.1=k:=λz=>h ⟨p,aGw,z⟩;rw[List.cons_append];simp only[bF,if_neg e];exact G1 k v kvs λa=>by obtain⟨r,b,c⟩:=a;exact h ⟨r,aGx _ b,c⟩
theorem jD(kvs:List (D×D))(k v:D):bF (putD kvs k v) k=some v:=by
 classical
 unfold putD;by_cases h:∃p∈kvs,p.1=k
 ·rw[if_pos h];exact G0 k v kvs h
 ·rw[if_neg h];exact G1 k v kvs h
open Classical in
theorem nZ(k v:D){a :D}(b:a ≠k):∀kvs:List (D×D),bF (kvs.map λp=>if p.1=k then (p.1,v) else p) a =bF kvs a
 | []=>rfl
 | p::kvs=>by
  rw[List.map_cons];by_cases e:p.1=k
  ·have c:¬p.1=a :=λz=>b (z.symm.trans e);simp only[if_pos e,bF,if_neg c,nZ k v b kvs]
  ·simp only[if_neg e,bF,nZ k v b kvs]
theorem tV(k v:D){a :D}(b:a ≠k):∀kvs:List (D×D),bF (kvs++[(k,v)]) a =bF kvs a
 | []=>by simp[bF,Ne.symm b]
 | p::kvs=>by
  rw[List.cons_append];simp only[bF,tV k v b kvs]
theorem tU(kvs:List (D×D)){k a :D}(v:D)(b:a ≠k):bF (putD kvs k v) a =bF kvs a :=by
 classical
 unfold putD;split
 ·exact nZ k v b kvs
 ·exact tV k v b kvs
variable{mh:MH}{Q:DK}
theorem sQ{b:Nat}{a:Int}(c:1<=a)(d:a<=1073741789)(hb:wV mh b)(q:∀r mh',0<=r->r<a->cR mh b mh' ->Q (.int r) mh'):iA [.ref b,.int a] mh Q:=⟨b,a,rfl,c,d,hb,q⟩
theorem T7{ns:List Int}{a:Int}(b:ns.length<=63)(c:0<=a)(d:a<=100)(q:∀mh',(∃o,mh' =mh++[o])->wV mh' mh.length->Q (.ref mh.length) mh'):JB [.fl (ns.map .int),.int a] mh Q:=⟨ns,a,rfl,b,c,d,q⟩
def cG(mh mh' :MH):Prop:=∃T,mh' =mh++T
theorem cG.refl:cG mh mh:=⟨[],by simp⟩
variable{mh':MH}
theorem cG.app(h:cG mh mh')(T:MH):cG mh (mh' ++T):=by
 obtain⟨U,rfl⟩:=h;exact⟨U++T,by simp⟩
theorem cG.le(h:cG mh mh'):mh.length<=mh'.length:=by obtain⟨U,rfl⟩:=h;simp
variable{n:Nat}{o:MO}
theorem cG.old(h:cG mh mh')(e:mh[n]? =some o):mh'[n]? =some o:=by
 obtain⟨T,rfl⟩:=h;rw[List.getElem?_append_left (List.getElem?_eq_some_iff.mp e).1];exact e
theorem cG.push(h:cG mh mh')(o:MO):cG mh (mh' ++[o]):=by
 obtain⟨T,rfl⟩:=h;exact⟨T++[o],by simp⟩
theorem cG.set(h:cG mh mh')(a:mh.length<=n)(o:MO):cG mh (mh'.set n o):=by
 obtain⟨T,rfl⟩:=h;exact⟨T.set (n-mh.length) o,by rw[List.set_append_right _ _ a]⟩
theorem cG.out{d:D}{R:DK}(h:cG mh mh')(ok:i7 mh)(hd:dB mh.length d=true)(q:R d mh):Out mh.length d mh' R:=by
 obtain⟨T,rfl⟩:=h;exact uU ok hd q
theorem cG.W4{j:Nat}{R:DK}(h:cG mh mh')(ok:i7 mh)(a:mh.length<=j)(e:mh'[j]? =some o)(hd:zM mh.length o=true)(q:R (.ref mh.length) (mh++[o])):Out mh.length (.ref j) mh' R:=by
 obtain⟨T,rfl⟩:=h;exact .inr (.inr ⟨mh,T,j,o,rfl,aGy _,ok,rfl,a,e,hd,q⟩)
theorem dD.W4{b j:Nat}{R:DK}(h:dD mh b mh')(ok:i7 mh)(c:mh.length<=j)(e:mh'[j]? =some o)(hd:zM mh.length o=true)(q:∀a,cR mh b a->R (.ref a.length) (a++[o])):Out mh.length (.ref j) mh' R:=by
 obtain⟨a,T,rfl,t⟩:=h;exact .inr (.inr ⟨a,T,j,o,rfl,by rw[t.len];exact aGy _,t.mok ok,rfl,by rw[t.len];exact c,e,by rw[t.len];exact hd,q a t⟩)
theorem dD.app{b:Nat}(h:dD mh b mh')(T:MH):dD mh b (mh' ++T):=by
 obtain⟨a,U,rfl,c⟩:=h;exact⟨a,U++T,by simp,c⟩
theorem aM{o x:MO}(e:mh[n]? =some o):(mh++[x])[n]? =some o:=by
 rw[List.getElem?_append_left (List.getElem?_eq_some_iff.mp e).1];exact e
theorem pR{mh T:MH}(e:mh[n]? =some o):(mh++T)[n]? =some o:=by
 rw[List.getElem?_append_left (List.getElem?_eq_some_iff.mp e).1];exact e
theorem get_set{n m:Nat}{o x:MO}(e:mh[n]? =some o)(h:m≠n):(mh.set m x)[n]? =some o:=by
 rw[List.getElem?_set_ne h];exact e
theorem bE(x:MO)(e:mh[n]? =some o):(mh.set n x)[n]? =some x:=by
 rw[List.getElem?_set_self (List.getElem?_eq_some_iff.mp e).1]
theorem eS(e:mh[n]? =some o):n<mh.length:=(aGt.mp e).1
theorem bI{ds:List D}(e:mh[n]? =some (.lst ds)):bG mh (.ref n)=some ds:=by simp[bG,e]
theorem FH{ds:List D}(e:mh[n]? =some (.lst ds)):mW mh (.ref n)=some ds:=by simp[mW,e]
theorem T9(d e f g:D)(ds:List D):mY (d::e::f::g::ds) 3=some g:=by
 have:=iG (xs:=d::e::f::g::ds) (j:=3) (v:=g) rfl;simpa using this
theorem sX(l:List α)(x:α):mY (l++[x]) (-1)=some x:=by
 unfold mY FO;rw[if_neg (by lia),if_pos (by simp;lia)];simp only[Option.bind_some];have:((-1:Int)+((l++[x]).length:Int)).toNat=l.length:=by simp;lia
 rw[this];simp
theorem vC(n:Nat):FO (n+1) (-1)=some n:=by
 unfold FO;rw[if_neg (by lia),if_pos (by lia)];congr 1;lia
theorem dN{f:α->D}{l:List α}{i:Nat}{d:D}(h:(l.map f)[i]? =some d):∃x,l[i]? =some x/\d=f x:=by
 rw[List.getElem?_map]at h;obtain⟨x,a,b⟩:=aHr.mp h;exact⟨x,a,b.symm⟩
theorem take_snoc{l:List α}{i:Nat}{x:α}(h:l[i]? =some x):l.take (i+1)=l.take i++[x]:=by
 rw[List.take_add_one,h];rfl
theorem yJ(ds:List D):cutD ds (some 1) none=ds.tail:=by
 cases ds with
 | nil=>rfl
 | cons a ds=>
  unfold cutD;have b:HT.cW (a::ds).length 0 (some 1)=1:=by simp[HT.cW]
  have c:HT.cW (a::ds).length (a::ds).length none=(a::ds).length:=by simp[HT.cW]
  rw[b,c];simp
theorem oF{α j:Type}{g:WG}{t:WT}{w:WE}{ρe:d7}{St:MH->Prop}{Q:DK}(em:α->D)(p:α->Bool)(f:α->j)(a:j->D):∀(ds:List α) (ys:List j) {mh:MH},St mh->
  (∀d∈ds,∀(N:DK) (M:MH->Prop),(p d=true->N (a (f d)) mh)->(p d=false->M mh)->g (em d) ρe λc=>t c mh λb i=>if b=true then w c i N else M i)->
  Q (.ref mh.length) (mh++[.lst ((ys++(ds.filter p).map f).map a)])->i4 g t w ρe St Q (ds.map em) (ys.map a) mh
 | [],ys,mh,hst,_,q=>⟨hst,by simpa using q⟩
 | d::ds,ys,mh,hst,h,q=>by
  refine⟨hst,?_⟩;refine h d aGw _ _ (λk=>?_) λk=>?_
  ·have:=oF (Q:=Q) (St:=St) (g:=g) (t:=t) (w:=w) (ρe:=ρe) em p f a ds (ys++[f d]) hst (λe he=>h e (aGx _ he)) (by rw[List.filter_cons_of_pos k]at q;simpa using q);simpa using this
  ·exact oF em p f a ds ys hst (λe he=>h e (aGx _ he)) (by rw[List.filter_cons_of_neg (by simp[k])]at q;exact q)
theorem yK{α b:Type}{g:WG}{w:WE}{ρe:d7}{St:MH->Prop}{Q:DK}(em:α->D)(f:α->b)(a:b->D):∀(ds:List α) (ys:List b) {mh:MH},St mh->
  (∀d∈ds,∀(N:DK),N (a (f d)) mh->g (em d) ρe λc=>w c mh N)->
  Q (.ref mh.length) (mh++[.lst ((ys++ds.map f).map a)])->i4 g lC w ρe St Q (ds.map em) (ys.map a) mh
 | [],ys,mh,hst,_,q=>⟨hst,by simpa using q⟩
 | d::ds,ys,mh,hst,h,q=>by
  refine⟨hst,?_⟩;simp only[L4,if_true];refine h d aGw _ ?_;have:=yK (Q:=Q) (St:=St) (g:=g) (w:=w) (ρe:=ρe) em f a ds (ys++[f d]) hst (λe he=>h e (aGx _ he)) (by simpa using q);simpa using this
theorem vP{α j:Type}{g:WG}{t:WT}{w:WE}{ρe:d7}{St:MH->Prop}(em:α->D)(p:α->Bool)(f:α->j)(e:j->D)(ds:List α)(i:St mh)
  (h:∀d∈ds,∀(N:DK) (M:MH->Prop),(p d=true->N (e (f d)) mh)->(p d=false->M mh)->g (em d) ρe λa=>t a mh λb c=>if b=true then w a c N else M c)
  (q:Q (.ref mh.length) (mh++[.lst (((ds.filter p).map f).map e)])):i4 g t w ρe St Q (ds.map em) [] mh:=oF em p f e ds [] i h q
theorem i3{α e:Type}{g:WG}{w:WE}{ρe:d7}{St:MH->Prop}(em:α->D)(f:α->e)(a:e->D)(ds:List α)(b:St mh)
  (h:∀d∈ds,∀(N:DK),N (a (f d)) mh->g (em d) ρe λc=>w c mh N)
  (q:Q (.ref mh.length) (mh++[.lst ((ds.map f).map a)])):i4 g lC w ρe St Q (ds.map em) [] mh:=yK em f a ds [] b h q
theorem lJ{M:MH}(h:M[n]? =some o):M.set n o=M:=by
 apply aK2;intro i;by_cases hi:i=n
 ·subst hi;rw[List.getElem?_set_self (eS h),h]
 ·rw[List.getElem?_set_ne (Ne.symm hi)]
theorem zip_map{α:Type}(f:α->D):∀(l m:List α),kA (l.map f) (m.map f)=(l.zip m).map λp=>.tup [f p.1,f p.2]
 | [],_=>by simp[kA]
 | a::l,[]=>by simp[kA]
 | a::l,b::m=>by simp[kA,zip_map f l m]
def sM(P:Program)(w:World)(K:aL1)(mg:aL4)(base:Heap)(k:Nat)(x:Str)(N:List Str)(st:Stmt)(wB:WS):Prop:=
 ∀(f:Addr) (cdv:Value) (A:Around) (outer:List Env) (s:Shared) (H:Hp) (E:XK),fH k (A.deeper (envOfC x (aC st) s.heap.objs.size f cdv))->
  kI (vO A8 P w K mg base N x (aC st) f cdv A outer s H E).QA (bX st) wB
section
variable {P:Program}{w:World}{K:aL1}{mg:aL4}{base:Heap}{h:Heap}
theorem eJ{x:Str}{st:Stmt}{N ps:List Str}{k:Nat}{s:OA}{wB:WS}(b:eU K x st)(KX:K.In h)(G:h.Ns mainGlobals mg)(c:cE x st ps)(S:aV N ps (aC st))(hb:sM P w K mg base k x N st wB)(len:∀ds mh R,s ds mh R->ds.length=ps.length)
  (e:∀ds mh R,i7 mh->s ds mh R->wB {nx:=λ_ a=>Out mh.length .b9 a R,rt:=λd a=>Out mh.length d a R} (aG N ds) mh):Fn P w K mg base (k+1) x ps s:=
 ZM b KX G c S len hb λds mh R ok _ f=>e ds mh R ok f
theorem ZL{x:Str}{st:Stmt}{N ps:List Str}{j k:Nat}{s:OA}{wB:WS}(e:k+1=j)(b:eU K x st)(KX:K.In h)(G:h.Ns mainGlobals mg)(c:cE x st ps)(S:aV N ps (aC st))(hb:sM P w K mg base k x N st wB)(len:∀ds mh R,s ds mh R->ds.length=ps.length)
  (f:∀ds mh R,i7 mh->s ds mh R->wB {nx:=λ_ a=>Out mh.length .b9 a R,rt:=λd a=>Out mh.length d a R} (aG N ds) mh):Fn P w K mg base j x ps s:=
 e▸eJ b KX G c S hb len f
theorem YK{x:Str}{st:Stmt}{N:List Str}{k:Nat}{c:Addr}{wB:WS}(KX:K.In h)(G:h.Ns mainGlobals mg)(b:mg "law"=some (.ref c))(e:eU K "law" st)(S:aV N [x] (aC st))(f:cE "law" st [x])
  (hb:∀base:Heap,sM P w K mg base k "law" N st wB)
  (g:∀ds mh R,i7 mh->wA ds mh R->wB {nx:=λ_ a=>Out mh.length .b9 a R,rt:=λd a=>Out mh.length d a R} (aG N ds) mh):
  ∃fd:FuncData,(∀(s:Shared) (u:Value),BindsTo s fd ⟨[u],[]⟩ [(x,u)])/\∀base:Heap,iN P w K mg base A8 (k+1) c fd [x] (LX K wA):=
 YL KX G b e S f λbase=>⟨wB,hb base,λds mh R ok _ i=>g ds mh R ok i⟩
end
def cmB:Bool->Nat
 | false=>sizeLine
 | true=>4000
def AD(b:Bool)(g:WG)(t:WT)(w:WE)(ρe:d7)(St:MH->Prop)(K:List D->MH->Prop):List D->List D->MH->Prop
 | [],ys,mh=>St mh/\K ys mh
 | d::ds,ys,mh=>St mh/\ys.length<cmB b/\g d ρe λa=>t a mh λc e=>if c=true then w a e λy f=>(b=true->∃k,y=aN k)/\AD b g t w ρe St K ds (ys++[y]) f else AD b g t w ρe St K ds ys e
def qR(b:Bool)(g:WG)(t:WT)(a:WI)(h:WG)(i:WT)(w:WE)(ρe:d7)(St:MH->Prop)(K:List D->MH->Prop):List D->List D->MH->Prop
 | [],ys,mh=>St mh/\K ys mh
 | d::ds,ys,mh=>St mh/\g d ρe λe=>t e mh λc f=>if c=true then a e f λl j k=>AD b h i w e j (qR b g t a h i w ρe St K ds) l ys k else qR b g t a h i w ρe St K ds ys f
def lstK(Q:DK):List D->MH->Prop:=λys mh=>Q (.ref mh.length) (mh++[.lst ys])
def aAx(own:List Str)(aO:List Nat)(wi:WI)(g:WG)(t:WT)(a:WI)(d:WG)(e:WT)(w:WE):WE:=λc mh Q=>wi c mh λds St b=>qR false g t a d e w (jM own aO c) St (lstK Q) ds [] b
@[simp] theorem s_lc2 {b:d7}(own:List Str)(aO:List Nat)(i:WI)(g:WG)(t:WT)(d:WI)(e:WG)(f:WT)(a:WE):aAx own aO i g t d e f a b mh Q=(i b mh λds St c=>qR false g t d e f a (jM own aO b) St (lstK Q) ds [] c):=rfl
theorem vF{b:Bool}{d j:Type}{g:WG}{w:WE}{ρe:d7}{St:MH->Prop}{K:List D->MH->Prop}(em:d->D)(f:d->j)(c:j->D)(hb:b=true->∀x,∃k,c x=aN k):∀(a:List d) (ys:List D) {mh:MH},St mh->ys.length+a.length<=cmB b->
  (∀e∈a,∀N:DK,N (c (f e)) mh->g (em e) ρe λi=>w i mh N)->K (ys++(a.map f).map c) mh->AD b g lC w ρe St K (a.map em) ys mh
 | [],ys,mh,hst,_,_,q=>⟨hst,by simpa using q⟩
 | e::a,ys,mh,hst,hl,h,q=>by
  simp only[List.length_cons]at hl;refine⟨hst,by lia,?_⟩;simp only[L4,if_true];refine h e aGw _ ⟨λz=>hb z _,?_⟩;exact vF em f c hb a (ys++[c (f e)]) hst (by simp;lia) (λe he=>h e (aGx _ he)) (by simpa using q)
theorem vQ{b:Bool}{α m p:Type}{g r:WG}{j:WI}{w:WE}{ρe:d7}{St:MH->Prop}{K:List D->MH->Prop}(em:α->D)(a:α->List m)(c:m->D)(f:α->m->p)(l:p->D)(h:α->d7)(hb:b=true->∀x,∃k,l x=aN k):∀(ds:List α) (ys:List D) {mh:MH},St mh->ys.length+(ds.flatMap a).length<=cmB b->
  (∀d∈ds,∀N:d7->Prop,N (h d)->g (em d) ρe N)->(∀d∈ds,∀N:List D->(MH->Prop)->MH->Prop,(∀i:MH->Prop,i mh->N ((a d).map c) i mh)->j (h d) mh N)->
  (∀d∈ds,∀e∈a d,∀N:DK,N (l (f d e)) mh->r (c e) (h d) λn=>w n mh N)->
  K (ys++(ds.flatMap λd=>(a d).map (f d)).map l) mh->qR b g lC j r lC w ρe St K (ds.map em) ys mh
 | [],ys,mh,hst,_,_,_,_,q=>⟨hst,by simpa using q⟩
 | d::ds,ys,mh,hst,hl,h1,h2,h3,q=>by
  simp only[List.flatMap_cons,List.length_append]at hl;refine⟨hst,?_⟩;simp only[L4,if_true];refine h1 d aGw _ ?_;refine h2 d aGw _ λi o=>?_;refine vF c (f d) l hb (a d) ys o (by lia) (λe he=>h3 d aGw e he) ?_;exact vQ em a c f l h hb ds _ hst (by rw[List.length_append,List.length_map,List.length_map];lia) (λe he=>h1 e (aGx _ he)) (λe he=>h2 e (aGx _ he)) (λe he=>h3 e (aGx _ he)) (by simpa using q)
theorem TV{b:Bool}{α m p:Type}{g r:WG}{i:WI}{w:WE}{ρe:d7}{St:MH->Prop}{K:List D->MH->Prop}(em:α->D)(a:α->List m)(h:m->D)(f:α->m->p)(l:p->D)(c:α->d7)(ds:List α)(hb:b=true->∀x,∃k,l x=aN k)(n:St mh)(s:(ds.flatMap a).length<=cmB b)
  (t:∀d∈ds,∀N:d7->Prop,N (c d)->g (em d) ρe N) (u:∀d∈ds,∀N:List D->(MH->Prop)->MH->Prop,(∀j:MH->Prop,j mh->N ((a d).map h) j mh)->i (c d) mh N)
  (v:∀d∈ds,∀e∈a d,∀N:DK,N (l (f d e)) mh->r (h e) (c d) λo=>w o mh N)
  (q:K ((ds.flatMap λd=>(a d).map (f d)).map l) mh):qR b g lC i r lC w ρe St K (ds.map em) [] mh:=
 vQ em a h f l c hb ds [] n (by simpa using s) t u v (by simpa using q)
end D3
namespace L2
open PySem PySem.Spec PyProof.Rows
open Builtin Builtin.Str
open AutoSeq1 (wpAny_loadPart')
end L2
namespace D3
open PySem PySem.Spec PyProof.Rows L2
end D3
namespace L2
open PySem PySem.Spec PyProof.Rows
end L2
namespace D3
open PySem PySem.Spec PyProof.Rows L2
end D3
namespace L2
open PySem PySem.Spec PyProof.Rows
section
variable {prog:Program}{w:World}{A:Around}{E:aL2}{s:Shared}
theorem BD{M:Model}{a:Addr}{Q:Option Obj->Shared->Prop}(h:Q (s.heap.get? a) s):wpAny M A (loadIfAlive a) Q E s:=λb p _=>by
 unfold loadIfAlive;rw[Sem.wp_loadIfAlive];exact(aGu (M:=M) (A:=A) (E:=E) h) b p ‹_›
def v5(T:Addr)(fl:Bool)(TI TO:Addr):Obj:={cls:= .type "zip",dict:=none,data:= .fields #[rawInt T,.bool fl,.bool false,.ref TI,.ref TO],slots:= #[]}
theorem wW{z TI TO T:Addr}{fl:Bool}{qs:List Src}{i k:Nat}{vals:List Value}{Q:aL2}(hh:A.handled=none)(D:dC z TI TO qs)(d:s.heap.get? z=some (v5 T fl TI TO))(hT:∃o,s.heap.get? T=some o)
  (I:∃n,s.heap.get? TI=some {cls:= .type "tuple",data:= .seq (qs.map λq=>Value.ref q.it).toArray n}) (hat:∀q∈qs,q.At s.heap i) (J:qs≠[]) (hv:vals.length=k) (hkl:k<=qs.length)
  (R:∀(j:Nat) q x,qs[j]? =some q->vals[j]? =some x->∃items,q.Sq s.heap items/\items[i]? =some x) (hsz:qs.length<=sizeLine)
  (B:k<qs.length->∃q items,qs[k]? =some q/\q.Sq s.heap items/\items[i]? =none)
  (hQ:k=qs.length->∀h',h'.get? z=some (v5 T true TI TO)->(∀q∈qs,q.At h' (i+1))->h'.get? s.heap.objs.size=some {cls:= .type "tuple",data:= .seq vals.toArray}->h'.objs.size=s.heap.objs.size+1->
   (∀c o,c≠z->(∀q∈qs,c≠q.it)->s.heap.get? c=some o->h'.get? c=some o)->Q (.ref s.heap.objs.size) {s with heap:=h'})
  (hE:k<qs.length->∀h' e,(∀c o,c≠z->(∀q∈qs,c≠q.it)->s.heap.get? c=some o->h'.get? c=some o)->(∃o,h'.get? e=some o/\o.cls= .type "StopIteration")->E (.ref e) {s with heap:=h'}):
  wpAny (model prog w) A (Builtin.«zip.__next__» ⟨[.ref z],[]⟩) (λfin P =>∃v,fin= .done (.ret v)/\Q v P) E s:=by
 obtain⟨nI,I⟩:=I;obtain⟨oT,hT⟩:=hT;refine aGs (m:=field (.ref z) 2) (aHz d rfl (x:= .bool false) rfl ?_);refine aGs (m:=field (.ref z) 3) (aHz d rfl (x:= .ref TI) rfl ?_);refine aGs (m:=seqItems? (.ref TI)) (aHx I rfl ?_)
 have S:(qs.map λq=>Value.ref q.it).toArray.isEmpty=false:=by cases qs with | nil=>exact absurd rfl J | cons a r=>rfl
 simp only[S];refine aGs (m:=Builtin.SmallTypes.ownedTupleIsFree (.ref z)) ?_;refine aIg (Q:=λb P =>b=false/\∃C,P ={s with heap:=C}/\C.get? z=some (v5 T true TI TO)/\Heap.SameBut z s.heap C) (E:=E) ?own (λb s1 hb=>?_) (λe P x=>x)
 case own=>
  unfold Builtin.SmallTypes.ownedTupleIsFree;refine aGs (m:=field (.ref z) 0) (aHz d rfl (x:=rawInt T) rfl ?_);show wpAny _ _ (loadIfAlive (Int.toNat (T:Int)) >>=_) _ _ _;refine aGs (BD ?_);rw[Int.toNat_natCast,hT];simp only[Option.isNone_some,Bool.false_eq_true,if_false];refine aGs (m:=field (.ref z) 1) (aHz d rfl (x:= .bool fl) rfl ?_)
  cases fl with
  | true=>exact aGu ⟨rfl,s.heap,rfl,d,Heap.SameBut.refl _ _⟩
  | false=>
   refine aGs (aHp (cls:= .type "zip") (vs:= #[rawInt T,.bool false,.bool false,.ref TI,.ref TO]) d (by simp) λC z1 u=>aGu ⟨rfl,C,rfl,z1,u⟩)
 obtain⟨rfl,C,rfl,z1,u⟩:=hb;simp only[Bool.false_eq_true,if_false];refine aGs ?_;refine wpAny_forIn_array' _ (λG b P =>b.1=none/\∃j h',P ={s with heap:=h'}/\G=(qs.map λq=>Value.ref q.it).drop j/\j<=k/\b.2.toList=vals.take j/\h'.get? z=some (v5 T true TI TO)/\h'.objs.size=s.heap.objs.size/\(∀q∈qs.take j,q.At h' (i+1))/\(∀q∈qs.drop j,q.At h' i)/\(∀c o,c≠z->(∀q∈qs,c≠q.it)->s.heap.get? c=some o->h'.get? c=some o)) _ ?turn ?fin _ _ ?start
 case start=>
  refine⟨rfl,0,C,rfl,by simp,aI8 _,by simp,z1,u.1,by simp,λq R=>?_,λc o K _ e=>u.extBut _ _ K e⟩;have U :q∈qs:=by simpa using R
  exact(hat q U).to λo e=>u.extBut _ _ (D.FP q U).1 e
 case turn=>
  rintro x G ⟨V,H⟩ s5 ⟨hb,j,h',rfl,hd,hj,f,hz,W,L,M,h⟩
  have l:j<qs.length:=by
   refine aKy λhle=>?_;rw[List.drop_eq_nil_of_le (by simpa using hle)]at hd;cases hd
  have X :=hd;rw[List.drop_eq_getElem_cons (by simpa using l)]at X;injection X with ex er;have Y:x=Value.ref qs[j].it:=by rw[ex];simp
  have t:qs[j]? =some qs[j]:=aH6 l;generalize hqq:qs[j]=q at t Y;subst Y;have F:q∈qs:=aH1 t;have hqz:=D.FP q F;obtain⟨l1,l2,l3⟩:=D.src q F;have Z:q.At h' i:=M q (by rw[List.drop_eq_getElem_cons l,hqq];exact aGw);refine aGs (aHo ?_);show wpAny _ _ (Builtin.SmallTypes.nextOf (.ref q.it) >>=_) _ _ _;by_cases hjk:j=k
  ·subst hjk;obtain⟨qk,itemsk,hqk,hSk,hik⟩:=B l;obtain rfl:qk=q:=(aHd (t.symm.trans hqk)).symm;have y :=hSk.to (h' :=h') λo e=>h _ o l1 l3 e;refine aGs (Src.done (s:={s with heap:=h'}) hh Z y hik λh2 e g he=>?_);exact hE l h2 e (λc o K N q' =>g _ _ (N _ F) (h c o K N q')) he
  ·have O:vals[j]? =some vals[j]:=aH6 (by lia);generalize hvv:vals[j]'(by lia)=v at O;obtain⟨items,hSq,hit⟩:=R j q v t O;have y :q.Sq h' items:=hSq.to λo e=>h _ o l1 l3 e;refine aGs (Src.item (s:={s with heap:=h'}) Z y hit λh2 at2 g=>aGu ?_);refine aGu ?_
   have apart:∀(k:Nat) p,qs[k]? =some p->k≠j->p.it≠q.it:=λk p B J e=>by
    have C:(qs.map (·.it))[k]? =some q.it:=by rw[List.getElem?_map,B];simp[e]
    have h2:(qs.map (·.it))[j]? =some q.it:=by rw[List.getElem?_map,t];rfl
    obtain⟨a1,V⟩:=aGt.mp C;obtain⟨a2,H⟩:=aGt.mp h2;refine J ?_;have pw:=aHw.mp D.nd;rcases aKu k j with hlt | heq | hlt
    ·exact absurd (V.trans H.symm) (pw k j a1 a2 hlt)
    ·exact heq
    ·exact absurd (H.trans V.symm) (pw j k a2 a1 hlt)
   refine⟨rfl,j+1,h2,rfl,er,by lia,?_,g.extBut _ _ (aHv hqz.1) hz,by rw[g.1];exact W,λp hp=>?_,λp hp=>?_,λc o K N e=>g.extBut _ _ (N q F) (h c o K N e)⟩
   ·have f:H.toList=vals.take j:=f;show (H.push v).toList=_;rw[Array.toList_push,f,List.take_add_one,O];rfl
   ·rw[List.take_add_one,t]at hp;rcases aGz.mp hp with z | z
    ·obtain⟨k,B⟩:=aIo z
     have hkj:k<j:=by
      have:=(aGt.mp B).1;rw[List.length_take]at this;lia
     rw[List.getElem?_take_of_lt hkj]at B;exact(L p z).to λo e=>g.extBut _ _ (apart k p B (by lia)) e
    ·have:p=q:=by simpa using z
     subst this;exact at2
   ·obtain⟨k,B⟩:=aIo hp;rw[List.getElem?_drop]at B;have hp' :p∈qs.drop j:=by rw[List.drop_eq_getElem_cons l];exact aGx _ hp
    exact(M p hp').to λo e=>g.extBut _ _ (apart _ p B (by lia)) e
 case fin=>
  rintro⟨V,H⟩ s5 ⟨hb,j,h',rfl,hd,hj,f,hz,W,L,M,h⟩
  have hje:j=qs.length:=by
   have:=aHu List.length hd;simp at this
   lia
  subst hje;have hkk:k=qs.length:=by lia
  have hb' :V=none:=hb;subst hb';have f:H.toList=vals.take qs.length:=f;rw[List.take_of_length_le (by lia)]at f;have z5:(h'.push {cls:= .type "tuple",data:= .seq vals.toArray}).get? z=some (v5 T true TI TO):=aGv _ hz;show wpAny _ _ (newTuple H.toList >>=_) _ _ _;rw[f];refine aGs (aJh ?_ (by simpa using (show vals.length<=sizeLine by lia)));refine aGu ⟨_,rfl,?_⟩;show Q (.ref h'.objs.size) _;rw[W];refine hQ hkk _ z5 (λq R=>(L q (by rw[List.take_of_length_le (Nat.le_refl _)];exact R)).to λo e=>aGv _ e) ?_ ?_ λc o K N e=>aGv _ (h c o K N e)
  ·rw[<-W];exact aH0 _ rfl
  ·rw[size_push',W]
end
section
variable {prog:Program}{w:World}{A:Around}{E:aL2}{s:Shared}
theorem EG:typeLookup (.type "zip") "__len__"=pure none:=by rw[typeLookup_type,builtinLookup_eq_fast];kernel_rfl
theorem BA:typeLookup (.type "zip") "__length_hint__"=pure none:=by rw[typeLookup_type,builtinLookup_eq_fast];kernel_rfl
structure ZC(h0 h:Heap)(z TI TO:Addr)(qs:List Src)(rows:List (List Value))(i:Nat)(vs:List Value):Prop where
 obj:h.get? z=some {cls:= .type "zip",dict:=none,data:= .fields #[.none,.bool false,.bool false,.ref TI,.ref TO],slots:= #[]}\/∃T fl o,h.get? z=some (v5 T fl TI TO)/\h.get? T=some o/\o.cls= .type "tuple"
 aH:∃n,h.get? TI=some {cls:= .type "tuple",data:= .seq (qs.map λq=>Value.ref q.it).toArray n}
 own:∃(xs:List Value) (n:Nat),xs.length=qs.length/\h.get? TO=some {cls:= .type "tuple",data:= .seq xs.toArray n}
 at_:∀q∈qs,q.At h i
 len:vs.length=i
 tup:∀(j:Nat) v r,vs[j]? =some v->rows[j]? =some r->∃a,v= .ref a/\h.get? a=some {cls:= .type "tuple",data:= .seq r.toArray}/\h0.objs.size<=a/\a≠z/\a≠TO/\∀q∈qs,a≠q.it
 nd:vs.Nodup
 keep:∀c o,c≠z->c≠TO->(∀q∈qs,c≠q.it)->h0.get? c=some o->h.get? c=some o
variable{h0:Heap}{qs:List Src}{rows:List (List Value)}{vs:List Value}
theorem ZC.type{z TI TO:Addr}{i:Nat}(Z:ZC h0 s.heap z TI TO qs rows i vs):s.TypeIs (.ref z) "zip":=by
 rcases Z.obj with e | ⟨T,fl,o,e,_⟩ <;> exact⟨_,e,rfl⟩
theorem ZC.other{h0 h h' :Heap}{z TI TO S:Addr}{i:Nat}(Z:ZC h0 h z TI TO qs rows i vs)(b:S≠z/\S≠TI/\S≠TO/\(∀q∈qs,S≠q.it))(m:∀o,h.get? S=some o->o.cls= .type "list")(s:h0.get? S=none)
  (k:∀c o,c≠S->h.get? c=some o->h'.get? c=some o):ZC h0 h' z TI TO qs rows i vs where
 obj:=by
  rcases Z.obj with e | ⟨T,fl,o,g,d,f⟩
  ·exact .inl (k _ _ (aHv b.1) e)
  ·refine .inr ⟨T,fl,o,k _ _ (aHv b.1) g,k _ _ (λx=>?_) d,f⟩;subst x;have:=m _ d;rw[f]at this;simp at this
 aH:=let ⟨n,e⟩:=Z.aH;⟨n,k _ _ (aHv b.2.1) e⟩
 own:=let ⟨xs,n,l,e⟩:=Z.own;⟨xs,n,l,k _ _ (aHv b.2.2.1) e⟩
 at_:=λq p=>(Z.at_ q p).to λo e=>k _ _ (aHv (b.2.2.2 q p)) e
 len:=Z.len
 tup:=λj v r t u=>by
  obtain⟨a,g,d,f⟩:=Z.tup j v r t u;refine⟨a,g,k _ _ (λe=>?_) d,f⟩;subst e;have:=m _ d;simp at this
 nd:=Z.nd
 keep:=λc o w y A e=>k _ _ (λx=>by subst x;rw[s]at e;cases e) (Z.keep c o w y A e)
structure ZR(h0:Heap)(qs:List Src)(rows:List (List Value)):Prop where
 row:∀(i:Nat) r,rows[i]? =some r->r.length=qs.length/\∀(j:Nat) q x,qs[j]? =some q->r[j]? =some x->∃items,q.Sq h0 items/\items[i]? =some x
 fin:∃(k:Nat) (vals:List Value),vals.length=k/\k<qs.length/\(∀(j:Nat) q x,qs[j]? =some q->vals[j]? =some x->∃items,q.Sq h0 items/\items[rows.length]? =some x)/\∃q items,qs[k]? =some q/\q.Sq h0 items/\items[rows.length]? =none
variable{Q:Option Value->Shared->Prop}
theorem QI{z TI TO:Addr}{i:Nat}(W:A.handled=none)(D:dC z TI TO qs)(hsz:qs.length<=sizeLine)(y:qs≠[])(X:ZR h0 qs rows)(Z:ZC h0 s.heap z TI TO qs rows i vs)(hi:i<rows.length)
  (I:h0.objs.size<=s.heap.objs.size)
  (Y:∀h' v,ZC h0 h' z TI TO qs rows (i+1) (vs++[v])->s.heap.objs.size<=h'.objs.size->(∀c o,c≠z->c≠TO->(∀q∈qs,c≠q.it)->s.heap.get? c=some o->h'.get? c=some o)->Q (some v) {s with heap:=h'}):
  wpAny (model prog w) A (pyNext (.ref z)) Q E s:=by
 have p:rows[i]? =some rows[i]:=aH6 hi;generalize rows[i]=r at p;obtain⟨O,hr⟩:=X.row i r p
 have f:∀(j:Nat) q x,qs[j]? =some q->r[j]? =some x->∃items,q.Sq s.heap items/\items[i]? =some x:=λj q x b g=>by
  obtain⟨items,m,d⟩:=hr j q x b g;obtain⟨l1,l2,l3⟩:=D.src q (aH1 b);exact⟨items,m.to λo e=>Z.keep _ o l1 l2 l3 e,d⟩
 have lt:∀a o,s.heap.get? a=some o->a≠s.heap.objs.size:=λa o e=>aHc (aH4 e)
 have J:s.heap.objs.size≠z:=by
  rcases Z.obj with e | ⟨_,_,_,e,_⟩ <;> exact aHv (lt _ _ e)
 have one:s.heap.objs.size≠TO:=by obtain⟨_,_,_,e⟩:=Z.own;exact aHv (lt _ _ e)
 have K:∀q∈qs,s.heap.objs.size≠q.it:=λq f=>by obtain⟨o,e,_⟩:=(Z.at_ q f).obj;exact aHv (lt _ _ e)
 have fin:∀h',(h'.get? z=some (v5 s.heap.objs.size false TI TO)\/∃T fl o,h'.get? z=some (v5 T fl TI TO)/\h'.get? T=some o/\o.cls= .type "tuple")->(∃(xs:List Value) (n:Nat),xs.length=qs.length/\h'.get? TO=some {cls:= .type "tuple",data:= .seq xs.toArray n})->(∀q∈qs,q.At h' (i+1))->
   h'.get? s.heap.objs.size=some {cls:= .type "tuple",data:= .seq r.toArray}->h'.objs.size=s.heap.objs.size+1->(∀c o,c≠z->c≠TO->(∀q∈qs,c≠q.it)->s.heap.get? c=some o->h'.get? c=some o)->Q (some (.ref s.heap.objs.size)) {s with heap:=h'}:=λh' o1 o2 o3 P o5 C=>by
  refine Y h' _ ⟨?_,?_,o2,o3,by simp[Z.len],λj v r' b g=>?_,?_,λc o F L G e=>C c o F L G (Z.keep c o F L G e)⟩ (by lia) C
  ·exact o1.elim (λe=>.inr ⟨_,_,_,e,P,rfl⟩) .inr
  ·obtain⟨n,e⟩:=Z.aH;exact⟨n,C _ _ D.ne1 D.ne3 (λq f=>aHv (D.FP q f).2.1) e⟩
  ·by_cases H:j<vs.length
   ·rw[List.getElem?_append_left H]at b;obtain⟨a,m,d,B,R,S,U⟩:=Z.tup j v r' b g;exact⟨a,m,C _ _ R S U d,B,R,S,U⟩
   ·have u:=(aGt.mp b).1;simp at u;have ej:j=vs.length:=by lia
    subst ej;simp at b;rw[Z.len,p]at g;cases g;exact⟨_,b.symm,P,I,J,one,K⟩
  ·rw[List.nodup_append];refine⟨Z.nd,by simp,λv hv w hw=>?_⟩;obtain⟨j,H⟩:=aHa.mp hv;have u:j<rows.length:=by have:=(aGt.mp H).1;rw[Z.len]at this;lia
   obtain⟨a,m,d,_⟩:=Z.tup j v _ H (aH6 u);rw[List.mem_singleton.mp hw,m];intro x;injection x with x;exact lt _ _ d x
 rcases Z.obj with e | ⟨T,fl,o,m,d,B⟩
 ·refine nN D ⟨e,Z.aH,Z.own,Z.at_⟩ y O f hsz λh' M t1 z1 k1=>fin h' (.inl M.obj) M.own M.at_ t1 z1 k1
 ·have V:s.TypeIs (.ref z) "zip":=Z.type;unfold pyNext
  refine aGs (aIf (aHj (name:=Str.ofString "__next__") V aI6 (aHe aI6 V aKa
   (wW (k:=qs.length) W D m ⟨_,d⟩ Z.aH Z.at_ y O (aGy _) f hsz (λh=>absurd h (aIe _)) (λ_ h' a1 a2 a3 a4 N=>?_) λh=>absurd h (aIe _)) (aK0 _))))
  have T1:T≠z:=λx=>by subst x;rw[m]at d;cases d;simp[v5]at B
  have T2:∀q∈qs,T≠q.it:=λq f x=>by
   subst x;have:=Z.at_ q f;obtain⟨it,l,t⟩:=q;cases t <;> (obtain⟨o',b,g,_⟩:=this;rw[d]at b;cases b;rw[B]at g;simp at g)
  refine aGu (fin h' (.inr ⟨T,true,o,a1,N _ _ T1 T2 d,B⟩) ?_ a2 a3 a4 λc o F L G e=>N c o F G e);obtain⟨xs,n,l,e⟩:=Z.own;exact⟨xs,n,l,N _ _ D.ne2 (λq f=>aHv (D.FP q f).2.2) e⟩
theorem QJ{z TI TO:Addr}(r:A.handled=none)(D:dC z TI TO qs)(hsz:qs.length<=sizeLine)(p:qs≠[])(C:ZR h0 qs rows)(Z:ZC h0 s.heap z TI TO qs rows rows.length vs)
  (t:∀h',(∀c o,c≠z->c≠TO->(∀q∈qs,c≠q.it)->s.heap.get? c=some o->h'.get? c=some o)->Q none {s with heap:=h'}):
  wpAny (model prog w) A (pyNext (.ref z)) Q E s:=by
 obtain⟨k,vals,F,u,G,v,a,d,g,i⟩:=C.fin
 have to:∀q items,q∈qs->q.Sq h0 items->q.Sq s.heap items:=λq items H f=>by
  obtain⟨I,J,K⟩:=D.src q H;exact f.to λo e=>Z.keep _ o I J K e
 have l:∀(j:Nat) q x,qs[j]? =some q->vals[j]? =some x->∃items,q.Sq s.heap items/\items[rows.length]? =some x:=λj q x n y=>by
  obtain⟨items,f,m⟩:=G j q x n y;exact⟨items,to q items (aH1 n) f,m⟩
 rcases Z.obj with e | ⟨T,fl,o,f,m,P⟩
 ·refine pL (k:=k) r D ⟨e,Z.aH,Z.own,Z.at_⟩ (λj q n y=>?_) ⟨v,a,d,to _ _ (aH1 d) g,i⟩ hsz t
  obtain⟨x,L⟩:∃x,vals[j]? =some x:=⟨_,aH6 (by lia)⟩
  obtain⟨items,f,m⟩:=l j q x n L;exact⟨items,x,f,m⟩
 ·have B:s.TypeIs (.ref z) "zip":=Z.type;unfold pyNext
  refine aGs (aIf (aHj (name:=Str.ofString "__next__") B aI6 (aHe aI6 B aKa
   (wW (k:=k) r D f ⟨_,m⟩ Z.aH Z.at_ p F (aIz u) l hsz (λ_=>⟨v,a,d,to _ _ (aH1 d) g,i⟩) (λh=>absurd u (by lia)) λ_ h' e kp he=>?_) (aK0 _))))
  obtain⟨o,ho,M⟩:=he;refine aGs (aJl (T:= "StopIteration") (b:=true) ⟨o,ho,M⟩ isSubtype_stop ?_);exact aGu (t _ λc o N _ O e=>kp c o N O e)
end
structure ZF(h0 h:Heap)(z TO:Addr)(qs:List Src)(rows:List (List Value))(vs:List Value):Prop where
 len:vs.length=rows.length
 nd:vs.Nodup
 tup:∀(j:Nat) v r,vs[j]? =some v->rows[j]? =some r->∃a,v= .ref a/\h.get? a=some {cls:= .type "tuple",data:= .seq r.toArray}/\h0.objs.size<=a
 keep:∀c o,c≠z->c≠TO->(∀q∈qs,c≠q.it)->h0.get? c=some o->h.get? c=some o
section
variable {prog:Program}{w:World}{A:Around}{R:Result->Shared->Prop}{h0:Heap}{z TI TO S:Addr}{qs:List Src}{rows:List (List Value)}
theorem EH(H:A.handled=none)(D:dC z TI TO qs)(hsz:qs.length<=sizeLine)(n:qs≠[])(I:ZR h0 qs rows)(X:rows.length<=sizeLine)(g:S≠z/\S≠TI/\S≠TO/\(∀q∈qs,S≠q.it))(u:h0.get? S=none)(res:Value):
  ∀(k i:Nat) (s:Shared) (b:Array Value) (c:Nat),rows.length-i=k->i<=rows.length->ZC h0 s.heap z TI TO qs rows i b.toList->h0.objs.size<=s.heap.objs.size->s.heap.get? S=some {cls:= .type "list",dict:=none,data:= .seq b c,slots:= #[]}->
  (∀h' d x,ZF h0 h' z TO qs rows d.toList->h'.get? S=some {cls:= .type "list",dict:=none,data:= .seq d x,slots:= #[]}->R (.ok (.ret res)) {s with heap:=h'})->
  codeAny (model prog w) A (.builtin "list.extend.loop" ⟨[.ref S,.ref z,res],[]⟩) R s:=by
 intro k
 induction k with
 | zero=>
  intro i s b c L hi Z h l y;have B:i=rows.length:=by lia
  subst B;refine aI3 F.entry_extend_loop ?_;rw[Around.under_plainId F.plain_extend_loop _];show wpAny _ A.in1 (pyNext (.ref z) >>=_) _ _ s;refine aGs (QJ H D hsz n I Z λh' kp=>?_);refine aGu (y h' b c ⟨Z.len,Z.nd,λj v r M N=>?_,λc o t J K e=>kp c o t J K (Z.keep c o t J K e)⟩ (kp _ _ g.1 g.2.2.1 g.2.2.2 l));obtain⟨a,O,P,Q,T,U,V⟩:=Z.tup j v r M N;exact⟨a,O,kp _ _ T U V P,Q⟩
 | succ k ih=>
  intro i s b c L hi Z h l y;have f:i<rows.length:=by lia
  refine aI3 F.entry_extend_loop ?_;rw[Around.under_plainId F.plain_extend_loop _];show wpAny _ A.in1 (pyNext (.ref z) >>=_) _ _ s;refine aGs (QI H D hsz n I Z f h λh' v W C kp=>?_);have m :=kp _ _ g.1 g.2.2.1 g.2.2.2 l;show wpAny _ A.in1 (updateSeq S (·.push v) >>=_) _ _ _;refine aGs ?_;have hz:b.size=i:=by rw[<-Z.len];simp
  refine aI5 m rfl (aGu ⟨aIn aKl _,ih (i+1) _ (b.push v) _ (by lia) f ?_ ?_ (aHs _ m rfl) λE d x G p =>y E d x G p⟩)
   (by rw[hz];lia) (by show (b.push v).size<=sizeLine+1;rw[Array.size_push,hz];lia)
  ·rw[Array.toList_push];exact W.other g (λo e=>by rw[m]at e;cases e;rfl) u λc o t e=>(aHq _ _ (aHv t)).trans e
  ·show _<=(Heap.update _ _ _).objs.size;rw[Heap.size_update];exact aHm h C
end
section
variable {prog:Program}{w:World}{A:Around}{E:aL2}{s:Shared}{z TI TO:Addr}{qs:List Src}{rows:List (List Value)}
theorem K9{h0 h:Heap}{z TI TO:Addr}{qs:List Src}{rows:List (List Value)}{i:Nat}{vs:List Value}(Z:ZC h0 h z TI TO qs rows i vs):h.objs.size≠z/\h.objs.size≠TI/\h.objs.size≠TO/\(∀q∈qs,h.objs.size≠q.it):=by
 have lt:∀a o,h.get? a=some o->h.objs.size≠a:=λa o e=>aJj (aH4 e);refine⟨?_,?_,?_,λq b=>?_⟩
 ·rcases Z.obj with e | ⟨_,_,_,e,_⟩ <;> exact lt _ _ e
 ·obtain⟨_,e⟩:=Z.aH;exact lt _ _ e
 ·obtain⟨_,_,_,e⟩:=Z.own;exact lt _ _ e
 ·obtain⟨o,e,_⟩:=(Z.at_ q b).obj;exact lt _ _ e
theorem ZC.start{h:Heap}(Z:fG h z TI TO qs .none 0):ZC h h z TI TO qs rows 0 []:=⟨.inl Z.obj,Z.aH,Z.own,Z.at_,rfl,λj v r a=>by simp at a,List.nodup_nil,λc o _ _ _ e=>e⟩
theorem A9{R:Result->Shared->Prop}(x:A.handled=none)(D:dC z TI TO qs)(hsz:qs.length<=sizeLine)(p:qs≠[]){h0:Heap}(y:ZR h0 qs rows)(B:rows.length<=sizeLine)(Z:ZC h0 s.heap z TI TO qs rows 0 [])(l:h0.objs.size<=s.heap.objs.size){S:Addr}(r:S≠z/\S≠TI/\S≠TO/\(∀q∈qs,S≠q.it))(m:h0.get? S=none)(res:Value){i:Nat}
  (g:s.heap.get? S=some {cls:= .type "list",data:= .seq #[] i})
  (C:∀h' a k,ZF h0 h' z TO qs rows a.toList->h'.get? S=some {cls:= .type "list",dict:=none,data:= .seq a k,slots:= #[]}->R (.ok (.ret res)) {s with heap:=h'}):
  wpAny (model prog w) A.in1 (Builtin.List.listExtendWith (.ref S) (.ref z) res)
   (λfin n =>match fin with | .done f=>R (.ok f) n | .again k =>k.quiet=true/\codeAny (model prog w) A k R n) (λe n =>R (.error e) n) s:=by
 unfold Builtin.List.listExtendWith;refine aGs (aIq Z.type ?_);have G:Builtin.List.listSameRef (.ref S) (.ref z)=false:=by simp[Builtin.List.listSameRef,r.1]
 have H:(Value.type "zip"==Value.type "list")=false:=by decide
 have I:(Value.type "zip"==Value.type "tuple")=false:=by decide
 simp only[G,H,I,Bool.or_false,Bool.false_eq_true,if_false]
 have J:s.heap.get? z=some {cls:= .type "zip",dict:=none,data:= .fields #[.none,.bool false,.bool false,.ref TI,.ref TO],slots:= #[]}\/∃T fl,s.heap.get? z=some (v5 T fl TI TO):=by
  rcases Z.obj with e | ⟨T,fl,_,e,_⟩
  ·exact .inl e
  ·exact .inr ⟨T,fl,e⟩
 have t:∀(Q:aL2) (E:aL2),Q (.ref z) s->wpAny (model prog w) A.in1 (pyIter (.ref z)) Q E s:=λQ E q=>by
  refine aJc Z.type aKh (aHe aKh Z.type F.entry_zip_iter ?_ (F.args_zip_iter_1 _));exact aGu ⟨_,rfl,"zip",_,Z.type,aI6.lookup,q⟩
 refine aGs (t _ _ ?_);refine aGs (aHo ?_);unfold Builtin.List.listLengthHint;refine aGs (aKf Z.type EG ?_);show wpAny _ A.in1 (specialOf (Value.ref z) (Str.ofString "__length_hint__") >>=_) _ _ _;refine aGs (aKf Z.type BA ?_);refine aGu ?_
 have key:∀(h:Heap) (b:Nat),ZC h0 h z TI TO qs rows 0 []->h0.objs.size<=h.objs.size->h.get? S=some {cls:= .type "list",data:= .seq #[] b}->codeAny (model prog w) A (.builtin "list.extend.loop" ⟨[.ref S,.ref z,res],[]⟩) R {s with heap:=h}:=λh b K L u=>
  EH x D hsz p y B r m res rows.length 0 {s with heap:=h} #[] b rfl (aI8 _) K L u λh' a k M N=>C h' a k M N
 refine aKg (λ_=>?_) (λ_=>aGu ⟨aIn aKl _,key _ i Z l g⟩);refine aGs (aI2 ?_);refine aGs ?_;show wpAny _ A.in1 (updateSeq S (·.push .none) >>=λ_=>updateSeq S (·.pop)) _ _ _;refine aGs (aI5 g rfl ?_);have d:=aHs (Obj.mapSeq (·.push Value.none)) g rfl;refine aI5 (hz:=by seq_fits) d rfl ?_;have j:=aHs (Obj.mapSeq (·.pop)) d rfl;refine aGu ⟨aIn aKl _,key _ _ ?_ ?_ j⟩
 ·refine Z.other r (λo e=>by rw[g]at e;cases e;rfl) m λc o v e=>?_;exact(aHq _ _ (aHv v)).trans ((aHq _ _ (aHv v)).trans e)
 ·rw[Heap.size_update,Heap.size_update];exact l
theorem ZC.push{h0 h:Heap}{i:Nat}{vs:List Value}(Z:ZC h0 h z TI TO qs rows i vs)(o:Obj):ZC h0 (h.push o) z TI TO qs rows i vs:=by
 have up:∀c o',h.get? c=some o' ->(h.push o).get? c=some o' :=λc o' e=>aGv _ e;refine⟨?_,?_,?_,λq g=>(Z.at_ q g).to λo' e=>up _ _ e,Z.len,λj v r k m=>?_,Z.nd,λc o' p s t e=>up _ _ (Z.keep c o' p s t e)⟩
 ·rcases Z.obj with e | ⟨T,fl,o',b,d,f⟩
  ·exact .inl (up _ _ e)
  ·exact .inr ⟨T,fl,o',up _ _ b,up _ _ d,f⟩
 ·obtain⟨n,e⟩:=Z.aH;exact⟨n,up _ _ e⟩
 ·obtain⟨xs,n,l,e⟩:=Z.own;exact⟨xs,n,l,up _ _ e⟩
 ·obtain⟨a,b,d,f⟩:=Z.tup j v r k m;exact⟨a,b,up _ _ d,f⟩
theorem BB{Q:List Value->Shared->Prop}(n:A.handled=none)(D:dC z TI TO qs)(hsz:qs.length<=sizeLine)(h:qs≠[])(p:fG s.heap z TI TO qs .none 0)(r:ZR s.heap qs rows)(t:rows.length<=sizeLine)
  (k:∀h' vs,ZF s.heap h' z TO qs rows vs->s.heap.objs.size<h'.objs.size->Q vs {s with heap:=h'}):wpAny (model prog w) A (collect (.ref z)) Q E s:=by
 have Z:ZC s.heap s.heap z TI TO qs rows 0 []:=ZC.start p;unfold collect;refine aGs (wpAny_runValue (aI3 F.entry_proto_collect ?_));rw[Around.under_plainId F.plain_proto_collect _];show wpAny _ A.in1 (newList [] >>=λl=>again (.builtin "list.__iadd__" ⟨[l,.ref z],[]⟩)) _ _ s;refine aGs (aHk ?_);refine aGu ⟨aIn F.plain_list_iadd _,aI3 F.entry_list_iadd ?_⟩;rw[Around.under_plainId F.plain_list_iadd _];have c:(s.heap.push {cls:= .type "list",data:= .seq ([]:List Value).toArray}).get? s.heap.objs.size=some {cls:= .type "list",data:= .seq #[]}:=aH0 _ rfl
 have i:s.heap.get? s.heap.objs.size=none:=by
  cases e:s.heap.get? s.heap.objs.size with
  | none=>rfl
  | some o=>exact absurd (aH4 e) (aIe _)
 show wpAny _ A.in1 (Builtin.List.listExtendWith (.ref s.heap.objs.size) (.ref z) (.ref s.heap.objs.size)) _ _ _
 have key:=A9 (prog:=prog) (w:=w) (A:=A) (s:={s with heap:=s.heap.push {cls:= .type "list",data:= .seq ([]:List Value).toArray}})
  (R:=λ(q:Result) (j :Shared)=>∃(h' :Heap) (a :Array Value) (d :Nat),q= .ok (.ret (.ref s.heap.objs.size))/\j ={s with heap:=h'}/\ZF s.heap h' z TO qs rows a.toList/\h'.get? s.heap.objs.size=some {cls:= .type "list",dict:=none,data:= .seq a d,slots:= #[]})
  n D hsz h r t (Z.push _) (by rw[size_push'];lia) (K9 Z) i (.ref s.heap.objs.size) c (λh' a d g u=>⟨h',a,d,rfl,rfl,g,u⟩)
 refine aIg key (λfin j x=>?_) λe j x=>?_
 ·cases fin with
  | done f=>
   obtain⟨h',a,d,e,rfl,g,b⟩:=x;cases e;show wpAny _ A (load s.heap.objs.size >>=_) _ _ _;refine aGs (aKn b ?_);exact aGu (k h' _ g (aH4 b))
  | again c₁=>
   refine⟨x.1,aJk x.2 λq m y=>?_⟩;obtain⟨h',a,d,rfl,rfl,g,b⟩:=y;show wpAny _ A (load s.heap.objs.size >>=_) _ _ _;refine aGs (aKn b ?_);exact aGu (k h' _ g (aH4 b))
 ·obtain⟨_,_,_,v,_⟩:=x;cases v
theorem vR{Q₁:aL2}(j:A.handled=none)(D:dC z TI TO qs)(hsz:qs.length<=sizeLine)(a:qs≠[])(e:fG s.heap z TI TO qs .none 0)(k:ZR s.heap qs rows)(f:rows.length<=sizeLine)
  (h:∀h' vs,ZF s.heap h' z TO qs rows vs->s.heap.objs.size<h'.objs.size->Q₁ (.ref h'.objs.size) {s with heap:=h'.push {cls:= .type "tuple",data:= .seq vs.toArray}}):
  codeAny (model prog w) A (.call (.builtin "tuple.__new__") ⟨[.type "tuple",.ref z],[]⟩) (wants Q₁ E) s:=by
 refine aKe ?_;show wpAny _ A.in1 (do checkBuiltinCall "tuple.__new__" ⟨[.type "tuple",.ref z],[]⟩;again (.builtin "tuple.__new__" ⟨[.type "tuple",.ref z],[]⟩)) _ _ s;refine aGs (aJw (F.newCall_tuple_1 _) (aGu ⟨aIn F.plain_tuple_new _,aI3 F.entry_tuple_new ?_⟩));rw[Around.under_plainId F.plain_tuple_new _];have g:=sub_tuple_self;have b:=init_tuple_lookup;have l:=madeHere_tuple
 have c:s.TypeIs (.ref z) "zip":=⟨_,e.obj,rfl⟩
 wp_walk using aIq c,BB (A:=A.in1) j D hsz a e k f
 intro h' vs i d;show wpAny _ _ (Builtin.Tuple.tupleExact vs.toArray >>=λv=>ret v) _ _ _;unfold Builtin.Tuple.tupleExact;refine aGs (aHk ?_ (by show vs.toArray.size<=sizeLine;simp only[List.size_toArray];rw[i.len];exact f));refine aGu ?_;exact h h' vs i d
theorem vS{Q:aL2}(e:A.handled=none)(D:dC z TI TO qs)(hsz:qs.length<=sizeLine)(c:qs≠[])(f:fG s.heap z TI TO qs .none 0)(g:ZR s.heap qs rows)(h:rows.length<=sizeLine)
  (i:∀h' vs,ZF s.heap h' z TO qs rows vs->s.heap.objs.size<h'.objs.size->Q (.ref h'.objs.size) {s with heap:=h'.push {cls:= .type "tuple",data:= .seq vs.toArray}}):
  wpAny (model prog w) A (call (.type "tuple") [.ref z]) Q E s:=by
 refine callType_codes (Q₁:=λobj a=>a.TypeIs obj "tuple"/\Q obj a) F.called_tuple (F.typeCall_tuple_1 _) F.entry_object_init
  (vR e D hsz c f g h λh' vs j d=>⟨⟨_,aH0 _ rfl,rfl⟩,i h' vs j d⟩) λobj a b=>?_
 exact⟨b.1,F.args_object_init_2 obj _,object_init_meets F.called_tuple.init.lookup F.called_tuple.made (by decide) prog w A.in1 _ a ⟨b.1,rfl,b.2⟩⟩
theorem wL{Q:aL2}(j:A.handled=none)(D:dC z TI TO qs)(hsz:qs.length<=sizeLine)(i:qs≠[])(k:fG s.heap z TI TO qs .none 0)(l:ZR s.heap qs rows)(m:rows.length<=sizeLine)
  (n:∀h' vs c,ZF s.heap h' z TO qs rows vs->h'.get? s.heap.objs.size=some {cls:= .type "list",dict:=none,data:= .seq vs.toArray c,slots:= #[]}->Q (.ref s.heap.objs.size) {s with heap:=h'}):
  wpAny (model prog w) A (call (.type "list") [.ref z]) Q E s:=by
 have Z:ZC s.heap s.heap z TI TO qs rows 0 []:=ZC.start k
 refine callType_codes (Q₁:=λobj a=>obj= .ref s.heap.objs.size/\a={s with heap:=s.heap.push {cls:= .type "list",data:= .seq #[]}}) PySem.F.called_list (PySem.F.typeCall_list_1 _) PySem.F.entry_list_init
  (code_list_new _ ⟨rfl,rfl⟩) λobj a d=>?_
 obtain⟨rfl,rfl⟩:=d;have f:(s.heap.push {cls:= .type "list",data:= .seq #[]}).get? s.heap.objs.size=some {cls:= .type "list",data:= .seq #[]}:=aH0 _ rfl
 have g:s.heap.get? s.heap.objs.size=none:=by
  cases e:s.heap.get? s.heap.objs.size with
  | none=>rfl
  | some o=>exact absurd (aH4 e) (aIe _)
 refine⟨⟨_,f,rfl⟩,PySem.F.args_list_init_2 _ _,?_⟩;show wpAny _ _ (do let old<-Builtin.List.listItems (.ref s.heap.objs.size);Builtin.List.listUpdate (.ref s.heap.objs.size) (λ_=>#[]);letGo old.toList.reverse;Builtin.List.listExtendWith (.ref s.heap.objs.size) (.ref z) .none) _ _ _;refine aGs ?_;unfold Builtin.List.listItems;refine aGs (aHx f rfl (aGu ?_));show wpAny _ _ (updateSeq s.heap.objs.size (λ_=>#[]) >>=λ_=>letGo (#[]:Array Value).toList.reverse >>=λ_=>Builtin.List.listExtendWith (.ref s.heap.objs.size) (.ref z) .none) _ _ _;refine aGs (aI5 f rfl ?_);have b:=aHs (Obj.mapSeq (λ_=>(#[]:Array Value))) f rfl;refine aGs (wpAny_letGo ?_);refine A9 (A:=A.in1) j D hsz i l m ((Z.push _).other (K9 Z) (λo e=>by rw[f]at e;cases e;rfl) g λc o p e=>(aHq _ _ (aHv p)).trans e) ?_ (K9 Z) g .none b λh' h q r t=>?_
 ·rw[Heap.size_update,size_push'];lia
 ·exact⟨rfl,n h' h.toList q r (by simpa using t)⟩
end
section
variable {X:Cx}{pins:List (Addr×Obj)}{σ:St}{H H' :Hp}{s:Shared}
theorem Inv.ZJ{fp:List Addr}{h' :Heap}{t' :Nat}(I:Inv X pins σ H s)(d:∀b∈fp,oH X pins H b)(k:∀b o,b∉fp->s.heap.get? b=some o->h'.get? b=some o)
  (a:∀b,b<s.heap.objs.size->H' b=H b) (new:∀b o,s.heap.objs.size<=b->H' b=some o->cH X.prog X.w H' h' b o):Inv X pins σ H' {s with heap:=h',toks:=t'}:=by
 have f:∀b u,H b=some u->b∉fp:=λb u e z=>by rw[(d b z).1]at e;cases e
 have up:∀b u,H b=some u->H' b=some u:=λb u e=>by rw[a b (I.bO b u e).lt];exact e
 refine I.step (g' :=s.gens) (d' :=s.drawn) (ch:=fp) (λb hb=>⟨(d b hb).2.2.2.1,(d b hb).2.1,(d b hb).2.2.2.2.1,(d b hb).2.2.2.2.2⟩) (λb o _ _ hc e _=>k b o hc e) (λb o _ _ hc e _=>⟨o.slots,k b o hc e⟩)
  (λb o _ e n=>by rw[a b (Heap.lt_size e)];exact n) (λb o hc e=>⟨o,k b o hc e⟩) (λb xs e=>up _ _ e) (λb o u e=>up _ _ e)
  (λb ps e=>⟨#[],by rw[up _ _ e];simp⟩) (λm g=>?_) (λb u e=>?_) I.bare
 ·obtain⟨o,h,ep,ho,r⟩:=g;exact⟨o,h,ep,k _ o (λz=>(d _ z).2.1 rfl) ho,r⟩
 ·by_cases hb:b<s.heap.objs.size
  ·rw[a b hb]at e;refine(I.bO b u e).qI (λc v hc q=>k c v ?_ q) (λc q=>up _ _ q) λc xs q=>up _ _ q;rcases hc with rfl | hc
   ·exact f _ u e
   ·exact f _ _ hc
  ·exact new b u (aJ2 hb) e
end
structure P0{α:Type}(cols rows:List (List α)):Prop where
 row:∀(i:Nat) r,rows[i]? =some r->r.length=cols.length/\∀(j:Nat) xs x,cols[j]? =some xs->r[j]? =some x->xs[i]? =some x
 fin:∃(k:Nat) (vals:List α) (xs:List α),vals.length=k/\cols[k]? =some xs/\xs[rows.length]? =none/\∀(j:Nat) ys x,cols[j]? =some ys->vals[j]? =some x->ys[rows.length]? =some x
open Classical in
noncomputable def qF(H:Hp):List Addr->List (List V)->Hp
 | a::as,r::rs=>upd (qF H as rs) a (.tup r)
 | _,_=>H
theorem iO{H:Hp}:∀{as:List Addr} {rs:List (List V)} {b:Addr},b∉as->qF H as rs b=H b
 | [],rs,b,_=>by cases rs <;> rfl
 | a::as,[],b,_=>rfl
 | a::as,r::rs,b,h=>by
  simp only[List.mem_cons,not_or]at h;show upd (qF H as rs) a (.tup r) b=H b;rw[aL h.1];exact iO h.2
theorem yW{H:Hp}:∀{as:List Addr} {rs:List (List V)} {j:Nat} {a:Addr} {r:List V},as.Nodup->as[j]? =some a->rs[j]? =some r->qF H as rs a=some (.tup r)
 | [],rs,j,a,r,_,h,_=>by simp at h
 | a' ::as,[],j,a,r,_,_,h=>by simp at h
 | a' ::as,r' ::rs,0,a,r,_,h1,h2=>by
  simp at h1 h2;subst h1 h2;show upd _ _ _ _=_;rw[bC]
 | a' ::as,r' ::rs,j+1,a,r,nd,h1,h2=>by
  simp at h1 h2;have b:a≠a' :=λz=>(aIi.mp nd).1 (z▸aH1 h1);show upd _ _ _ _=_;rw[aL b];exact yW (aIi.mp nd).2 h1 h2
theorem K8{H:Hp}:∀{as:List Addr} {rs:List (List V)} {b:Addr} {o:HO},as.Nodup->b∈as->(∀a∈as,H a=none)->qF H as rs b=some o->∃(j:Nat) (r:List V),as[j]? =some b/\rs[j]? =some r/\o= .tup r
 | as,rs,b,o,nd,hb,hn,e=>by
  obtain⟨j,c⟩:=aHa.mp hb
  cases hr:rs[j]? with
  | some r=>rw[yW nd c hr]at e;cases e;exact⟨j,r,c,hr,rfl⟩
  | none=>
   exfalso
   have go:∀{as:List Addr} {rs:List (List V)} {j:Nat},as.Nodup->as[j]? =some b->rs[j]? =none->qF H as rs b=H b:=by
    intro as
    induction as with
    | nil=>intro rs j _ h _;simp at h
    | cons a as ih=>
     intro rs j nd d f
     cases rs with
     | nil=>rfl
     | cons r rs=>
      cases j with
      | zero=>simp at f
      | succ j=>
       simp at d f;have g:b≠a:=λz=>(aIi.mp nd).1 (z▸aH1 d);show upd _ _ _ _=_;rw[aL g];exact ih (aIi.mp nd).2 d (by simpa using f)
   rw[go nd c hr,hn b hb]at e;cases e
def VT(K:aL1)(T:String)(n:Nat)(c:TA):TE:=λσ H Q=>c σ H λvs b=>∃(src:List (Addr×Bool)) (cols rows:List (List V)),vs=src.map (λp=>V.ref p.1)/\src.length=n/\cols.length=n/\(∀(j:Nat) p xs,src[j]? =some p->cols[j]? =some xs->IQ K b p.2 p.1 xs)/\
 P0 cols rows/\rows.length<=sizeLine/\∀(as:List Addr) (p:Addr),as.length=rows.length->as.Nodup->(∀a∈as,b a=none)->b p=none->p∉as->Q (.ref p) (upd (qF b as rows) p (if T= "tuple" then .tup (as.map .ref) else .lst (as.map .ref)))
theorem lD:∀(as:List Addr),Vals (as.map V.ref) (as.map Value.ref)
 | []=>.nil
 | a::as=>.cons rfl (lD as)
theorem aBt{P:Nat->List Value->List V->Prop}:∀{rs:List (List V)},(∀(i:Nat) r,rs[i]? =some r->∃us,P i us r)->∃a:List (List Value),a.length=rs.length/\∀(i:Nat) us r,a[i]? =some us->rs[i]? =some r->P i us r:=by
 intro rs
 induction rs generalizing P with
 | nil=>intro _;exact⟨[],rfl,λi us r h=>by simp at h⟩
 | cons r rs ih=>
  intro h;obtain⟨us,e⟩:=h 0 r rfl;obtain⟨a,f,g⟩:=ih (P:=λi=>P (i+1)) λi r j=>h (i+1) r (by simpa using j);refine⟨us::a,by simp[f],λi b k c d=>?_⟩
  cases i with
  | zero=>simp at c d;subst c d;exact e
  | succ i=>exact g i b k (by simpa using c) (by simpa using d)
theorem GR{X:Cx}{pins:List (Addr×Obj)}{σ:St}{m:Hp}{s1:Shared}{h' :Heap}{T:String}{rows:List (List V)}{d:List (List Value)}{vs:List Value}{B TO:Addr}{qs:List Src}{p:Addr}{c:Nat}(A:Inv X pins σ m s1)(C:∀b,b=B\/b=TO\/(∃q∈qs,b=q.it)->oH X pins m b)
  (L:T= "tuple"\/T= "list") (P:d.length=rows.length) (n:∀(i:Nat) us r,d[i]? =some us->rows[i]? =some r->Vals r us) (Q:rows.length<=sizeLine) (D:∀r∈rows,r.length<=sizeLine)
  (k:ZF s1.heap h' B TO qs d vs) (I:s1.heap.objs.size<=p) (ho:h'.get? p=some {cls:= .type T,dict:=none,data:= .seq vs.toArray c,slots:= #[]}) (s:∀(j:Nat) a,vs[j]? =some (.ref a)->a≠p):
  ∃as:List Addr,as.length=rows.length/\as.Nodup/\(∀a∈as,m a=none)/\m p=none/\p∉as/\Inv X pins σ (upd (qF m as rows) p (if T= "tuple" then .tup (as.map .ref) else .lst (as.map .ref))) {s1 with heap:=h'}:=by
 have J:∀v∈vs,∃a,v= .ref a:=λv n=>by
  obtain⟨j,l⟩:=aHa.mp n;have f:j<d.length:=by have:=(aGt.mp l).1;rw[k.len]at this;exact this
  obtain⟨a,e,_⟩:=k.tup j v _ l (aH6 f);exact⟨a,e⟩
 obtain⟨as,rfl⟩:∃as:List Addr,vs=as.map Value.ref:=by
  clear k ho s
  induction vs with
  | nil=>exact⟨[],rfl⟩
  | cons v vs ih=>
   obtain⟨a,rfl⟩:=J v (by simp);obtain⟨as,rfl⟩:=ih λv n=>J v (by simp[n]);exact⟨a::as,rfl⟩
 have E:as.length=rows.length:=by have:=k.len;simp at this;lia
 have nd:as.Nodup:=by
  have:=k.nd;rw[List.nodup_iff_pairwise_ne]at this⊢;rw[List.pairwise_map]at this;exact this.imp λh z=>h (by rw[z])
 have at_:∀(j:Nat) a r,as[j]? =some a->rows[j]? =some r->∃us,Vals r us/\h'.get? a=some {cls:= .type "tuple",data:= .seq us.toArray}/\s1.heap.objs.size<=a:=λj a r F t=>by
  have f:j<d.length:=by have:=(aGt.mp t).1;lia
  have K:=aH6 f;obtain⟨R,M,N,O⟩:=k.tup j (.ref a) _ (by rw[List.getElem?_map,F];rfl) K;cases M;exact⟨_,n j _ r K t,N,O⟩
 have new:∀a∈as,s1.heap.objs.size<=a:=λa ha=>by
  obtain⟨j,l⟩:=aHa.mp ha;have f:j<rows.length:=by have:=(aGt.mp l).1;lia
  obtain⟨_,_,_,h⟩:=at_ j a _ l (aH6 f);exact h
 have u:∀a∈as,m a=none:=λa ha=>A.bO.fresh (new a ha)
 have G:p∉as:=λha=>by
  obtain⟨j,l⟩:=aHa.mp ha;exact s j p (by rw[List.getElem?_map,l];rfl) rfl
 refine⟨as,E,nd,u,A.bO.fresh I,G,?_⟩;refine A.ZJ (fp:=B::TO::qs.map (·.it)) (t' :=s1.toks) (λb hb=>C b ?_) (λb o hb e=>k.keep b o (λz=>hb (by simp[z])) (λz=>hb (by simp[z])) (λq H z=>hb (by simp;exact .inr (.inr ⟨q,H,z.symm⟩))) e) (λb hb=>?_) (λb o hb e=>?_)
 ·simp at hb;rcases hb with rfl | rfl | ⟨q,H,rfl⟩
  ·exact .inl rfl
  ·exact .inr (.inl rfl)
  ·exact .inr (.inr ⟨q,H,rfl⟩)
 ·rw[aL (Nat.ne_of_lt (Nat.lt_of_lt_of_le hb I)),iO λha=>Nat.lt_irrefl _ (Nat.lt_of_lt_of_le hb (new b ha))]
 ·by_cases w:b=p
  ·subst w;rw[bC]at e;cases e;rcases L with rfl | rfl
   ·simp only[if_true];exact⟨by simp;lia,_,lD as,⟨_,ho,rfl,c,rfl⟩,λo' x =>by rw[ho]at x;cases x;rfl⟩
   ·rw[if_neg (by decide)];exact⟨by simp;lia,_,c,lD as,ho⟩
  ·rw[aL w]at e;by_cases y:b∈as
   ·obtain⟨j,r,F,t,rfl⟩:=K8 nd y u e;obtain⟨us,v,g,_⟩:=at_ j b r F t;exact⟨D r (aH1 t),us,v,⟨_,g,rfl,0,rfl⟩,λo' x =>by rw[g]at x;cases x;rfl⟩
   ·rw[iO y,A.bO.fresh hb]at e;cases e
theorem MM{X:Cx}{n:Nat}{T:String}{t:Str}{e:Expr}{G:List Expr}{ta:TA}{p0 p1 pos m:Pos}(z:KU n)(hn:0<n/\n<=1000)(hc:X.calm=true)(hT:(t= "tuple"/\T= "tuple")\/(t= "list"/\T= "list"))(hgT:Gl X t)(hmT:X.mg t=none)(hvT:bootBuiltins t=some (.type T))(hg:Gl X "zip")(hm:X.mg "zip"=none)(ha:PA X (e::G) ta)
  (hv:bootBuiltins "zip"=some (.type "zip"):=by decide+kernel)
  (he:starEach (e::G) X.env=(false,eval e X.env)::starEach G X.env:=by rfl) (hpl:(backTo pos (starEach G X.env)).any (·.1)=false:=by rfl)
  (U:starEach [.Call (.Name "zip" p0) (e::G) [] pos] X.env=(false,eval (.Call (.Name "zip" p0) (e::G) [] pos) X.env)::starEach [] X.env:=by rfl) (W:(backTo m (starEach [] X.env)).any (·.1)=false:=by rfl):
  PE X (.Call (.Name t p1) [.Call (.Name "zip" p0) (e::G) [] pos] [] m) (VT X.K T n ta):=by
 intro pins s σ H Q I h;have hTT:T= "tuple"\/T= "list":=hT.elim (λh=>.inl h.2) λh=>.inr h.2;refine aIr (n9 I hgT hmT hvT ?_ (by rcases hT with ⟨rfl,_⟩ | ⟨rfl,_⟩ <;> decide) (by rcases hT with ⟨rfl,_⟩ | ⟨rfl,_⟩ <;> decide));refine aIc ?_ U W;rw[U];show wpAny _ _ (spliced ((false,eval (.Call (.Name "zip" p0) (e::G) [] pos) X.env)::backTo m (starEach [] X.env))) _ _ s;refine aIk ?_;refine aIr (n9 I hg hm hv ?_);refine aIc (cJ (ha pos pins s σ H _ I h) λus s1 ⟨vs,Y,I1,r1,q1⟩=>?_) he hpl;obtain⟨src,cols,rows,rfl,hl,hcl,hs,RO,hrl,hR⟩:=q1;have hu:=fY r1;subst hu;have em:(src.map λp=>Value.ref p.1)=(src.map λp=>(⟨0,p.1,p.2⟩:Src)).map λq=>Value.ref q.l:=by rw[List.map_map];rfl
 have hz:src.length<=sizeLine:=aIz (xC (by lia))
 have col:∀(j:Nat) p,src[j]? =some p->∃xs,cols[j]? =some xs/\IQ X.K Y p.2 p.1 xs:=λj p J=>by
  have d:j<cols.length:=by have:=(aGt.mp J).1;lia
  exact⟨_,aH6 d,hs j p _ J (aH6 d)⟩
 rw[em];refine yP (by simpa using hz) (z.t _ (by simpa using hl)) (z.n _ (by simpa using hl)) (λobj=>z.i _ obj (by simpa using hl)) (λq g=>?_) λh' zz TI TO t1 t2 t3 D Z kp=>?_
 ·obtain⟨p,hp,rfl⟩:=aH5.mp g;obtain⟨j,J⟩:=aHa.mp hp;obtain⟨xs,_,hx⟩:=col j p J;obtain⟨aH,_,y⟩:=I1.sqx hx;exact⟨aH.toArray,y 0⟩
 ·generalize M:bQ s1.heap.objs.size (src.map λp=>(⟨0,p.1,p.2⟩:Src))=qs at D Z;have hql:qs.length=src.length:=by rw[<-M,eZ];simp
  have N:(qs.map λq=>(q.l,q.tup))=src:=by rw[<-M];exact oA _ _
  have I2:Inv X pins σ Y {s1 with heap:=h'}:=I1.kept (t' :=s1.toks) kp
  have O:∀b,b=zz\/b=TO\/(∃q∈qs,b=q.it)->oH X pins Y b:=λb hb=>by
   have hb0:s1.heap.objs.size<=b:=by
    rcases hb with rfl | rfl | ⟨q,g,rfl⟩
    ·exact t3
    ·exact t2
    ·rw[<-M]at g;exact(dW g).1
   exact(I1.J5 hb0 (I1.bO.fresh hb0):oH X pins Y b)
  have hqj:∀(j:Nat) q,qs[j]? =some q->∃xs aH,cols[j]? =some xs/\Vals xs aH/\q.Sq h' aH.toArray:=λj q J=>by
   have h1:src[j]? =some (q.l,q.tup):=by rw[<-N,List.getElem?_map,J];rfl
   obtain⟨xs,S,hx⟩:=col j _ h1;obtain⟨aH,r,y⟩:=I2.sqx hx;exact⟨xs,aH,S,r,y q.it⟩
  have hne:qs≠[]:=by intro e0;rw[e0]at hql;simp at hql;lia
  have colq:∀(j:Nat) xs,cols[j]? =some xs->∃q,qs[j]? =some q:=λj xs J=>by
   have:j<qs.length:=by have:=(aGt.mp J).1;lia
   exact⟨_,aH6 this⟩
  have f:∀(i:Nat) (vals:List V),(∀(j:Nat) xs x,cols[j]? =some xs->vals[j]? =some x->xs[i]? =some x)->vals.length<=cols.length->∃us:List Value,Vals vals us/\∀(j:Nat) q u,qs[j]? =some q->us[j]? =some u->∃items,q.Sq h' items/\items[i]? =some u:=λi vals hh hvl=>by
   obtain⟨us,ru,pu⟩:=MK (P:=λj u=>∀q,qs[j]? =some q->∃items,q.Sq h' items/\items[i]? =some u) (vs:=vals) λj v ev=>by
    have d:j<qs.length:=by have:=(aGt.mp ev).1;lia
    obtain⟨xs,aH,S,r,y⟩:=hqj j _ (aH6 d);obtain⟨u,hu,ru⟩:=r.get (hh j xs v S ev);refine⟨u,ru,λq g=>?_⟩;rw[List.getElem?_eq_getElem d]at g;cases g;exact⟨aH.toArray,y,by simpa using hu⟩
   exact⟨us,ru,λj q u g hu=>pu j u hu q g⟩
  obtain⟨E,F,R⟩:=aBt (P:=λi us r=>Vals r us/\∀(j:Nat) q u,qs[j]? =some q->us[j]? =some u->∃items,q.Sq h' items/\items[i]? =some u) (rs:=rows) λi r hr=>by
   obtain⟨S,e2⟩:=RO.row i r hr;exact f i r e2 (by lia)
  have RR:ZR h' qs E:=by
   refine⟨λi us hus=>?_,?_⟩
   ·have hil:i<rows.length:=by have:=(aGt.mp hus).1;lia
    obtain⟨v,w⟩:=R i us _ hus (aH6 hil);refine⟨?_,w⟩;have:=(RO.row i _ (aH6 hil)).1;rw[<-v.length,this];lia
   ·obtain⟨k,vals,xs,S,e2,e3,e4⟩:=RO.fin;have hkl:k<cols.length:=(aGt.mp e2).1;obtain⟨us,ru,pu⟩:=f rows.length vals e4 (by lia);obtain⟨q,g⟩:=colq k xs e2;obtain⟨xs',aH,g1,g2,g3⟩:=hqj k q g;rw[e2]at g1;cases g1;refine⟨k,us,by rw[<-ru.length];exact S,by lia,λj q u a b=>by rw[F];exact pu j q u a b,q,aH.toArray,g,g3,?_⟩;rw[F,List.getElem?_toArray];exact g2.none_of e3
  have hh:X.A.handled=none:=I.ok.hd hc
  have hrr:∀r∈rows,r.length<=sizeLine:=λr hr=>by
   obtain⟨i,hi⟩:=aHa.mp hr;have:=(RO.row i r hi).1;lia
  refine aJb ?_;have fpo2:∀b,b=zz\/b=TO\/(∃q∈qs,b=q.it)->oH X pins Y b:=O;rcases hTT with rfl | rfl
  ·refine vS hh D (by lia) hne Z RR (by lia) λL vs B hsl=>?_
   have zf2:ZF h' (L.push {cls:= .type "tuple",data:= .seq vs.toArray}) zz TO qs E vs:=⟨B.len,B.nd,λj v r a b=>by obtain⟨x,y1,C,y3⟩:=B.tup j v r a b;exact⟨x,y1,aGv _ C,y3⟩,λc o c1 c2 c3 e=>aGv _ (B.keep c o c1 c2 c3 e)⟩
   obtain⟨as,a1,a2,a3,a4,a5,a6⟩:=GR (s1:={s1 with heap:=h'}) (T:= "tuple") (p:=L.objs.size) (c:=0) I2 O (.inl rfl) F (λi us r h1 L=>(R i us r h1 L).1) hrl hrr zf2 (aIz hsl) (aH0 _ rfl) (λj a ha=>by
    have d:j<E.length:=by have:=(aGt.mp ha).1;rw[B.len]at this;exact this
    obtain⟨x,y1,C,_⟩:=B.tup j _ _ ha (aH6 d);cases y1
    exact aHc (aH4 C))
   exact⟨.ref L.objs.size,_,a6,rfl,hR as _ a1 a2 a3 a4 a5⟩
  ·refine wL hh D (by lia) hne Z RR (by lia) λL vs c B hob=>?_
   obtain⟨as,a1,a2,a3,a4,a5,a6⟩:=GR (s1:={s1 with heap:=h'}) (T:= "list") (p:=h'.objs.size) (c:=c) I2 O (.inr rfl) F (λi us r h1 L=>(R i us r h1 L).1) hrl hrr B (aGy _) hob (λj a ha z=>by
    have d:j<E.length:=by have:=(aGt.mp ha).1;rw[B.len]at this;exact this
    obtain⟨x,y1,C,_⟩:=B.tup j _ _ ha (aH6 d);cases y1;rw[z,hob]at C;injection C with C;injection C with C
    simp at C)
   exact⟨.ref h'.objs.size,_,a6,rfl,hR as _ a1 a2 a3 a4 a5⟩
end L2
namespace D3
open PySem PySem.Spec PyProof.Rows L2
def aJ{α:Type}:List (List α)->List (List α)
 | []=>[]
 | [c]=>c.map λx=>[x]
 | c::d::cs=>List.zipWith List.cons c (aJ (d::cs))
theorem rowsOf{α:Type}:∀(cols:List (List α)),cols≠[]->P0 cols (aJ cols)
 | [],h=>absurd rfl h
 | [c],_=>by
  refine⟨λi r h=>?_,0,[],c,rfl,rfl,by simp[aJ],λj ys x _ h=>by simp at h⟩;simp only[aJ,List.getElem?_map]at h;obtain⟨x,n,rfl⟩:=aHr.mp h;refine⟨rfl,λj xs y a b=>?_⟩
  cases j with
  | zero=>simp at a b;subst a b;exact n
  | succ j=>simp at b
 | c::d::m,_=>by
  have l:=rowsOf (d::m) (by simp);simp only[aJ];generalize aJ (d::m)=rs at l;refine⟨λi r h=>?_,?_⟩
  ·rw[List.getElem?_zipWith]at h
   cases a:c[i]? with
   | none=>simp[a]at h
   | some x=>
    cases b:rs[i]? with
    | none=>simp[a,b]at h
    | some r' =>
     simp[a,b]at h;subst h;obtain⟨o,p⟩:=l.row i r' b;refine⟨by simp[o],λj xs y f g=>?_⟩
     cases j with
     | zero=>simp at f g;subst f g;exact a
     | succ j=>exact p j xs y (by simpa using f) (by simpa using g)
  ·by_cases q:c.length<=rs.length
   ·refine⟨0,[],c,rfl,rfl,?_,λj ys x _ h=>by simp at h⟩;rw[List.length_zipWith,Nat.min_eq_left q];simp
   ·obtain⟨k,vals,xs,f,g,s,t⟩:=l.fin;have e:(List.zipWith List.cons c rs).length=rs.length:=by rw[List.length_zipWith];lia
    refine⟨k+1,c[rs.length]'(by lia)::vals,xs,by simp[f],by simpa using g,by rw[e];exact s,λj ys x a b=>?_⟩;rw[e]
    cases j with
    | zero=>simp at a b;subst a b;exact aH6 _
    | succ j=>exact t j ys x (by simpa using a) (by simpa using b)
def j6(mh:MH):List D->Option (List (List D))
 | []=>some []
 | x::xs=>match bG mh x,j6 mh xs with | some c,some cs=>some (c::cs) | _,_=>none
def wTZ(n:Nat)(w:WA):WE:=λb mh Q=>w b mh λxs a=>∃cols,j6 a xs=some cols/\xs.length=n/\(aJ cols).length<=sizeLine/\Q (.tup ((aJ cols).map .tup)) a
def wLZ(n:Nat)(w:WA):WE:=λb mh Q=>w b mh λxs a=>∃cols,j6 a xs=some cols/\xs.length=n/\(aJ cols).length<=sizeLine/\Q (.ref a.length) (a++[.lst ((aJ cols).map .tup)])
section
variable {K:aL1}{μ:List Addr}{mh:MH}{H:Hp}
theorem G8(R:Rep K μ mh H):∀{xs:List D} {vs:List V} {cols:List (List D)},IsL K μ H xs vs->j6 mh xs=some cols->∃(src:List (Addr×Bool)) (cv:List (List V)),vs=src.map (λp=>V.ref p.1)/\src.map (·.2)=xs.map OE/\cv.length=xs.length/\cols.length=xs.length/\(∀(j:Nat) p c,src[j]? =some p->cv[j]? =some c->IQ K H p.2 p.1 c)/\∀(j:Nat) c d,cv[j]? =some c->cols[j]? =some d->IsL K μ H d c
 | [],vs,cols,l,h=>by
  unfold IsL at l;subst l;simp[j6]at h;subst h;exact⟨[],[],rfl,rfl,rfl,rfl,λj p c h=>by simp at h,λj c d h=>by simp at h⟩
 | x::xs,vs,cols,l,h=>by
  unfold IsL at l;obtain⟨v,r,rfl,i,l⟩:=l;simp only[j6]at h
  cases h1:bG mh x with
  | none=>simp[h1]at h
  | some c=>
   cases h2:j6 mh xs with
   | none=>simp[h1,h2]at h
   | some cs=>
    simp[h1,h2]at h;subst h;obtain⟨a,ys,rfl,sa,la⟩:=t9 R i h1;obtain⟨src,cv,rfl,f,g,k,m,n⟩:=G8 R l h2;refine⟨(a,OE x)::src,ys::cv,rfl,by simp[f],by simp[g],by simp[k],λj p c b e=>?_,λj c d b e=>?_⟩
    ·cases j with
     | zero=>simp at b e;subst b e;exact sa
     | succ j=>exact m j p c (by simpa using b) (by simpa using e)
    ·cases j with
     | zero=>simp at b e;subst b e;exact la
     | succ j=>exact n j c d (by simpa using b) (by simpa using e)
theorem GQ:∀{cv:List (List V)} {cd:List (List D)},cv.length=cd.length->(∀(j:Nat) c d,cv[j]? =some c->cd[j]? =some d->IsL K μ H d c)->(aJ cd).length=(aJ cv).length/\∀(i:Nat) r d,(aJ cv)[i]? =some r->(aJ cd)[i]? =some d->IsL K μ H d r
 | [],cd,hl,h=>by
  have:cd=[]:=aI9.mp hl.symm;subst this;exact⟨rfl,λi r d g=>by simp[aJ]at g⟩
 | [c],cd,hl,h=>by
  match cd,hl with
  | [d],_=>
   have l:=h 0 c d rfl rfl;refine⟨by simp[aJ,aK l],λi r e a b=>?_⟩;simp only[aJ,List.getElem?_map]at a b;obtain⟨x,q,rfl⟩:=aHr.mp a;obtain⟨y,s,rfl⟩:=aHr.mp b;obtain⟨v,f,k⟩:=eI l s;rw[q]at f;cases f;unfold IsL;exact⟨_,_,rfl,k,by unfold IsL;rfl⟩
 | c::o::cv,cd,hl,h=>by
  match cd,hl with
  | d::p::cd,hl=>
   have l:=h 0 c d rfl rfl;obtain⟨m,n⟩:=GQ (cv:=o::cv) (cd:=p::cd) (by simpa using hl) λj c d a b=>h (j+1) c d (by simpa using a) (by simpa using b);simp only[aJ];generalize aJ (o::cv)=t at m n;generalize aJ (p::cd)=u at m n;refine⟨by rw[List.length_zipWith,List.length_zipWith,m,aK l],λi r e a b=>?_⟩;rw[List.getElem?_zipWith]at a b
   cases h1:c[i]? with
   | none=>simp[h1]at a
   | some x=>
    cases h2:t[i]? with
    | none=>simp[h1,h2]at a
    | some r' =>
     cases h3:d[i]? with
     | none=>simp[h3]at b
     | some y=>
      cases h4:u[i]? with
      | none=>simp[h3,h4]at b
      | some r2=>
       simp[h1,h2]at a;simp[h3,h4]at b;subst a b;obtain⟨v,f,k⟩:=eI l h3;rw[h1]at f;cases f;unfold IsL;exact⟨_,_,rfl,k,n i r' r2 h2 h4⟩
theorem BN{e:Hp}:∀{as:List Addr} {b:List (List V)} {c:List (List D)},as.length=b.length->c.length=b.length->(∀(j:Nat) a r,as[j]? =some a->b[j]? =some r->e a=some (.tup r))->(∀(i:Nat) r d,b[i]? =some r->c[i]? =some d->IsL K μ e d r)->IsL K μ e (c.map .tup) (as.map V.ref)
 | [],b,c,h1,h2,_,_=>by
  have h:b=[]:=aI9.mp h1.symm;subst h;have k:c=[]:=aI9.mp h2;subst k;simp[IsL]
 | a::as,b,c,h1,h2,h3,h4=>by
  match b,c,h1,h2 with
  | r::b,d::c,h1,h2=>
   rw[List.map_cons,List.map_cons];unfold IsL;refine⟨_,_,rfl,?_,BN (by simpa using h1) (by simpa using h2) (λj a r f g=>h3 (j+1) a r (by simpa using f) (by simpa using g)) λi r d f g=>h4 (i+1) r d (by simpa using f) (by simpa using g)⟩;unfold Is;exact⟨a,r,rfl,.of (h3 0 a r rfl rfl),h4 0 r d rfl rfl⟩
end
section
variable {X:Cx}{n:Nat}{e:Expr}{es:List Expr}{wa:WA}{p0 p1 pos pos1:Pos}
theorem K7{σ:L2.St}{H:Hp}{Q:VK}{T:String}(hn:0<n)(w:WE)(J:(T= "tuple"/\w=wTZ n wa)\/(T= "list"/\w=wLZ n wa))(h:tL X.K w σ H Q):VT X.K T n (tLA X.K wa) σ H Q:=by
 obtain⟨μ,B,mh,R,M,En,h,F⟩:=h
 have main:∀(g:List D->MH->Prop),(∀xs f,g xs f->∃cols,j6 f xs=some cols/\xs.length=n/\(aJ cols).length<=sizeLine/\(if T= "tuple" then R (.tup ((aJ cols).map .tup)) f else R (.ref f.length) (f++[.lst ((aJ cols).map .tup)])))->wa B mh g->VT X.K T n (tLA X.K wa) σ H Q:=λg N h=>by
  refine⟨μ,B,mh,_,M,En,h,λxs f q k vs l C m O=>?_⟩;obtain⟨cols,P,hl,hz,q⟩:=N xs f q;obtain⟨src,cv,rfl,E,S,e3,U,W⟩:=G8 m O P
  replace E:src.length=xs.length:=by simpa using aHu List.length E
  obtain⟨Y,Z⟩:=GQ (by lia) W;have TX:cv≠[]:=λz=>by subst z;simp at S;lia
  refine⟨src,cv,aJ cv,rfl,by lia,by lia,U,rowsOf cv TX,by lia,λas p a1 a2 G a4 a5=>?_⟩
  have old:∀b o,l b=some o->qF l as (aJ cv) b=some o:=λb o e=>by
   rw[iO λha=>by rw[G b ha]at e;cases e];exact e
  have P2:aI k l k (qF l as (aJ cv)):=⟨⟨[],by simp⟩,λb o e _=>old b o e,λ_ h=>.inl h⟩
  have R2:Rep X.K k f (qF l as (aJ cv)):=⟨m.len,m.nd,λn a ob s t=>(m.obj n a ob s t).mono m P2 (iO λha=>m.ne (G a ha) (aH1 s) rfl)⟩
  have u:qF l as (aJ cv) p=none:=by rw[iO a5];exact a4
  have L:IsL X.K k (qF l as (aJ cv)) ((aJ cols).map .tup) (as.map V.ref):=BN a1 Y (λj a r v x=>yW a2 v x) λi r d v x=>IsL.mono m P2 d r (Z i r d v x);by_cases I:T= "tuple"
  ·simp only[if_pos I]at q⊢;exact mN R2 (F.at (C.trans P2)) L q p u
  ·simp only[if_neg I]at q⊢;exact iE R2 (F.at (C.trans P2)) L q p u
 rcases J with ⟨rfl,rfl⟩ | ⟨rfl,rfl⟩
 ·exact main _ (λxs f q=>by obtain⟨c,s,t,y,A⟩:=q;exact⟨c,s,t,y,by simp only[if_true];exact A⟩) h
 ·exact main _ (λxs f q=>by obtain⟨c,s,t,y,A⟩:=q;exact⟨c,s,t,y,by rw[if_neg (by decide)];exact A⟩) h
theorem aCj(z:KU n)(g:0<n/\n<=1000)(i:X.calm=true)(b:X.mg "tuple"=none)(j:X.mg "zip"=none)(ha:LA X (e::es) wa)(c:Gl X "tuple":=by rfl)(hg:Gl X "zip":=by rfl)
  (he:starEach (e::es) X.env=(false,eval e X.env)::starEach es X.env:=by rfl) (d:(backTo pos (starEach es X.env)).any (·.1)=false:=by rfl)
  (f:starEach [.Call (.Name "zip" p0) (e::es) [] pos] X.env=(false,eval (.Call (.Name "zip" p0) (e::es) [] pos) X.env)::starEach [] X.env:=by rfl) (a:(backTo pos1 (starEach [] X.env)).any (·.1)=false:=by rfl):
  LE X (.Call (.Name "tuple" p1) [.Call (.Name "zip" p0) (e::es) [] pos] [] pos1) (wTZ n wa):=
 PE.imp (MM z g i (.inl ⟨rfl,rfl⟩) c b vU hg j ha (by decide+kernel) he d f a) λσ H Q h=>K7 g.1 _ (.inl ⟨rfl,rfl⟩) h
theorem aCl(z:KU n)(g:0<n/\n<=1000)(i:X.calm=true)(b:X.mg "list"=none)(j:X.mg "zip"=none)(ha:LA X (e::es) wa)(c:Gl X "list":=by rfl)(hg:Gl X "zip":=by rfl)
  (he:starEach (e::es) X.env=(false,eval e X.env)::starEach es X.env:=by rfl) (d:(backTo pos (starEach es X.env)).any (·.1)=false:=by rfl)
  (f:starEach [.Call (.Name "zip" p0) (e::es) [] pos] X.env=(false,eval (.Call (.Name "zip" p0) (e::es) [] pos) X.env)::starEach [] X.env:=by rfl) (a:(backTo pos1 (starEach [] X.env)).any (·.1)=false:=by rfl):
  LE X (.Call (.Name "list" p1) [.Call (.Name "zip" p0) (e::es) [] pos] [] pos1) (wLZ n wa):=
 PE.imp (MM z g i (.inr ⟨rfl,rfl⟩) c b IK hg j ha (by decide+kernel) he d f a) λσ H Q h=>K7 g.1 _ (.inr ⟨rfl,rfl⟩) h
@[simp] theorem s_tz {b:d7}{mh:MH}{Q:DK}{n:Nat}{w:WA}:wTZ n w b mh Q=(w b mh λxs a=>∃cols,j6 a xs=some cols/\xs.length=n/\(aJ cols).length<=sizeLine/\Q (.tup ((aJ cols).map .tup)) a):=rfl
@[simp] theorem s_lz {b:d7}{mh:MH}{Q:DK}{n:Nat}{w:WA}:wLZ n w b mh Q=(w b mh λxs a=>∃cols,j6 a xs=some cols/\xs.length=n/\(aJ cols).length<=sizeLine/\Q (.ref a.length) (a++[.lst ((aJ cols).map .tup)])):=rfl
end
def gI{α:Type}(xs:List α)(lo hi st:Option Int):List α:=(sliceRange (sliceBounds lo hi st xs.length).1 (sliceBounds lo hi st xs.length).2.1 (sliceBounds lo hi st xs.length).2.2).filterMap (xs[·]?)
theorem qH{xs:List V}{us:List Value}(r:Vals xs us):∀(a:List Nat),Vals (a.filterMap (xs[·]?)) (a.filterMap (us[·]?))
 | []=>.nil
 | i::a=>by
  cases h:xs[i]? with
  | none=>rw[List.filterMap_cons_none h,List.filterMap_cons_none (r.none_of h)];exact qH r a
  | some x=>
   obtain⟨u,b,c⟩:=r.get h;rw[List.filterMap_cons_some h,List.filterMap_cons_some b];exact .cons c (qH r a)
theorem vD{K:aL1}{μ:List Addr}{H:Hp}{ds:List D}{vs:List V}(l:IsL K μ H ds vs):∀(a:List Nat),IsL K μ H (a.filterMap (ds[·]?)) (a.filterMap (vs[·]?))
 | []=>by simp[IsL]
 | i::a=>by
  cases h:ds[i]? with
  | none=>
   have b:vs[i]? =none:=by
    have:=aIj.mp h;exact aIj.mpr (by rw[aK l];exact this)
   rw[List.filterMap_cons_none h,List.filterMap_cons_none b];exact vD l a
  | some x=>
   obtain⟨u,c,d⟩:=eI l h;rw[List.filterMap_cons_some h,List.filterMap_cons_some c];unfold IsL;exact⟨_,_,rfl,d,vD l a⟩
def aFq(K:aL1):V->Option Int->Option Int->Option Int->Hp->VK->Prop:=λx lo hi st H Q=>∃a xs,x= .ref a/\oI K H a xs/\st≠some 0/\∀p,H p=none->Q (.ref p) (upd H p (.lst (gI xs lo hi st)))
def aEk(r:V->Option Int->Option Int->Option Int->Hp->VK->Prop)(te:TE)(a b c:TO):TE:=λσ H Q=>te σ H λx d=>a σ d λl e=>b σ e λu f=>c σ f λst g=>r x l u st g Q
section
variable {X:Cx}{e est:Expr}{te:TE}{lo hi:Option Expr}{tl th ts:TO}{pos p2:Pos}
theorem JH(he:PE X e te)(t:PO X lo tl)(y:PO X hi th)(f:PO X (some est) ts):PE X (.Subscript e (.Slice lo hi (some est) p2) pos) (aEk (aFq X.K) te tl th ts):=by
 intro pins s σ H Q I h;refine Subscript_ (cJ (he pins s σ H _ I h) λv s1 g=>?_);obtain⟨x,z,B,C,D⟩:=g;refine wpAny_Slice (cJ (t pins s1 σ z _ B D) λm s2 ⟨l,E,F,G,J⟩=>cJ (y pins s2 σ E _ F J) λn L ⟨u,M,N,O,P⟩=>cJ (f pins L σ M _ N P) λvs c j=>?_);obtain⟨st,R,S,ps,T⟩:=j;have k:Inv X pins σ R {c with heap:=c.heap.push {cls:= .type "slice",data:= .fields #[m,n,vs]}}:=S.kept (t' :=c.toks) λb ob q=>aGv _ q;obtain⟨a,xs,rfl,U,h0,q⟩:=T;cases C;obtain⟨aH,r,ht,hz⟩:=k.list U;have d:=r.length;show wpAny (model X.prog X.w) X.A (subscriptTail e (.Slice lo hi (some est) p2) (.ref a) (.ref c.heap.objs.size)) (EP X pins σ Q) X.xe {c with heap:=c.heap.push {cls:= .type "slice",data:= .fields #[m,n,vs]}};refine tail_any (ops:=[.ref a,.ref c.heap.objs.size]) ht.isList.typeIs slot_list_getitem.lookup ?_ (by with_unfolding_all rfl);refine wpAny_getItem_list_slice ht.isList (Heap.IsSliceOf.new ..) G O ps h0 ?_ (by rw[List.size_toArray] <;> lia)
 have p:Vals (gI xs l u st) (slicePick aH.toArray l u st).toList:=by
  unfold slicePick gI;rw[List.size_toArray,d,List.toList_toArray];have e:(λi:Nat=>aH.toArray[i]?)=λi=>aH[i]? :=by funext i;simp
  rw[e];exact qH r _
 have hsz:=slicePick_size_le aH.toArray l u st;refine⟨.ref _,_,k.laid (t' :=c.toks) (o:= .lst (gI xs l u st)) (λb ob q=>aGv _ q) (aGy _) ?_,rfl,q _ (k.bO.fresh (aGy _))⟩;refine⟨?_,_,0,p,?_⟩
 ·rw[p.length,Array.length_toList];simp at hsz;lia
 ·rw[Array.toArray_toList];exact aH0 _ rfl
end
section
variable {X:Cx}{e est:Expr}{w:WE}{lo hi:Option Expr}{wl wh ws:WO}{pos p2:Pos}
def LJ(w:WE)(wl wh ws:WO):WE:=λb mh Q=>w b mh λx c=>wl b c λl d=>wh b d λu e=>ws b e λst a=>∃ds,mW a x=some ds/\st≠some 0/\Q (.ref a.length) (a++[.lst (gI ds l u st)])
theorem YB(he:LE X e w)(f:LO X lo wl)(t:LO X hi wh)(v:LO X (some est) ws):LE X (.Subscript e (.Slice lo hi (some est) p2) pos) (LJ w wl wh ws):=PE.imp (JH he f t v) λσ H Q q=>by
 obtain⟨μ,b,mh,R,c,E,h,F⟩:=q;refine⟨μ,b,mh,_,c,E,h,λdx g x i y J d p z=>⟨i,b,g,_,p,E.mono c d,x,λl j A k K P2 R2=>⟨k,b,j,_,R2,E.mono c (d.trans P2),A,λu m B n L o C=>⟨n,b,m,_,C,E.mono c ((d.trans P2).trans o),B,λst D G I M r R4=>?_⟩⟩⟩⟩;obtain⟨ds,f,h0,q⟩:=G;obtain⟨a,vs,rfl,sq,s⟩:=u6 R4 (Is.mono p ((P2.trans o).trans r) dx y z) f;refine⟨a,vs,rfl,sq,h0,iE R4 (F.at (((d.trans P2).trans o).trans r)) (ds:=gI ds l u st) ?_ q⟩;unfold gI;rw[aK s];exact vD s _
@[simp] theorem s_sl3 {b:d7}{mh:MH}{Q:DK}:LJ w wl wh ws b mh Q=(w b mh λx c=>wl b c λl d=>wh b d λu e=>ws b e λst a=>∃ds,mW a x=some ds/\st≠some 0/\Q (.ref a.length) (a++[.lst (gI ds l u st)])):=rfl
end
def lY{α:Type}:List α->List α
 | []=>[]
 | [a]=>[a]
 | a::_::r=>a::lY r
def uW{α:Type}:List α->List α
 | []=>[]
 | [_]=>[]
 | _::b::r=>b::uW r
theorem rM{α:Type}:∀(xs:List α),(List.range ((xs.length+1) / 2)).filterMap (λk=>xs[2*k]?)=lY xs
 | []=>by simp[lY]
 | [a]=>by simp[lY]
 | a::b::r=>by
  have e:((a::b::r).length+1) / 2=(r.length+1) / 2+1:=by simp only[List.length_cons];lia
  rw[e,List.range_succ_eq_map,List.filterMap_cons_some (b:=a) (by simp),List.filterMap_map,lY,<-rM r];congr 1
theorem uQ{α:Type}:∀(xs:List α),(List.range (xs.length / 2)).filterMap (λk=>xs[2*k+1]?)=uW xs
 | []=>by simp[uW]
 | [a]=>by simp[uW]
 | a::b::r=>by
  have e:(a::b::r).length / 2=r.length / 2+1:=by simp only[List.length_cons];lia
  rw[e,List.range_succ_eq_map,List.filterMap_cons_some (b:=b) (by simp),List.filterMap_map,uW,<-uQ r];congr 1
theorem E4{α:Type}(xs:List α):gI xs none none (some 2)=lY xs:=by
 rw[<-rM];unfold gI sliceRange sliceBounds;simp only[Option.getD_some,show (2:Int) > 0 by lia,if_true];have e:(if (0:Int)<xs.length then ((xs.length:Int)-0+2-1) / 2 else 0).toNat=(xs.length+1) / 2:=by split <;> lia
 rw[e,List.filterMap_map];congr 1;funext k;have:((0:Int)+2*(k:Int)).toNat=2*k:=by lia
 simp only[Function.comp,this]
theorem JF{α:Type}(xs:List α):gI xs (some 1) none (some 2)=uW xs:=by
 rw[<-uQ];unfold gI sliceRange sliceBounds;simp only[Option.getD_some,show (2:Int) > 0 by lia,if_true,show ¬((1:Int)<0) by lia,if_false];by_cases h0:xs.length=0
 ·have:xs=[]:=aI9.mp h0;subst this;simp
 ·have em:max 0 (min (1:Int) (xs.length:Int))=1:=by lia
  rw[em];have e:(if (1:Int)<xs.length then ((xs.length:Int)-1+2-1) / 2 else 0).toNat=xs.length / 2:=by split <;> lia
  rw[e,List.filterMap_map];congr 1;funext k;have:((1:Int)+2*(k:Int)).toNat=2*k+1:=by lia
  simp only[Function.comp,this]
def GZ(e wi f:WE):WE:=λc mh Q=>e c mh λo a=>∃n,o= .ref n/\(∃kvs,a[n]? =some (.dic false kvs))/\wi c a λi d=>f c d λx b=>∃kvs key,b[n]? =some (.dic false kvs)/\i=aN key/\Q ((bF kvs i).getD x) b
def wY(e wi f:WE):WE:=λc mh Q=>e c mh λo b=>∃n,o= .ref n/\(∃kvs,b[n]? =some (.dic false kvs))/\wi c b λi d=>f c d λx a=>∃kvs key,a[n]? =some (.dic false kvs)/\i=aN key/\kvs.length<sizeLine/\
 (∀v,bF kvs i=some v->Q v a)/\(bF kvs i=none->Q x (a.set n (.dic false (putD kvs i x))))
open Classical in
noncomputable def bM(kvs:List (D×D))(k:D):List (D×D):=kvs.filter λp=>decide (p.1≠k)
def LM(d wi:WE):WS:=λE b mh=>d b mh λo c=>wi b c λi a=>∃n kvs key,o= .ref n/\a[n]? =some (.dic false kvs)/\i=aN key/\(bF kvs i).isSome=true/\E.nx b (a.set n (.dic false (bM kvs i)))
theorem DS{K:aL1}{μ:List Addr}{H:Hp}(key:Key):∀{kvs:List (D×D)} {kk:List (Key×V)},kvs.map (·.1)=kk.map (λp=>aN p.1)->IsL K μ H (kvs.map (·.2)) (kk.map (·.2))->
  (bM kvs (aN key)).map (·.1)=(cC kk key).map (λp=>aN p.1)/\IsL K μ H ((bM kvs (aN key)).map (·.2)) ((cC kk key).map (·.2))
 | [],[],_,_=>⟨rfl,by simp[bM,cC,IsL]⟩
 | [],_::_,h,_=>by simp at h
 | _::_,[],h,_=>by simp at h
 | p::kvs,q::kk,h,l=>by
  simp only[List.map_cons,List.cons.injEq]at h;simp only[List.map_cons]at l;unfold IsL at l;obtain⟨w,r,e,i,l⟩:=l;simp only[List.cons.injEq]at e;obtain⟨rfl,rfl⟩:=e;obtain⟨f,g⟩:=DS key h.2 l;by_cases a:q.1=key
  ·have b:p.1=aN key:=by rw[h.1,a]
   have c:bM (p::kvs) (aN key)=bM kvs (aN key):=by unfold bM;rw[List.filter_cons_of_neg (by simp[b])]
   have d:cC (q::kk) key=cC kk key:=by unfold cC;rw[List.filter_cons_of_neg (by simp[a])]
   rw[c,d];exact⟨f,g⟩
  ·have b:¬p.1=aN key:=λz=>a (iZ (h.1.symm.trans z));have c:bM (p::kvs) (aN key)=p::bM kvs (aN key):=by unfold bM;rw[List.filter_cons_of_pos (by simp[b])]
   have d:cC (q::kk) key=q::cC kk key:=by unfold cC;rw[List.filter_cons_of_pos (by simp[a])]
   rw[c,d];refine⟨by simp[h.1,f],?_⟩;simp only[List.map_cons];unfold IsL;exact⟨_,_,rfl,i,g⟩
section
variable {X:Cx}{o i x:Expr}{wo wi wx:WE}{apos cD pos tpos:Pos}
theorem OG{K:aL1}{μ:List Addr}{mh:MH}{H:Hp}{n:Nat}{v:V}{kvs:List (D×D)}(R:Rep K μ mh H)(h:Is K μ H (.ref n) v)(e:mh[n]? =some (.dic false kvs)):∃a,v= .ref a/\IsD H a:=by
 obtain⟨a,vs,rfl,c,⟨kk,b,_,_⟩,_⟩:=gP R h e;exact⟨a,rfl,.inl ⟨kk,.inl b⟩⟩
theorem SV(T:X.A.units+64<cLine)(ho:LE X o wo)(hi:LE X i wi)(C:LE X x wx)(base:attributeBase o "get" X.env (eval o X.env)=eval o X.env:=by rfl)
  (FZ:((backTo cD (starEach [i,x] X.env)).all (λx=>!x.1) && (backToKw cD (keywordEach [] X.env)).all (λx=>x.1.isSome) && decide (([i,x]:List Expr).length+([]:List Keyword).length+(if ([]:List Keyword).isEmpty then 0 else 1)<30))=true:=by rfl)
  (line:(apos.endLine==cD.line)=true:=by rfl) (trees:backTo cD (starEach [i,x] X.env)=[(false,eval i X.env),(false,eval x X.env)]:=by rfl):
  LE X (.Call (.Attribute o "get" apos) [i,x] [] cD) (GZ wo wi wx):=PE.imp (MU (by lia) ho hi C ⟨base,FZ,line,trees⟩) λσ H Q h=>by
 obtain⟨μ,b,mh,R,c,En,h,F⟩:=h;refine⟨μ,b,mh,_,c,En,h,λD d q f U V g j u=>?_⟩;obtain⟨n,rfl,⟨v,E⟩,q⟩:=q;obtain⟨a,rfl,G⟩:=OG j u E;refine⟨a,rfl,G,f,b,d,_,j,En.mono c g,q,λW m I p Y Z P2 R2 J=>?_⟩;refine⟨p,b,m,_,R2,En.mono c (g.trans P2),I,λdx K L M vx H3 y r N=>?_⟩;obtain⟨kvs,key,e,rfl,q⟩:=L;obtain⟨a',vs,O,hn,⟨kk,z,P,rfl⟩,l⟩:=gP r (Is.mono j (P2.trans y) _ _ u) e;cases O;cases jK J;have B:=F.at ((g.trans P2).trans y)
 rcases jC key P l with ⟨s,t⟩ | ⟨d',w,s,t,S⟩
 ·rw[t]at q;exact⟨none,by rw[<-s];exact .k z,B.here r q N⟩
 ·rw[t]at q;exact⟨some w,by rw[<-s];exact .k z,B.here r q S⟩
theorem RM{t ty A:TE}(ho:PE X o t)(he:PE X i ty)(E:PE X x A)(m:M2 X o "setdefault" apos i x cD):PE X (.Call (.Attribute o "setdefault" apos) [i,x] [] cD)
  (λσ H Q=>t σ H λx j=>∃a,x= .ref a/\IsD j a/\ty σ j λy l=>A σ l λz f=>∃kvs k,f a=some (.dK kvs)/\y=kV k/\kvs.length<sizeLine/\(∀v,gC kvs k=some v->Q v f)/\(gC kvs k=none->Q z (upd f a (.dK (putK kvs k z))))):=by
 intro pins s σ H Q I h;refine wpAny_Call_method m.base m.FZ m.line aJv aKi PySem.F.type_dict_setdefault (cJ (ho pins s σ H _ I h) λu s1 n=>?_);obtain⟨x,j,B,G,a,ex,d,J⟩:=n;subst ex;obtain rfl:u=Value.ref a:=G;obtain⟨K,L,_⟩:=FR B d;refine⟨K,L,?_⟩;rw[m.trees]
 refine aJ3 rfl (aJe (aIk (cJ (he pins s1 σ j _ B J) λiv s2 ⟨y,l,M,N,O⟩=>
  aIk (cJ (E pins s2 σ l _ M O) λP s3 ⟨z,f,p,C,kvs,k,e,R,S,T,U⟩=>aJb ?_))))
 subst R;obtain⟨V,hd,vs,b,D⟩:=IE p.bO e;have hz:vs.length<=sizeLine:=by rw[<-b.length];exact V
 refine aKm aKi D.typeIs PySem.F.entry_dict_setdefault (PySem.F.args_dict_setdefault_3 _ _ _) (kt_meets_setdefault (aS X.prog X.w) a (rP N) hd P) ⟨vs,D,hz,λv W=>?_,λY h' g Z=>?_⟩
 ·have c:=b.val k;rw[W]at c
  cases hvv:gC kvs k with
  | none=>rw[hvv]at c;exact c.elim
  | some r =>rw[hvv]at c;exact⟨r,f,p.tok _,c,T r hvv⟩
 ·have c:=b.val k;rw[Y]at c
  cases hvv:gC kvs k with
  | some r =>rw[hvv]at c;exact c.elim
  | none=>
   have hl:(putK kvs k z).length<=sizeLine:=by have:=lS kvs k z;lia
   have he:∃q,h'.get? a=some q:=let ⟨q,_,_,hq,_⟩:=g;⟨q,hq⟩;exact⟨z,_,p8 p (by rw[e];exact True.intro) Z he (F6 hl hd (b.put k C) g),C,U hvv⟩
theorem SR(ho:LE X o wo)(hi:LE X i wi)(O:LE X x wx)(base:attributeBase o "setdefault" X.env (eval o X.env)=eval o X.env:=by rfl)
  (FZ:((backTo cD (starEach [i,x] X.env)).all (λx=>!x.1) && (backToKw cD (keywordEach [] X.env)).all (λx=>x.1.isSome) && decide (([i,x]:List Expr).length+([]:List Keyword).length+(if ([]:List Keyword).isEmpty then 0 else 1)<30))=true:=by rfl)
  (line:(apos.endLine==cD.line)=true:=by rfl) (trees:backTo cD (starEach [i,x] X.env)=[(false,eval i X.env),(false,eval x X.env)]:=by rfl):
  LE X (.Call (.Attribute o "setdefault" apos) [i,x] [] cD) (wY wo wi wx):=PE.imp (RM ho hi O ⟨base,FZ,line,trees⟩) λσ H Q h=>by
 obtain⟨μ,m,mh,R,p,En,h,F⟩:=h;refine⟨μ,m,mh,_,p,En,h,λP r q s vo H1 t u D=>?_⟩;obtain⟨n,rfl,⟨E,S⟩,q⟩:=q;obtain⟨a,rfl,T⟩:=OG u D S;refine⟨a,rfl,T,s,m,r,_,u,En.mono p t,q,λdi y U z vi H2 P2 R2 V=>?_⟩;refine⟨z,m,y,_,R2,En.mono p (t.trans P2),U,λdx A W b G B I g J=>?_⟩;obtain⟨kvs,key,e,rfl,hz,Y,Z⟩:=W;obtain⟨a',vs,ea,L,⟨kk,hv,k,rfl⟩,l⟩:=gP g (Is.mono u (P2.trans I) _ _ D) e;cases ea;cases jK V;have M:=F.at ((t.trans P2).trans I);have ln:kk.length=kvs.length:=by have:=aHu List.length k;simp at this;lia
 refine⟨kk,key,hv,rfl,by lia,λv c=>?_,λc=>?_⟩
 ·rcases jC key k l with ⟨d,j⟩ | ⟨d',w,d,j,N⟩
  ·rw[c]at d;cases d
  ·rw[c]at d;cases d;exact M.here g (Y d' j) N
 ·rcases jC key k l with ⟨d,j⟩ | ⟨d',w,d,j,N⟩
  ·have C:aI b B b (upd B a (.dK (putK kk key G))):=aI.set g L;obtain⟨p1,p2⟩:=sU (f:=aN) iZ key J k l;have R4:Rep X.K b (A.set n (.dic false (putD kvs (aN key) dx))) (upd B a (.dK (putK kk key G))):=mO g L (by trivial) ⟨_,⟨_,bC,p1,rfl⟩,p2.mono g C⟩;exact M _ _ (Z j) b _ _ C R4 (Is.mono g C _ _ J)
  ·rw[c]at d;cases d
theorem SI(ho:LE X o wo)(hi:LE X i wi):LS X (.Delete [.Subscript o i tpos] pos) (LM wo wi):=PS.imp (RF ho hi) λD σ H h=>by
 obtain⟨μ,d,mh,E,R,En,h,F⟩:=h;refine⟨μ,d,mh,_,R,En,h,λy f q g L M m p z=>?_⟩;refine⟨g,d,f,_,p,En.mono R m,q,λN j A b O k P2 R2 B=>?_⟩;obtain⟨n,kvs,key,rfl,e,rfl,r,q⟩:=A;obtain⟨a,vs,rfl,s,⟨kk,C,t,rfl⟩,l⟩:=gP R2 (Is.mono p P2 _ _ z) e;cases jK B;have u:aI b k b (upd k a (.dK (cC kk key))):=aI.set R2 s;obtain⟨G,I⟩:=DS key t l;have J:Rep X.K b (j.set n (.dic false (bM kvs (aN key)))) (upd k a (.dK (cC kk key))):=mO R2 s (by trivial) ⟨_,⟨_,bC,G,rfl⟩,I.mono R2 u⟩;have c:=(m.trans P2).trans u;refine⟨a,kk,key,rfl,C,rfl,?_,F.nx d _ q b σ _ c J (En.mono R c)⟩
 rcases jC key t l with ⟨v,x⟩ | ⟨d',w,v,x,P⟩
 ·rw[x]at r;cases r
 ·rw[v];rfl
@[simp] theorem aFh {c:d7}{mh:MH}{Q:DK}:GZ wo wi wx c mh Q=(wo c mh λo a=>∃n,o= .ref n/\(∃kvs,a[n]? =some (.dic false kvs))/\wi c a λi d=>wx c d λx b=>∃kvs key,b[n]? =some (.dic false kvs)/\i=aN key/\Q ((bF kvs i).getD x) b):=rfl
@[simp] theorem aFf {c:d7}{mh:MH}{Q:DK}:wY wo wi wx c mh Q↔wo c mh λo b=>∃n,o= .ref n/\(∃kvs,b[n]? =some (.dic false kvs))/\wi c b λi d=>wx c d λx a=>∃kvs key,a[n]? =some (.dic false kvs)/\i=aN key/\kvs.length<sizeLine/\
 (∀v,bF kvs i=some v->Q v a)/\(bF kvs i=none->Q x (a.set n (.dic false (putD kvs i x)))):=Iff.rfl
@[simp] theorem aFi {b:d7}{mh:MH}{E:d6}:LM wo wi E b mh=(wo b mh λo c=>wi b c λi a=>∃n kvs key,o= .ref n/\a[n]? =some (.dic false kvs)/\i=aN key/\(bF kvs i).isSome=true/\E.nx b (a.set n (.dic false (bM kvs i)))):=rfl
end
def aA4(K:aL1)(x:Str)(st:Stmt)(i:Int):Prop:=∃f oc od a b c n t ds kV doc pm an cd ct sl,PySem.W.nsIn K mainGlobals x=some (some (.ref f))/\
 K.lookup f=some ⟨oc,od,.func (PySem.W.fnOf x x (cQ st) (bX st) (aC st) (.ref a) kV doc pm an cd ct),sl⟩/\K.lookup a=some ⟨b,c,.seq #[.int i t] n,ds⟩/\PySem.W.codeIn K cd x=true/\PySem.W.keepIn K (.ref f)=true
variable{i:Int}
theorem aE3{K:aL1}{x:Str}{st:Stmt}{f b:Addr}{oc d:Value}{od an e:Option Addr}{sl ds:Array (Option Value)}{n:Nat}{t:Tok}{kV doc pm cd ct:Value}(a:PySem.W.nsIn K mainGlobals x=some (some (.ref f)))
  (l:K.lookup f=some ⟨oc,od,.func (PySem.W.fnOf x x (cQ st) (bX st) (aC st) (.ref b) kV doc pm an cd ct),sl⟩) (g:K.lookup b=some ⟨d,e,.seq #[.int i t] n,ds⟩) (c:PySem.W.codeIn K cd x=true) (k:PySem.W.keepIn K (.ref f)=true):aA4 K x st i:=⟨f,oc,od,b,d,e,n,t,ds,kV,doc,pm,an,cd,ct,sl,a,l,g,c,k⟩
def VB(x:Str)(st:Stmt)(ps:List Str):Prop:=∀(kV doc pm:Value) (an:Option Addr) (cdv ct:Value) (us:List Value) (d:Value) (s:Shared) (a:Addr) (o:Obj) (n:Nat),us.length+1=ps.length->s.heap.get? a=some o->o.data= .seq #[d] n->
 BindsTo s (PySem.W.fnOf x x (cQ st) (bX st) (aC st) (.ref a) kV doc pm an cdv ct) ⟨us,[]⟩ (ps.zip (us++[d]))
def FnD(P:Program)(w:World)(K:aL1)(mg:aL4)(base:Heap)(k:Nat)(x:Str)(ps:List Str)(i:Int)(s:OA):Prop:=
 ∃f fd t,iN P w K mg base A8 k f fd ps (LX K s)/\mg x=some (.ref f)/\PySem.W.keepIn K (.ref f)=true/\Binds K fd ps [.int i t]
variable{ps:List Str}
theorem FnD.mono{P:Program}{w:World}{K:aL1}{mg:aL4}{base:Heap}{j k:Nat}{x:Str}{s:OA}(h:FnD P w K mg base j x ps i s)(e:j<=k):FnD P w K mg base k x ps i s:=
 let ⟨f,fd,t,a,b,c,d⟩:=h;⟨f,fd,t,a.mono e,b,c,d⟩
def dfl(i:Int)(s:OA):OA:=λds mh Q=>s (ds++[.int i]) mh Q
section
variable {X:Cx}{e:Expr}{es:List Expr}{x:Str}{p pos:Pos}{wr:WA}
theorem NX{k:Nat}{s:OA}(F:FnD X.prog X.w X.K X.mg X.base k x ps i s)(n:fH k X.A)(ha:LA X (e::es) wr)(hg:Gl X x:=by rfl)(l:(x==("__debug__":Str))=false:=by decide)
  (he:starEach (e::es) X.env=(false,eval e X.env)::starEach es X.env:=by rfl) (m:(backTo pos (starEach es X.env)).any (·.1)=false:=by rfl):LE X (.Call (.Name x p) (e::es) [] pos) (aE (dfl i s) wr):=by
 obtain⟨f,fd,t,a,b,c,d⟩:=F;refine PE.imp (HD a n hg b c d (.cons (show RelV (.int i) (.int i t) from ⟨t,rfl⟩) .nil) UW ha l he m) λσ H Q h=>?_;obtain⟨μ,o,mh,R,q,E,h,r⟩:=h;refine⟨μ,o,mh,_,q,E,h,λds g u j vs v y z B=>?_⟩;exact⟨j,g,ds++[.int i],R,z,e8 B (mM (show Is X.K j v (.int i) (.int i) from .int)),(show s (ds++[.int i]) g R from u),r.at y⟩
end
section
variable {P:Program}{w:World}{K:aL1}{mg:aL4}{base:Heap}{h:Heap}
theorem ZK{x:Str}{st:Stmt}{N ps:List Str}{k:Nat}{s:OA}{wB:WS}(m:aA4 K x st i)(KX:K.In h)(G:h.Ns mainGlobals mg)(o:VB x st ps)(S:aV N ps (aC st))(hb:sM P w K mg base k x N st wB)(len:∀ds mh R,s ds mh R->ds.length=ps.length)
  (p:∀ds mh R,i7 mh->s ds mh R->wB {nx:=λ_ b=>Out mh.length .b9 b R,rt:=λd b=>Out mh.length d b R} (aG N ds) mh):FnD P w K mg base (k+1) x ps i s:=by
 obtain⟨f,oc,od,r,O,T,n,t,u,kV,doc,pm,an,cd,ct,sl,a,l,v,c,kp⟩:=m;refine⟨f,_,t,U7 l c S (λvs H Q E h=>?_) (λA outer y H vs Q E z h=>?_),aKw KX G a,kp,λs us B C=>o _ _ _ _ _ _ _ _ _ _ _ _ (by simpa using C) (B r _ v) rfl⟩
 ·obtain⟨μ,mh,ds,R,e,g,h,_⟩:=h;rw[aK g];exact len ds mh R h
 ·obtain⟨μ,mh,ds,R,e,g,h,D⟩:=h;refine⟨_,(hb f cd A outer y H E z).QA,μ,aG N ds,mh,_,e,BQ g,p ds mh R e.mok h,?_⟩;have j:=HE e D;exact⟨λF mh' q μ' I H' J L M =>j .b9 mh' q μ' .b9 H' J L .b9,j,λ_ _ q=>False.elim q,λ_ _ q=>False.elim q⟩
end
end D3
namespace ST
open PySem PySem.SetTable PySem.Spec
section
variable {prog:Program}{w:World}{K:Type}[DecidableEq K]{knd:KeyKind prog w K}{A:Around}{R:Result->Shared->Prop}{I:Addr}{fp wr:List Addr}{G:Array GenState->Array GenState->Prop}{n:Nat}{P:Nat->Value->Prop}{St:Nat->Shared->Prop}
theorem y8{l:Bool}(W:WalksS prog w A.in1 I fp wr G n P St)(S:Addr)(j:S∉fp)
  (xs:List K) (O:xs.length=n) (m:∀i v,P i v->∃k,xs[i]? =some k/\knd.is k v=true/\v.scannable=true) (hb:∀i,(bS [] (xs.take i)).length+1<scanBound):
  ∀(k i:Nat) (s:Shared),n-i=k->i<=n->St i s->gU knd l s.heap S (bS [] (xs.take i))->
   (∀a,Moved (S::wr) G s a ->gU knd l a.heap S (bS [] xs)->R (.ok (.ret .none)) a)->
   codeAny (model prog w) A (.builtin "set.update.loop" ⟨[.ref S,.ref I],[]⟩) R s:=by
 have p:S∉wr:=λh=>j (W.sub _ h);have c:∀b∈wr,b∈S::wr:=λb hb=>aGx _ hb;intro k
 induction k with
 | zero=>
  intro i s M hi f z B;have C:i=n:=by lia
  subst C;refine aI3 aJp ?_;rw[Around.under_plainId PyProof.Rows.F.plain_set_update_loop _];show wpAny _ A.in1 (pyNext (.ref I) >>=_) _ _ s;refine aGs (W.done s _ _ f λa q=>?_);show wpAny _ A.in1 (ret Value.none) _ _ a;refine aGu (B a (q.mono c) ?_);rw[List.take_of_length_le (by lia)]at z;exact z.keep λo e=>q.heap S _ p e
 | succ k ih=>
  intro i s M hi f z B;have r:i<n:=by lia
  refine aI3 aJp ?_;rw[Around.under_plainId PyProof.Rows.F.plain_set_update_loop _];show wpAny _ A.in1 (pyNext (.ref I) >>=_) _ _ s;refine aGs (W.item i s _ _ r f λv a N t q=>?_);obtain⟨key,D,d,hsc⟩:=m i v N;have E :gU knd l a.heap S (bS [] (xs.take i)):=z.keep λo e=>q.heap S _ p e;show wpAny _ A.in1 (holding [v] (setAdd S v) >>=_) _ _ a;refine aGs (aHo ?_);unfold setAdd;refine aHo ?_;refine aGs (knd.pyHash (k:=key) d ?_);have g:(bS [] (xs.take i)).length+1<scanBound:=hb i;refine KS (s:={a with toks:=a.toks+1}) d hsc E g λb h' u H=>?_
  have J:gU knd l h' S (bS [] (xs.take (i+1))):=by
   rw[List.take_add_one,D];simpa[bS] using H
  refine aGu ⟨aIn PyProof.Rows.F.plain_set_update_loop _,ih (i+1) _ (by lia) r (W.frame _ a _ _ t (aKt _) λb hb o e=>?_) J λL x y =>?_⟩
  ·rw[u.2 b (λh:b=S=>j (by rw[<-h];exact hb))];exact e
  ·refine B L (Moved.trans W.gtrans ((q.mono c).then_heap (aKt _) λb o hb e=>?_) x) y;rw[u.2 b (λh:b=S=>hb (by rw[h];exact List.mem_cons_self))];exact e
end
section
variable {prog:Program}{w:World}{K:Type}[DecidableEq K]{knd:KeyKind prog w K}{A:Around}{E:aL2}{s:Shared}
theorem IZ{l:Addr}{items:Array Value}{xs:List K}{Q:aL2}
  (hh:A.handled=none) (hl:s.heap.IsList l items) (hx:xs.length=items.size) (hi:∀(i:Nat) (v:Value),items[i]? =some v->∃k,xs[i]? =some k/\knd.is k v=true/\v.scannable=true) (hb:∀i,(bS [] (xs.take i)).length+1<scanBound)
  (h:∀(h' :Heap) (D:Nat),gU knd (iD w) h' s.heap.objs.size (bS [] xs)->
   (∀b o,b<s.heap.objs.size->s.heap.get? b=some o->h'.get? b=some o)->Q (.ref s.heap.objs.size) {s with heap:=h',toks:=D}):
  wpAny (model prog w) A (call (.type "set") [.ref l]) Q E s:=by
 obtain⟨c,tl,V⟩:=aJ5.mro;have H:=aJ5.made;have W:=aJ5.sub;refine wpAny_call (aKe ?_);show wpAny _ _ (callAny (.type "set") _) _ _ _;refine aGu ⟨Code.quiet_builtin _ (by decide+kernel),aI3 F.entry_type_call ?_⟩;rw[Around.under_plain (weight_type_call_type "set" [.ref l] []) rfl];have h1:=aJ5.notType;have h2:=aJ5.canCreate;have hct:=F.typeCall_set_1 (.ref l)
 repeat (any_goals (first | assumption | wp_step))
 refine aJk (NG (.ref l) (E:=E) (Q₁:=λobj f=>obj= .ref s.heap.objs.size/\f={s with heap:=s.heap.push {cls:= .type "set",dict:=none,data:= .set #[] 0 (.fresh 0 0 (iD w))}}) ⟨rfl,rfl⟩) λr f I=>?_
 cases r with
 | error e=>exact I
 | ok fl=>
  cases fl with
  | ret obj=>
   obtain⟨rfl,rfl⟩:=I;generalize n:iD w=led at*;have X:(s.heap.push {cls:= .type "set",dict:=none,data:= .set #[] 0 (.fresh 0 0 led)}).get? s.heap.objs.size=some {cls:= .type "set",dict:=none,data:= .set #[] 0 (.fresh 0 0 led)}:=aH0 _ rfl
   have hT:Shared.TypeIs {s with heap:=s.heap.push {cls:= .type "set",dict:=none,data:= .set #[] 0 (.fresh 0 0 led)}} (.ref s.heap.objs.size) "set":=⟨_,X,rfl⟩
   have hli:=aJ5.init.lookup;have hbi:=aJ5.init.bind (.ref s.heap.objs.size)
   repeat (any_goals (first | assumption | wp_step))
   refine aJk (codeAny_call_builtin (R:=wants (λr g=>r= .none/\∃h' D,g={s with heap:=h',toks:=D}/\
     gU knd led h' s.heap.objs.size (bS [] xs)/\
     (∀b o,b<s.heap.objs.size->s.heap.get? b=some o->h'.get? b=some o)) E) aJ5.init.plain F.entry_set_init (check_set_init_1 hT ?_)) λp g a=>?_
   ·obtain⟨ol,q,t,Y,u⟩:=hl;obtain⟨Z,j,J,d⟩:=ol;simp only at t u;subst t;subst u;have x :(s.heap.push {cls:= .type "set",dict:=none,data:= .set #[] 0 (.fresh 0 0 led)}).get? l=some {cls:= .type "list",dict:=j,data:= .seq items Y,slots:=d}:=aGv _ q;have hsls:=F.sub_list_set;have hslf:=F.sub_list_frozenset;have hne:(Value.type "list"==Value.type "dict")=false:=by decide
    have y:(s.heap.push {cls:= .type "set",dict:=none,data:= .set #[] 0 (.fresh 0 0 led)}).IsList l items:=⟨_,x,rfl,Y,rfl⟩
    unfold Builtin.«set.__init__» noKeywords Builtin.Frozenset.updateFrom;generalize L:pyIter=PI
    wp_walk
    subst L;refine wpAny_pyIter_list y ?_;refine aGs (wpAny_runValue ?_);have z:l<s.heap.objs.size:=aH4 q;have M:A.in1.in1.in1.handled=none:=by simp[hh]
    have B:l≠(s.heap.push {cls:= .type "set",dict:=none,data:= .set #[] 0 (.fresh 0 0 led)}).objs.size:=by
     rw[Heap.size_push];exact aHc (aI0 z)
    have N:s.heap.objs.size∉[(s.heap.push {cls:= .type "set",dict:=none,data:= .set #[] 0 (.fresh 0 0 led)}).objs.size,l]:=by
     rw[Heap.size_push];simp only[List.mem_cons,List.mem_singleton,List.not_mem_nil,or_false,not_or];exact⟨aHc (aIl _),aJj z⟩
    refine y8 (knd:=knd) (l:=led) ((Walks.list M _ l B items).toS) s.heap.objs.size
     N xs hx hi hb (items.size-0) 0 _ (by lia) (aI8 _)
     ⟨⟨_,aH0 _ rfl,rfl,rfl⟩,(y.push _)⟩ ?hS0 ?hR
    case hS0=>
     have C:((s.heap.push {cls:= .type "set",dict:=none,data:= .set #[] 0 (.fresh 0 0 led)}).push {cls:= .type "list_iterator",data:= .fields #[.ref l,.int 0 0]}).get? s.heap.objs.size
       =some {cls:= .type "set",dict:=none,data:= .set #[] 0 (.fresh 0 0 led)}:=aGv _ X
     subst n;exact vI C
    case hR=>
     intro s' G m;obtain⟨h',g',d',O,P⟩:=s';have eg:g' =s.gens:=G.gens;have ed:d' =s.drawn:=G.drawn;have eo:P =s.os:=G.os;subst eg;subst ed;subst eo;show wpAny _ _ _ _ _ _;refine aGu ?_;show wpAny _ _ (ret Value.none) _ _ _;refine aGu ⟨rfl,h',O,rfl,m,λb o hb e=>?_⟩;have S:b≠s.heap.objs.size:=aHc hb
     have T:b≠(s.heap.push {cls:= .type "set",dict:=none,data:= .set #[] 0 (.fresh 0 0 led)}).objs.size:=by
      rw[Heap.size_push];exact aHc (aI0 hb)
     exact G.heap b o (by simp only[List.mem_cons,List.mem_singleton,List.not_mem_nil,or_false,not_or];exact⟨S,T⟩) (aGv _ (aGv _ e))
   ·cases p with
    | error e=>exact a
    | ok fl₂=>
     cases fl₂ with
     | ret r=>
      obtain⟨rfl,h',D,rfl,m,U⟩:=a
      repeat (any_goals (first | assumption | wp_step))
      exact h _ _ m U
     | _=>exact a.elim
  | _=>exact I.elim
end
end ST
namespace D3
open PySem PySem.Spec PyProof.Rows L2
theorem HG{α:Type}[DecidableEq α]:∀(a ys:List α),a.Nodup->(∀x∈a,x∈ys)->a.length<=ys.length
 | [],ys,_,_=>by simp
 | x::a,ys,nd,h=>by
  have c:=aIi.mp nd;have:=HG a (ys.erase x) c.2 λy b=>(aKc (λz:y=x=>c.1 (by rw[<-z];exact b))).mpr (h y (aGx _ b));have e:=List.length_erase_of_mem (h x aGw);have l:=aK3 (h x aGw);simp only[List.length_cons]
  lia
theorem vX{ks ys:List Key}(h:∀k∈ks,k∈ys)(i:Nat):(ST.bS [] (ks.take i)).length<=ys.length:=
 HG _ _ (jF (by simp)) λk a=>h k (aIa (by rw[ST.n8]at a;simpa using a))
section
variable {X:Cx}
theorem KJ(c:X.calm=true):cU X (.type "set") (λxs H Q=>∃(a:Addr) (ks:List Key),xs=[.ref a]/\oI X.K H a (ks.map kV)/\(∀i,(ST.bS [] (ks.take i)).length+1<scanBound)/\∀p,H p=none->Q (.ref p) (upd H p (GH X.prog X.w p (ST.bS [] ks)))):=by
 intro pins s σ H xs us Q I r q;obtain⟨a,ks,rfl,sq,hb,q⟩:=q;obtain⟨u,rfl,d⟩:=vals1 r;cases d;obtain⟨aH,f,g,hz⟩:=I.list sq;obtain⟨j,k⟩:=w4 (P:=X.prog) (w:=X.w) f;refine ST.IZ (knd:=aS X.prog X.w) (I.ok.hd c) g.isList (xs:=ks) (by simpa using j) (λi v h=>k i v (by simpa using h)) hb λh' l m n=>?_;exact⟨.ref s.heap.objs.size,_,I.laid (a:=s.heap.objs.size) (o:=GH X.prog X.w s.heap.objs.size (ST.bS [] ks)) (t' :=l) (λb o e=>n b o (aH4 e) e) (aGy _) (G7 m),rfl,q _ (I.bO.fresh (aGy _))⟩
end
def h9(w:WE):WE:=λc mh Q=>w c mh λx b=>∃ks ys:List Key,mW b x=some (ks.map aN)/\(∀k∈ks,k∈ys)/\ys.length<4000/\K2 (ks.map aN)/\
 ∀a :List Key,(∀k,k∈a ↔k∈ks)->a.Nodup->a.length<=ys.length->(a.map aN).Pairwise (λd e=>lx (enc e) (enc d)=false)->Q (.ref b.length) (b++[.lst (a.map aN)])
@[simp] theorem Q1 (w:WE)(c:d7)(mh:MH)(Q:DK):h9 w c mh Q=(w c mh λx b=>∃ks ys:List Key,mW b x=some (ks.map aN)/\(∀k∈ks,k∈ys)/\ys.length<4000/\K2 (ks.map aN)/\
 ∀a :List Key,(∀k,k∈a ↔k∈ks)->a.Nodup->a.length<=ys.length->(a.map aN).Pairwise (λd e=>lx (enc e) (enc d)=false)->Q (.ref b.length) (b++[.lst (a.map aN)])):=rfl
section
variable {X:Cx}{e:Expr}{w:WE}{p1 p2 p3 pos:Pos}
theorem RL{te:TE}(c:X.calm=true)(d:X.mg "set"=none)(he:PE X e te)(hg:Gl X "set":=by rfl)
  (b:starEach [e] X.env=(false,eval e X.env)::starEach [] X.env:=by rfl):PE X (.Call (.Name "set" p2) [e] [] p3) (tCB (λxs H Q=>∃(a:Addr) (ks:List Key),xs=[.ref a]/\oI X.K H a (ks.map kV)/\(∀i,(ST.bS [] (ks.take i)).length+1<scanBound)/\∀p,H p=none->Q (.ref p) (upd H p (GH X.prog X.w p (ST.bS [] ks)))) (UP te aB4)):=
 xR (KJ c) hg d ZX (zK he E6 b) (by decide) (by decide) b rfl
theorem wD(x:X.A.units+64<cLine)(j:X.calm=true)(y:X.mg "set"=none)(n:X.mg "sorted"=none)(he:LE X e w)(hg:Gl X "set":=by rfl)(o:Gl X "sorted":=by rfl)
  (z:starEach [e] X.env=(false,eval e X.env)::starEach [] X.env:=by rfl)
  (m:starEach [.Call (.Name "set" p2) [e] [] p3] X.env=(false,eval (.Call (.Name "set" p2) [e] [] p3) X.env)::starEach [] X.env:=by rfl):
  LE X (.Call (.Name "sorted" p1) [.Call (.Name "set" p2) [e] [] p3] [] pos) (h9 w):=
 PE.imp (CB (vT x j) o n qS (zK (RL j y he hg z) E6 m) (by decide) (by decide) m rfl) λσ H Q h=>by
  obtain⟨μ,B,mh,R,C,E,h,F⟩:=h;refine⟨μ,B,mh,_,C,E,h,λdx D G I P S J r K=>?_⟩;obtain⟨ks,ys,L,f,M,U,q⟩:=G;obtain⟨a,vs,rfl,sq,l⟩:=u6 r K L;cases fZ l;have u:(ST.bS [] ks).length<=ys.length:=by have:=vX f ks.length;rwa [List.take_length]at this
  have b:∀k,k∈ST.bS [] ks↔k∈ks:=λk=>by rw[ST.n8];simp
  refine⟨a,ks,rfl,sq,λi=>by have:=vX f i;unfold scanBound;lia,λp v=>?_⟩;show ∃N g,[V.ref p]=[.ref N]/\_;refine⟨p,ST.bS [] ks,rfl,bC,by lia,?_,λg s pw=>?_⟩
  ·rcases U with ⟨c,j⟩ | ⟨c,O,j⟩
   ·exact .inl ⟨c,λd hd=>by obtain⟨k,t,rfl⟩:=aH5.mp hd;exact j _ (aH5.mpr ⟨k,(b k).mp t,rfl⟩)⟩
   ·exact .inr ⟨c,O,λd hd=>by obtain⟨k,t,rfl⟩:=aH5.mp hd;exact j _ (aH5.mpr ⟨k,(b k).mp t,rfl⟩)⟩
  ·exact iE (r.new v) (F.at (J.trans (aI.new r v))) (sY g) (q g (λk=>by rw[s.mem_iff,b]) (s.symm.nodup (jF (by simp))) (by have:=s.length_eq;lia) pw)
end
abbrev cF(P:Program)(W:World)(K:aL1)(mg:aL4)(base:Heap)(N:List Str)(q:Str)(S:Stmt)(f:Addr)(cd:Value)(A:Around)(o:List Env)(s:Shared)(H:Hp)(E:XK):Cx:=(vO A8 P W K mg base N q (aC S) f cd A o s H E).QA
section
variable {P:Program}{W:World}{K:aL1}{mg:aL4}{base:Heap}{N:List Str}{q:Str}{S:Stmt}{f:Addr}{cd:Value}{A:Around}{o:List Env}{s:Shared}{H:Hp}{E:XK}
 {tg iter elt:Expr} {ifs:List Expr} {scope:Scope} {pos:Pos} {wi:WI} {g:TG} {gd:WG} {t:WT} {w:WE} (own:List Str) (aO:List Nat)
def cN(N own:List Str)(aO:List Nat):List Str:=own++aO.map λi=>N.getD i ""
theorem YF(chk:mR N (aC S) scope aO=true)(nd:(cN N own aO).Nodup)(a:vZ K g gd)(ho:GK own.length g)
  (hi:LI (cF P W K mg base N q S f cd A o s H E) tg iter wi)
  (hg:(cN N own aO).Nodup->∀cl C fp s₀ H₀,PG (bV (cF P W K mg base N q S f cd A o s H E) own aO scope cl C fp s₀ H₀) tg g) (ht:∀cl C fp s₀ H₀,LTs (bV (cF P W K mg base N q S f cd A o s H E) own aO scope cl C fp s₀ H₀) ifs t)
  (he:∀cl C fp s₀ H₀,LE (bV (cF P W K mg base N q S f cd A o s H E) own aO scope cl C fp s₀ H₀) elt w)
  (b:∀x,foldedSetIterable iter (cF P W K mg base N q S f cd A o s H E).env x=pure x:=by intro _;rfl):LE (cF P W K mg base N q S f cd A o s H E) (.ListComp elt [⟨tg,iter,ifs,0⟩] scope pos) (GY own aO wi gd t w):=
 aCm (N:=N) (sc:=aC S) own aO rfl rfl chk rfl hi ho a (hg nd) ht he b
end
def nU:HO->Nat
 | .dK kk=>kk.length
 | .dT kk=>kk.length
 | _=>0
def P5:HO->Nat->Hp->V->Prop
 | .dK kk,i,_,x=>∃p,kk[i]? =some p/\x=kV p.1
 | .dT kk,i,H,x=>∃p b,kk[i]? =some p/\x= .ref b/\H b=some (.tup (p.1.map kV))
 | _,_,_,_=>False
def OF:HO->Prop
 | .dK _=>True
 | .dT _=>True
 | _=>False
def Itd(a:Addr)(ob:Obj):It where
 go:=λi H=>∃u,H a=some (.frz ob u)/\OF u/\i<nU u
 yld:=λi H x H' =>H' =H/\∃u,H a=some (.frz ob u)/\P5 u i H x
 stop:=λi H=>∃u,H a=some (.frz ob u)/\OF u/\nU u<=i
theorem N5{H:Hp}:∀{kk:List (List Key×V)} {xs:List (List Key×Addr×Value)} {i:Nat},KT H kk xs->i<kk.length->∃p q,kk[i]? =some p/\xs[i]? =some q/\H q.2.1=some (.tup (p.1.map kV))
 | _,_,_,.nil,h=>by simp at h
 | _,_,0,.cons r _,h=>⟨_,_,rfl,rfl,r.2.1⟩
 | _,_,i+1,.cons _ t,h=>by
  obtain⟨p,q,a,b,c⟩:=N5 (i:=i) t (by simpa using h);exact⟨p,q,by simpa using a,by simpa using b,c⟩
theorem N4{H:Hp}:∀{kk:List (List Key×V)} {xs:List (List Key×Addr×Value)},KT H kk xs->kk.length=xs.length
 | _,_,.nil=>rfl
 | _,_,.cons _ t=>by simp[N4 t]
variable{es:Array DictEntry}
theorem N6{P:Program}{w:World}{H:Hp}{h:Heap}{a:Addr}{ob:Obj}{ep:Nat}{u:HO}(m:OF u)(ok:cH P w H h a u)(ho:h.get? a=some ob)(hd:ob.data= .dict es ep):
  es.size=nU u/\∀i,i<nU u->∃e x,es[i]? =some e/\RelV x e.key/\P5 u i H x:=by
 cases u with
 | dK kk=>
  obtain⟨z,n,vs,r,o,f,g,b,s,c,j,k,D⟩:=ok;rw[ho]at b;cases b;rw[hd]at c;cases c;have V:=n5 k r;have d:=V.length;simp at d;refine⟨d.symm,λi hi=>?_⟩
  replace hi:i<kk.length:=hi
  obtain⟨y,l,t⟩:=V.get (i:=i) (x:=kV kk[i].1) (by simp[hi]);rw[List.getElem?_map,Option.map_eq_some_iff]at l;obtain⟨e,he,rfl⟩:=l;exact⟨e,_,by simpa using he,t,kk[i],by simp[hi],rfl⟩
 | dT kk=>
  obtain⟨z,n,xs,r,o,f,g,b,s,c,j,k⟩:=ok;rw[ho]at b;cases b;rw[hd]at c;cases c;have d:=aHu List.length j;simp at d;have v:=N4 r;refine⟨by rw[d];exact v.symm,λi hi=>?_⟩;obtain⟨p,q,A,B,C⟩:=N5 r hi;have:es.toList[i]? =some (entryOfKey (tupleKind (aS P w)) q):=by rw[j,List.getElem?_map,B];rfl
  exact⟨entryOfKey (tupleKind (aS P w)) q,.ref q.2.1,by simpa using this,rfl,p,q.2.1,A,rfl,C⟩
 | _=>exact m.elim
theorem LV{P:Program}{w:World}{K:aL1}{tg:Expr}(it a:Addr){ob:Obj}{ep:Nat}(C:ob.ExactDict)(hd:ob.data= .dict es ep):Turn P w K tg (Itd a ob) [it] it (λi h=>Heap.IsKeyIter h it a i es.size ep) where
 mem:=by simp
 obj:=λi h st b hb=>by
  have e:b=it:=by simpa using hb
  subst e;obtain⟨o,e,c,d⟩:=st;exact⟨o,e,λv z=>by rw[d]at z;cases z⟩
 keep:=λi h h' st k=>st.at λo e=>k it (by simp) o e
 item:=by
  intro X n p q D i pins s σ H E I l st hg;subst n p q;obtain⟨u,m,f,hi⟩:=hg
  obtain⟨g,r⟩:=(show s.heap.get? a=some ob/\cH X.prog X.w H s.heap a u from I.bO a _ m)
  obtain⟨e,x,F,G,J⟩:=(N6 f r g hd).2 i hi;obtain⟨f0,t,L,y,A,B⟩:=l it (by simp);refine B4 st ⟨ob,g,C,hd⟩ F λh' j sb=>?_;have M:Inv X pins σ H {s with heap:=h'}:=I.turned (t' :=s.toks) (λb o hb e=>(sb.2 b hb).trans e) f0 t y A B;obtain⟨o,e,c,d⟩:=id j;exact⟨_,rfl,HZ (s:={s with heap:=h'}) e c d (by decide) ⟨x,H,M,G,⟨rfl,u,m,J⟩,j,λb hb=>(l b hb).1⟩⟩
 done:=by
  intro X n p q D i pins s σ H E I l st hg;subst n p q;obtain⟨u,m,f,hi⟩:=hg
  obtain⟨g,r⟩:=(show s.heap.get? a=some ob/\cH X.prog X.w H s.heap a u from I.bO a _ m)
  have hz:=(N6 f r g hd).1;obtain⟨f0,t,L,y,A,B⟩:=l it (by simp)
  exact HA (I.ok.hd D) st ⟨ob,g,C,hd⟩ (by simp;lia) λh' N=>⟨rfl,I.turned (t' :=s.toks) (λb o hb e=>N b o hb e) f0 t y A B⟩
 self:=λ_ _ _ _ _ st h=>wpAny_pyIter_keyiter st h
theorem PC{K:aL1}{μ:List Addr}{mh:MH}{H:Hp}{n:Nat}{a:Addr}{o:MO}{ob:HO}(R:Rep K μ mh H)(h:μ[n]? =some a)(l:mD K μ (upd H a ob) o a):Rep K μ (mh.set n o) (upd H a ob):=by
 have P:aI μ H μ (upd H a ob):=aI.set R h;refine⟨by simp[R.len],R.nd,λm b f d e=>?_⟩;by_cases c:m=n
 ·subst c;rw[h]at d;cases d;have g:m<mh.length:=by rw[<-R.len];exact(aGt.mp h).1
  rw[List.getElem?_set_self g]at e;cases e;exact l
 ·rw[List.getElem?_set_ne (Ne.symm c)]at e;exact(R.obj m b f d e).mono R P (aL λz=>c (HH R.nd d (by rw[z];exact h)))
def BK(w:WE):WI:=λb mh Q=>w b mh λx a=>∃n t kvs,x= .ref n/\((a[n]? =some (.dic t kvs)/\∀ob,Q (kvs.map (·.1)) (λmh' =>mh'[n]? =some (.fdc t kvs ob)) (a.set n (.fdc t kvs ob)))\/
 ∃ob,a[n]? =some (.fdc t kvs ob)/\Q (kvs.map (·.1)) (λmh' =>mh'[n]? =some (.fdc t kvs ob)) a)
section
variable {K:aL1}{μ:List Addr}{mh:MH}{H:Hp}{n:Nat}{a:Addr}{t:Bool}{kvs:List (D×D)}{ob:Obj}
theorem p7{u:HO}{ks:List D}{vs:List V}(h:sC (some u) ks vs t):OF u/\nU u=ks.length:=by
 cases t with
 | false=>obtain⟨kk,e,rfl,_⟩:=h;cases e;exact⟨trivial,by simp[nU]⟩
 | true=>obtain⟨kk,e,rfl,_⟩:=h;cases e;exact⟨trivial,by simp[nU]⟩
theorem N7{u:HO}{ks:List D}{vs:List V}{i:Nat}{d:D}{x:V}(h:sC (some u) ks vs t)(hd:ks[i]? =some d)(k:P5 u i H x):Is K μ H d x:=by
 cases t with
 | false=>
  obtain⟨kk,e,rfl,_⟩:=h;cases e;obtain⟨p,a,rfl⟩:=k;rw[List.getElem?_map,a]at hd;cases hd;exact OC _
 | true=>
  obtain⟨kk,e,rfl,_⟩:=h;cases e;obtain⟨p,b,a,rfl,c⟩:=k;rw[List.getElem?_map,a]at hd;cases hd;unfold Is;exact⟨b,_,rfl,.inl c,sY _⟩
theorem Y0(p:μ[n]? =some a)(hz:kvs.length<=sizeLine):GJ K μ H (kvs.map (·.1)) (λmh' =>mh'[n]? =some (.fdc t kvs ob)) (Itd a ob):=by
 refine⟨by simpa using hz,λμ' mh' H' h c j i d e=>?_,λμ' mh' H' h c j=>?_⟩
 ·obtain⟨vs,u,f,g,l⟩:=c.obj n a _ (h.get p) j;obtain⟨m,o⟩:=p7 g;refine⟨⟨u,f,m,by rw[o];exact(aGt.mp e).1⟩,λx H'' y=>?_⟩;obtain⟨rfl,q,b,k⟩:=y;rw[f]at b;cases b;exact⟨aI.refl,c,N7 g e k⟩
 ·obtain⟨vs,u,f,g,l⟩:=c.obj n a _ (h.get p) j;obtain⟨m,o⟩:=p7 g;exact⟨u,f,m,by rw[o];exact aGy _⟩
theorem freeze{X:Cx}{pins:List (Addr×Obj)}{σ:L2.St}{s:Shared}{u:HO}(I:Inv X pins σ H s)(e:H a=some u)(j:OF u):
  ∃ob es ep,s.heap.get? a=some ob/\ob.ExactDict/\ob.data= .dict es ep/\(a==sysModules)=false/\Inv X pins σ (upd H a (.frz ob u)) s:=by
 have ok:=I.bO a u e
 obtain⟨ob,es,ep,c,g,h,i⟩:∃ob es ep,s.heap.get? a=some ob/\ob.ExactDict/\ob.data= .dict es ep/\(a==sysModules)=false:=by
  cases u with
  | dK kk=>obtain⟨z,i,vs,r,o,d,f,c,g,h,_⟩:=ok;exact⟨o,d,f,c,g,h,i⟩
  | dT kk=>obtain⟨z,i,xs,r,o,d,f,c,g,h,_⟩:=ok;exact⟨o,d,f,c,g,h,i⟩
  | _=>exact j.elim
 have k:K3 (H a):=by rw[e];cases u <;> first | exact j.elim | trivial
 refine⟨ob,es,ep,c,g,h,i,?_⟩;refine I.write (t' :=s.toks) (h' :=s.heap) k (.inl rfl) (λb u _ q=>q) ⟨ob,c⟩ ⟨c,?_⟩;refine ok.qI (λb u _ q=>q) (λb q=>?_) λb xs q=>?_
 ·rw[aL (λz=>by subst z;rw[e]at q;cases q;exact j)];exact q
 ·rw[aL (λz=>by subst z;rw[e]at q;cases q;exact j)];exact q
end
section
variable {X:Cx}{tg l:Expr}{w:WE}
theorem X7(W:LE X l w):LI X tg l (BK w):=by
 intro pins s σ H R I h;obtain⟨μ,Y,mh,Q,Z,En,h,F⟩:=h
 refine cJ (W pins s σ H (λv j=>∃c x f,aI μ H c j/\Rep X.K c f j/\Is X.K c j x v/\∃n t kvs,x= .ref n/\((f[n]? =some (.dic t kvs)/\∀ob,Q (kvs.map (·.1)) (λmh' =>mh'[n]? =some (.fdc t kvs ob)) (f.set n (.fdc t kvs ob)))\/
  ∃ob,f[n]? =some (.fdc t kvs ob)/\Q (kvs.map (·.1)) (λmh' =>mh'[n]? =some (.fdc t kvs ob)) f)) I ⟨μ,Y,mh,_,Z,En,h,λd f q c v j N y E=>⟨c,d,f,N,y,E,q⟩⟩) λv s1 zz=>?_
 obtain⟨x,j,E,r1,c,dx,f,N,y,ix,n,t,kvs,rfl,q⟩:=zz;obtain⟨a,J,rfl⟩:=jJ ix;cases r1
 have fin:∀{G:Hp} {B:MH} {ob:Obj} {es:Array DictEntry} {ep:Nat},Inv X pins σ G s1->aI μ H c G->Rep X.K c B G->s1.heap.get? a=some ob->ob.ExactDict->ob.data= .dict es ep->(a==sysModules)=false->kvs.length<=sizeLine->
   Q (kvs.map (·.1)) (λmh' =>mh'[n]? =some (.fdc t kvs ob)) B->wpAny (model X.prog X.w) X.A (pyIter (.ref a)) (PIE X pins σ tg R) X.xe s1:=λ{G B ob es ep} L P2 R2 k g i S hz q=>by
  refine B3 S ⟨ob,k,g,i⟩ ?_;refine⟨s1.heap.objs.size,[s1.heap.objs.size],_,_,G,rfl,L.kept (t' :=s1.toks) λb o e=>aGv _ e,LV _ a g i,⟨_,aH0 _ rfl,rfl,rfl⟩,λb hb=>?_,F _ _ _ q c _ G P2 R2 (Y0 J hz)⟩;have e:b=s1.heap.objs.size:=by simpa using hb
  subst e;exact L.J5 (aGy _) (L.bO.fresh (aGy _))
 rcases q with ⟨e,q⟩ | ⟨ob,e,q⟩
 ·obtain⟨vs,O,U⟩:=y.obj n a _ J e
  obtain⟨u,V,P⟩:∃u,j a=some u/\sC (some u) (kvs.map (·.1)) vs t:=by
   cases t with
   | false=>obtain⟨kk,z,r⟩:=O;exact⟨_,z,kk,rfl,r⟩
   | true=>obtain⟨kk,z,r⟩:=O;exact⟨_,z,kk,rfl,r⟩
  obtain⟨m,p⟩:=p7 P;obtain⟨ob,es,ep,k,g,i,S,L⟩:=freeze E V m
  have hz:kvs.length<=sizeLine:=by
   have ok:=E.bO a u V
   cases u with
   | dK kk=>
    obtain⟨z,_⟩:=ok;have:kk.length=kvs.length:=by simpa[nU] using p
    lia
   | dT kk=>
    obtain⟨z,_⟩:=ok;have:kk.length=kvs.length:=by simpa[nU] using p
    lia
   | _=>exact m.elim
  have P2:aI c j c (upd j a (.frz ob u)):=aI.set y J;exact fin L (N.trans P2) (PC (o:= .fdc t kvs ob) y J ⟨vs,u,bC,P,IsL.mono y P2 _ vs U⟩) k g i S hz (q ob)
 ·obtain⟨vs,u,O,P,U⟩:=y.obj n a _ J e;obtain⟨m,p⟩:=p7 P
  obtain⟨T,ok⟩:=(show s1.heap.get? a=some ob/\cH X.prog X.w j s1.heap a u from E.bO a _ O)
  obtain⟨es,ep,g,i,M,hz⟩:∃es ep,ob.ExactDict/\ob.data= .dict es ep/\(a==sysModules)=false/\nU u<=sizeLine:=by
   cases u with
   | dK kk=>obtain⟨z,M,vs,r,o,C,D,k,g,i,_⟩:=ok;rw[T]at k;cases k;exact⟨C,D,g,i,M,z⟩
   | dT kk=>obtain⟨z,M,xs,r,o,C,D,k,g,i,_⟩:=ok;rw[T]at k;cases k;exact⟨C,D,g,i,M,z⟩
   | _=>exact m.elim
  exact fin E N y T g i M (by rw[p]at hz;simpa using hz) q
end
def kOk:Bool->D->Prop
 | false,y=>∃key,y=aN key
 | true,y=>∃ks:List Key,y= .tup (ks.map aN)
def DV(mh:MH)(n:Nat)(t:Bool)(kvs:List (D×D)):Prop:=mh[n]? =some (.dic t kvs)\/∃ob,mh[n]? =some (.fdc t kvs ob)
theorem tT{K:aL1}{μ:List Addr}{H:Hp}(key:List Key):∀{kvs:List (D×D)} {kk:List (List Key×V)},kvs.map (·.1)=kk.map (λp=>.tup (p.1.map aN))->IsL K μ H (kvs.map (·.2)) (kk.map (·.2))->
  (gC kk key=none/\bF kvs (.tup (key.map aN))=none)\/∃d v,gC kk key=some v/\bF kvs (.tup (key.map aN))=some d/\Is K μ H d v
 | [],[],_,_=>.inl ⟨rfl,rfl⟩
 | [],_::_,h,_=>by simp at h
 | _::_,[],h,_=>by simp at h
 | p::kvs,q::kk,h,l=>by
  simp only[List.map_cons,List.cons.injEq]at h;simp only[List.map_cons]at l;unfold IsL at l;obtain⟨w,r,e,i,l⟩:=l;simp only[List.cons.injEq]at e;obtain⟨rfl,rfl⟩:=e;by_cases c:q.1=key
  ·right;have g:p.1= .tup (key.map aN):=by rw[h.1,c]
   exact⟨p.2,q.2,lE c,by simp[bF,g],i⟩
  ·have g:¬p.1= .tup (key.map aN):=λz=>c (by
    have:=h.1.symm.trans z;simp only[D.tup.injEq]at this
    exact(List.map_inj_right (f:=aN) λa b e=>iZ e).mp this)
   rw[lF c];simp only[bF,if_neg g];exact tT key h.2 l
section
variable {X:Cx}{pins:List (Addr×Obj)}{σ:L2.St}{H:Hp}{s:Shared}{a:Addr}
theorem TN{μ:List Addr}{mh:MH}{n:Nat}{t:Bool}{kvs:List (D×D)}{v:V}(R:Rep X.K μ mh H)(h:Is X.K μ H (.ref n) v)(e:DV mh n t kvs):∃a vs u,v= .ref a/\Rd H a u/\sC (some u) (kvs.map (·.1)) vs t/\IsL X.K μ H (kvs.map (·.2)) vs:=by
 obtain⟨a,q,rfl⟩:=jJ h;rcases e with e | ⟨ob,e⟩
 ·obtain⟨vs,b,l⟩:=R.obj n a _ q e
  cases t with
  | false=>obtain⟨kk,z,r⟩:=b;exact⟨a,vs,_,rfl,.inl z,⟨kk,rfl,r⟩,l⟩
  | true=>obtain⟨kk,z,r⟩:=b;exact⟨a,vs,_,rfl,.inl z,⟨kk,rfl,r⟩,l⟩
 ·obtain⟨vs,u,b,c,l⟩:=R.obj n a _ q e;exact⟨a,vs,u,rfl,.inr ⟨ob,b⟩,c,l⟩
theorem HR{b:Addr}{ks:List Key}(I:Inv X pins σ H s)(e:sL X.K H b (ks.map kV)):(tupleKind (aS X.prog X.w)).is s.heap ks b:=by
 obtain⟨aH,r,⟨o,a,c,n,d⟩,_⟩:=I.tuple e;exact⟨o,aH.toArray,n,a,c,d,by simpa using qM r⟩
def XI:O2:=λy x mh Q=>∃n t kvs,x= .ref n/\DV mh n t kvs/\kOk t y/\Q (.bl (bF kvs y).isSome) mh
theorem XG(J:X.A.units+64<cLine):eL X (compareOp .In) (bT X.K XI):=by
 intro pins s σ H y x u v Q I i B q;obtain⟨μ,mh,L,dx,R,f,j,C,⟨n,t,kvs,rfl,e,k,q⟩,F⟩:=q;obtain⟨a,vs,M,rfl,m,o,l⟩:=TN f C e;cases B
 cases t with
 | false=>
  obtain⟨kk,z,g,rfl⟩:=o;cases z;obtain⟨key,rfl⟩:=k;cases jK j;refine aGg (by lia) I (.inl ⟨kk,key,m,rfl,rfl⟩) i λN p =>?_
  rcases jC key g l with ⟨c,d⟩ | ⟨d',w,c,d,D⟩
  ·rw[c];rw[d]at q;exact⟨.bl false,H,p,rfl,F.here f q .bl⟩
  ·rw[c];rw[d]at q;exact⟨.bl true,H,p,rfl,F.here f q .bl⟩
 | true=>
  obtain⟨kk,z,g,rfl⟩:=o;cases z;obtain⟨ks,rfl⟩:=k;obtain⟨b,O,rfl,sq,E⟩:=dX j;cases fZ E;cases i;obtain⟨z,hd,xs,h,G⟩:=vN I.bO m;refine wpAny_in_heap (aIs (by lia)) (HR I sq) hd G ?_;have r:=(h.val ks).i0;rw[Option.isSome_map]at r;rw[<-r]
  rcases tT ks g l with ⟨c,d⟩ | ⟨d',w,c,d,D⟩
  ·rw[c];rw[d]at q;exact⟨.bl false,H,I.tok _,rfl,F.here f q .bl⟩
  ·rw[c];rw[d]at q;exact⟨.bl true,H,I.tok _,rfl,F.here f q .bl⟩
end
open PySem.Calls
theorem aDv{l:PySem.W.OpenLaw}{q:Program}{loose:List Str}{K:Params->aL1}{as:List Addr}{d:DefRec}{a:List (Str×Expr)}{N:Nat}(ok:l.wellSaid=true)(e:∀P,as=(K P).map (·.1))
  (left:PySem.W.LeftO l.prog q loose (λ_=>true) (λs=>as.map s.heap.get?) (λw=>(K w.params).map λp=>some p.2) N)
  (b:PySem.W.defOf q l.name=some (d,a)) (h:l.prog.theDef l.name=some (d.params,d.body,d.scope)) (i:PySem.W.kwWritten? d.params.kwonlyargs d.params.kw_defaults=some a)
  (g:(PySem.W.chainsOk q && PySem.W.opensWell l.prog && (PySem.W.frees l.row.toRowW && l.row.within.isEmpty))=true) (hb:l.prog.bare) (j:l.row.toRowW.promised)
  (call:PySem.W.WalkO q loose (λ_ _=>True) (PySem.W.InK K) l.row.toRowW d a λf vs=>PySem.call f vs):l.Holds:=
 PySem.W.holds_law ok λc=>PySem.W.holds_open (r:=l.row) (XP:=λ_ _=>True) left (PySem.W.InK.of e) PySem.W.InK.keeps (λ_ _=>trivial) (λ_ _ _ _ _=>trivial) b h i
  (λs _=>PySem.W.recFacts_of (R:=[]) rfl) (Bool.or_true _) c g hb j call
section
variable {P:Program}{W:World}{K:aL1}{mg:aL4}{base:Heap}{N:List Str}{q:Str}{S:Stmt}{f:Addr}{cd:Value}{A:Around}{o:List Env}{s:Shared}{H:Hp}{E:XK}
 {tg iter elt:Expr} {ifs:List Expr} {scope:Scope} {pos p1 p2:Pos} {wi:WI} {g:TG} {gd:WG} {t:WT} {w:WE} (own:List Str) (aO:List Nat)
end
variable {X:Cx}{pos:Pos}
theorem erase_filter{K a:Type}[DecidableEq K]:∀{xs:List (K×a)} {j:Nat} {k:K} {q:a},(xs.map (·.1)).Nodup->xs[j]? =some (k,q)->xs.filter (λx=>decide (x.1≠k))=xs.eraseIdx j
 | [],j,k,q,_,h=>by simp at h
 | x::xs,0,k,q,hn,h=>by
  simp at h;subst h;simp only[List.map_cons,List.nodup_cons]at hn;simp only[List.eraseIdx_zero,List.tail_cons];rw[List.filter_cons_of_neg (by simp)];refine List.filter_eq_self.mpr λy b=>?_;simp only[decide_eq_true_eq];exact λz=>hn.1 (z▸aH8 b)
 | x::xs,j+1,k,q,hn,h=>by
  simp only[List.map_cons,List.nodup_cons]at hn;simp at h;have c:x.1≠k:=λz=>hn.1 (z▸aH8 (f:=(·.1)) (aH1 h));rw[List.filter_cons_of_pos (by simpa using c),List.eraseIdx_cons_succ,erase_filter hn.2 h]
theorem xV{α a:Type}(f:α->a):∀(l:List α) (j:Nat),(l.map f).eraseIdx j=(l.eraseIdx j).map f
 | [],j=>by simp
 | x::l,0=>by simp
 | x::l,j+1=>by simp[xV f l j]
section
variable {prog:Program}{w:World}{K:Type}[DecidableEq K]{knd:HeapKind prog w K}{A:Around}{E:aL2}{s:Shared}{d a:Addr}{k:K}{xs:List (K×Addr×Value)}{p:Addr×Value}
theorem zA{Q:Option DictEntry->Shared->Prop}(m:knd.room A)(b:knd.is s.heap k a)(t:s.heap.DictOfH knd d xs)(h:atKey xs k=some p)(hsz:xs.length<=sizeLine)
  (u:∀e h',e.val=p.2->h'.DictOfH knd d (xs.filter λx=>decide (x.1≠k))->Heap.SameBut d s.heap h' ->Q (some e) {s with heap:=h',toks:=s.toks+knd.draws k}):wpAny (model prog w) A (Builtin.Dict.takeOut d (.ref a)) Q E s:=by
 obtain⟨o,es,ep,ho,v,hd,he,c,f⟩:=t;unfold Builtin.Dict.takeOut
 try with_reducible refine aHo ?_
 refine aGs (knd.pyHash m b ?_);refine aGs (wpAny_dictFind_heap (s:={s with toks:=s.toks+knd.draws k}) m b ho hd he c f ?_ ?_)
 ·intro i;rw[atKey_none_of_get i]at h;cases h
 ·intro j q g;have n:=atKey_of_get f g;rw[h]at n;cases n;refine aGs (aJd (s:={s with toks:=s.toks+knd.draws k}) ho hd ?_);rw[entry_at he j,g]
  refine aGs (wpAny_updateDictKeys (hz:=by have e:=size_of_entries he;lia) (s:={s with toks:=s.toks+knd.draws k}) ho hd (aGu (u _ _ rfl ⟨_,_,ep+1,aHs _ ho (Obj.isFreed_of_dict (Obj.data_mapDictKeys hd _)),
   v.mapDictKeys _,Obj.data_mapDictKeys hd _,?_,λx y=>knd.keeps (c x (aIx.mp y).1) ho hd (aHt ..),?_⟩ (aHt ..))))
  ·rw[erase_filter f g];have r:j<es.size:=by rw[size_of_entries he];exact(aGt.mp g).1
   obtain⟨l⟩:=es;simp at he r;simp only[Array.eraseIdxIfInBounds,List.size_toArray,r,dif_pos,dite_true];subst he;simp[xV]
  ·exact List.Nodup.sublist (List.Sublist.map _ List.filter_sublist) f
theorem sH:MeetsIn prog w (Builtin.«dict.pop» ⟨[.ref d,.ref a],[]⟩) (λA R s=>knd.room A.in1/\∃k xs p,knd.is s.heap k a/\s.heap.DictOfH knd d xs/\xs.length<=sizeLine/\atKey xs k=some p/\
   ∀h',h'.DictOfH knd d (xs.filter λx=>decide (x.1≠k))->Heap.SameBut d s.heap h' ->R (.ok (.ret p.2)) {s with heap:=h',toks:=s.toks+knd.draws k}):=
 .of_wp λA R s ⟨i,k,xs,p,b,c,hsz,g,h⟩=>by
  unfold Builtin.«dict.pop»;refine aGs ?_;unfold Builtin.Dict.keyAndDefault;refine aGs (wpAny_notOrdered_dict c.typeIs ?_);show wpAny _ _ (pure (d,Value.ref a,none)) _ _ s;refine aGu ?_;obtain⟨o,es,ep,ho,n,hd,he,j,q⟩:=id c
  have ne:es.isEmpty=false:=by
   cases xs with
   | nil=>simp[atKey]at g
   | cons x xs=>
    have:=size_of_entries he;simp[Array.isEmpty]at this⊢;intro z;rw[z]at this;simp at this
  simp only[show (keyPart (Value.ref a)).isSome=false from rfl,Bool.false_eq_true,if_false];refine aGs (aJd ho hd ?_);refine aGs (aGu ?_);simp only[ne,Bool.false_eq_true,if_false];refine aGs (zA i b c g hsz λe h' l f m=>?_);simp only[Option.isNone_some,Bool.false_eq_true,if_false];exact aGs (wpAny_letGo (aGu ⟨e.val,rfl,by rw[l];exact h h' f m⟩))
end
variable{kvs:List (List Key×V)}
theorem UE{H:Hp}{xs:List (List Key×Addr×Value)}(r:KT H kvs xs)(k:List Key):KT H (cC kvs k) (xs.filter λx=>decide (x.1≠k)):=by
 induction r with
 | nil=>exact .nil
 | @cons p q ps qs hq t ih=>
  unfold cC at ih⊢;by_cases c:p.1=k
  ·rw[List.filter_cons_of_neg (by simp[c]),List.filter_cons_of_neg (by simp[<-hq.1,c])];exact ih
  ·rw[List.filter_cons_of_pos (by simpa using c),List.filter_cons_of_pos (by rw[<-hq.1];simpa using c)];exact .cons hq ih
section
variable {X:Cx}{pins:List (Addr×Obj)}{σ:L2.St}{H:Hp}{s:Shared}{a b:Addr}{A:Around}{E:aL2}
theorem ZO{k:List Key}{v:V}{Q:aL2}(u:A.units+1<cLine)(I:L2.Inv X pins σ H s)(e:H a=some (.dT kvs))(x:(tupleKind (aS X.prog X.w)).is s.heap k b)(l:gC kvs k=some v)
  (h:∀g m,L2.Inv X pins σ (upd H a (.dT (cC kvs k))) m ->RelV v g ->Q g m):wpAny (model X.prog X.w) A (call (.builtin "dict.pop") [.ref a,.ref b]) Q E s:=by
 obtain⟨z,hd,xs,f,n⟩:=O7 I.bO e;obtain⟨g,y,i⟩:=qV.some_of (v:=v) (o:=(atKey xs k).map (·.2)) (by rw[<-l];exact f.val k);obtain⟨p,B,rfl⟩:=aHr.mp y;refine aKm PySem.F.slot_dict_pop n.typeIs PySem.F.entry_dict_pop (PySem.F.args_dict_pop_2 _ _) (sH (knd:=tupleKind (aS X.prog X.w)) (d:=a) (a:=b)) ⟨aIs u,k,xs,p,x,n,by rw[<-Paired.length f];exact z,B,λh' j C=>h _ _ ?_ i⟩;obtain⟨q,es,ep,r,D,G,J,_,K⟩:=j;refine p8 I (by rw[e];exact True.intro) C ⟨q,r⟩ ⟨aHm (DT kvs k) z,hd,_,(UE f k).keeps λc ys t=>?_,q,es,ep,r,D,G,J,K⟩;rw[aL (UY t e (λz=>nomatch z))];exact t
end
theorem yG{κ:Type}[DecidableEq κ]{f:κ->D}(k:∀{a b},f a=f b->a=b){K:aL1}{μ:List Addr}{H:Hp}(key:κ):∀{kvs:List (D×D)} {kk:List (κ×V)},kvs.map (·.1)=kk.map (λp=>f p.1)->IsL K μ H (kvs.map (·.2)) (kk.map (·.2))->
  (bM kvs (f key)).map (·.1)=(cC kk key).map (λp=>f p.1)/\IsL K μ H ((bM kvs (f key)).map (·.2)) ((cC kk key).map (·.2))
 | [],[],_,_=>⟨rfl,by simp[bM,cC,IsL]⟩
 | [],_::_,h,_=>by simp at h
 | _::_,[],h,_=>by simp at h
 | p::kvs,q::kk,h,l=>by
  simp only[List.map_cons,List.cons.injEq]at h;simp only[List.map_cons]at l;unfold IsL at l;obtain⟨w,r,e,i,l⟩:=l;simp only[List.cons.injEq]at e;obtain⟨rfl,rfl⟩:=e;obtain⟨m,n⟩:=yG k key h.2 l;by_cases c:q.1=key
  ·have d:p.1=f key:=by rw[h.1,c]
   have g:bM (p::kvs) (f key)=bM kvs (f key):=by unfold bM;rw[List.filter_cons_of_neg (by simp[d])]
   have j:cC (q::kk) key=cC kk key:=by unfold cC;rw[List.filter_cons_of_neg (by simp[c])]
   rw[g,j];exact⟨m,n⟩
  ·have d:p.1≠f key:=λz=>c (k (h.1.symm.trans z));have g:bM (p::kvs) (f key)=p::bM kvs (f key):=by unfold bM;rw[List.filter_cons_of_pos (by simp[d])]
   have j:cC (q::kk) key=q::cC kk key:=by unfold cC;rw[List.filter_cons_of_pos (by simp[c])]
   rw[g,j];refine⟨by simp only[List.map_cons,h.1,m],?_⟩;simp only[List.map_cons];unfold IsL;exact⟨_,_,rfl,i,n⟩
section
variable {X:Cx}{o i:Expr}{apos cD:Pos}{wo wi:WE}
def EL(wo wi:WE):WE:=λc mh Q=>wo c mh λo a=>∃n,o= .ref n/\(∃kvs,a[n]? =some (.dic true kvs))/\wi c a λk b=>∃(kvs:List (D×D)) (ks:List Key) (d:D),b[n]? =some (.dic true kvs)/\k= .tup (ks.map aN)/\bF kvs k=some d/\Q d (b.set n (.dic true (bM kvs k)))
theorem MR{g ty:TE}(p:X.A.units+1<cLine)(ho:PE X o g)(he:PE X i ty)(m:M1 X o "pop" apos i cD):PE X (.Call (.Attribute o "pop" apos) [i] [] cD)
  (λσ H Q=>g σ H λx c=>∃a,x= .ref a/\IsD c a/\ty σ c λy e=>∃kvs k b v,e a=some (.dT kvs)/\y= .ref b/\sL X.K e b (k.map kV)/\gC kvs k=some v/\Q v (upd e a (.dT (cC kvs k)))):=by
 intro pins s σ H Q I h;refine wpAny_Call_method m.base m.FZ m.line aJv PySem.F.slot_dict_pop PySem.F.type_dict_pop (cJ (ho pins s σ H _ I h) λu s1 q=>?_);obtain⟨x,c,j,r,a,ex,d,t⟩:=q;subst ex;obtain rfl:u=Value.ref a:=r;obtain⟨w,z,_⟩:=FR j d;refine⟨w,z,?_⟩;rw[m.trees];refine aJ3 rfl (aJe (aIk (cJ (he pins s1 σ c _ j t) λB s2 ⟨y,e,n,C,kvs,k,b,v,D,E,sb,l,G⟩=>aJb ?_)));subst E;cases (show B=Value.ref b from C)
 exact ZO p n D (HR n sb) l λL M J f =>⟨v,_,J,f,G⟩
theorem NV(hu:X.A.units+64<cLine)(ho:LE X o wo)(hi:LE X i wi)(base:attributeBase o "pop" X.env (eval o X.env)=eval o X.env:=by rfl)
  (FZ:((backTo cD (starEach [i] X.env)).all (λx=>!x.1) && (backToKw cD (keywordEach [] X.env)).all (λx=>x.1.isSome) && decide (([i]:List Expr).length+([]:List Keyword).length+(if ([]:List Keyword).isEmpty then 0 else 1)<30))=true:=by rfl)
  (line:(apos.endLine==cD.line)=true:=by rfl) (trees:backTo cD (starEach [i] X.env)=[(false,eval i X.env)]:=by rfl):
  LE X (.Call (.Attribute o "pop" apos) [i] [] cD) (EL wo wi):=PE.imp (MR (by lia) ho hi ⟨base,FZ,line,trees⟩) λσ H Q h=>by
 obtain⟨μ,v,mh,R,y,En,h,F⟩:=h;refine⟨μ,v,mh,_,y,En,h,λJ g q j vo H1 z k B=>?_⟩;obtain⟨n,rfl,⟨C,L⟩,q⟩:=q;obtain⟨a,M,rfl,_,⟨m,p,_,_⟩,_⟩:=gP k B L;refine⟨a,rfl,.inr ⟨m,.inl p⟩,j,v,g,_,k,En.mono y z,q,λdi r N c vi s P2 R2 O=>?_⟩;obtain⟨kvs,ks,d,e,rfl,hd,q⟩:=N;obtain⟨a',vs,P,E,⟨kk,S,G,rfl⟩,l⟩:=gP R2 (Is.mono k P2 _ _ B) e;cases P;obtain⟨b,ys,rfl,sq,T⟩:=dX O;cases fZ T;have U:=F.at (z.trans P2)
 rcases tT ks G l with ⟨I,t⟩ | ⟨d',w,I,t,V⟩
 ·rw[t]at hd;cases hd
 ·rw[t]at hd;cases hd;have u:aI c s c (upd s a (.dT (cC kk ks))):=aI.set R2 E;obtain⟨W,Y⟩:=yG (f:=λks:List Key=>D3.D.tup (ks.map aN)) vA ks G l;have Z:Rep X.K c (r.set n (.dic true (bM kvs (.tup (ks.map aN))))) (upd s a (.dT (cC kk ks))):=mO R2 E (by trivial) ⟨_,⟨_,bC,W,rfl⟩,Y.mono R2 u⟩;exact⟨kk,ks,b,w,S,rfl,sq,I,U _ _ q c _ _ u Z (Is.mono R2 u _ _ V)⟩
end
def noT(o:Obj):Bool:=match o.data with | .seq aH _=>decide (aH.size<2) | _=>true
def NoT(K:aL1):Prop:=∀a o,K.lookup a=some o->noT o=true
theorem XN:∀{K:aL1},(K.all λp=>noT p.2)=true->NoT K
 | [],_,a,o,e=>by cases e
 | (b,u)::K,h,a,o,e=>by
  simp only[List.all_cons,Bool.and_eq_true]at h;rw[List.lookup_cons]at e;split at e
  ·cases e;exact h.1
  ·exact XN h.2 a o e
theorem KY.own{K:aL1}{H:Hp}{a:Addr}{xs:List V}(nt:NoT K)(h:KY K H a xs)(b:2<=xs.length):H a=some (.tup xs):=by
 rcases h with h | ⟨o,aH,n,e,_,_,c,_,r⟩
 ·exact h
 ·have:=nt a o e;have:=r.length;simp_all[noT]
  lia
def aBr(o k d:D)(mh:MH)(Q:MH->Prop):Prop:=∃n kvs,∃ks:List Key,o= .ref n/\mh[n]? =some (.dic true kvs)/\k= .tup (ks.map aN)/\2<=ks.length/\kvs.length<sizeLine/\Q (mh.set n (.dic true (putD kvs k d)))
def LK(w g wi:WE):WS:=λE a mh=>w a mh λd b=>g a b λo c=>wi a c λi e=>aBr o i d e λf=>E.nx a f
section
variable {X:Cx}{pos pos' tpos:Pos}{o i e:Expr}{es:List Expr}{w wo wi:WE}{wa:WA}
theorem SE(nt:NoT X.K)(hu:X.A.units+64<cLine)(he:LE X e w)(ho:LE X o wo)(hi:LE X i wi)(J:swapsWith e (some (.Subscript o i pos')) pos.line X.env=pure false:=by rfl):LS X (.Assign [.Subscript o i pos'] e pos) (LK w wo wi):=
 PS.imp (zH (by lia) ho hi he J) λD σ H h=>by
  obtain⟨μ,j,mh,E,R,En,h,F⟩:=h;refine⟨μ,j,mh,_,R,En,h,λd m q p v H1 r B L=>?_⟩;refine⟨p,j,m,_,B,En.mono R r,q,λM s N u vo H2 P2 R2 O=>?_⟩;refine⟨u,j,s,_,R2,En.mono R (r.trans P2),N,λdi x P c vi y z k Q=>?_⟩;obtain⟨n,kvs,keys,rfl,S,rfl,T,hz,U⟩:=P;obtain⟨a,vs,rfl,C,⟨kk,V,G,rfl⟩,l⟩:=gP k (Is.mono R2 z _ _ O) S;obtain⟨b,ys,rfl,sq,W⟩:=zZ Q;cases fZ W;have Y:=Is.mono B (P2.trans z) d v L;have I:aI c y c (upd y a (.dT (putK kk keys v))):=aI.set k C;have ln:kk.length=kvs.length:=by have:=aHu List.length G;simp at this;lia
  obtain⟨Z,p2⟩:=sU (f:=λks:List Key=>D3.D.tup (ks.map aN)) vA keys Y G l;have R4:Rep X.K c (x.set n (.dic true (putD kvs (.tup (keys.map aN)) d))) (upd y a (.dT (putK kk keys v))):=mO k C (by trivial) ⟨_,⟨_,bC,Z,rfl⟩,p2.mono k I⟩;have g:=((r.trans P2).trans z).trans I;exact⟨a,_,rfl,.t V (sq.own nt (by simpa using T)) (by lia),F.nx j _ U c σ _ g R4 (En.mono R g)⟩
end
end D3
namespace LR
open PySem PyProof.Rows L2 D3
def jW(a:OA):WS:=(c5 (aT fI (aB 2) (aE a (aA (aB 0) (aA (aE fX (aA (aB 2) aD)) aD)))))
def jX(a:OA):WS:=(aW (fK (dR (aT oEq (aB 1) (wC (.int 2)))) (c5 (aT n6 (aE a (aA (aB 0) (aA (aT cO (aT gX (wC (.int 2)) (wC (.int 1048576))) (wC (.int 1))) aD))) (wC (.int 1048576)))) dE) (jW a))
def jY(a:OA):WS:=(aW (fK (dR (aT oEq (aB 1) (wC (.int 1)))) (c5 (aT n6 (aE a (aA (aB 0) (aA (wC (.int 401)) aD))) (wC (.int 200)))) dE) (jX a))
def eW(a:OA):WS:=(aW (fK (dR (aT oEq (aB 1) (wC (.int 0)))) (c5 (aT n6 (aE a (aA (aB 0) (aA (wC (.int 13)) aD))) (wC (.int 6)))) dE) (jY a))
def m9(a:OA):WS:=(c5 (eP (aA (aE r9 (aA (aB 3) (aA (aB 4) aD))) (aA (aE EC (aA (aB 3) (aA (aB 4) aD))) aD))))
def nA(a:OA):WS:=(aW (fK (dR (aT oEq (aB 3) (aB 4))) (c5 (wIf (dR (aT oEq (aB 3) (wC (.int 1048576)))) (eP (aA (aT n6 (aB 3) (wC (.int 1))) (aA (aB 3) aD))) (eP (aA (aB 3) (aA (aT cO (aB 3) (wC (.int 1))) aD))))) dE) (m9 a))
def nB(a:OA):WS:=(aW (bZ (aE a (aA (aB 0) (aA (aB 1) (aA (aB 2) aD)))) (gN 4)) (nA a))
def g8(a:OA):WS:=(aW (bZ (aE a (aA (aB 0) (aA (aB 1) (aA (aB 2) aD)))) (gN 3)) (nB a))
def g9(a b:OA):WS:=(fB (EF "list" cP (aB 5) (aA (eP (aA (aB 7) (aA (aB 9) (aA (aB 8) (aA (aB 10) aD))))) aD)))
def hC(b a:OA):WS:=(aW (bZ (aE a (aA (aB 0) (aA (aB 2) (aA (aB 4) aD)))) (gT 2 (aQ (gN 9) (aQ (gN 10) dZ)))) (g9 b a))
def jV(b a:OA):WS:=(aW (bZ (aE a (aA (aB 0) (aA (aB 2) (aA (aB 4) aD)))) (gT 2 (aQ (gN 7) (aQ (gN 8) dZ)))) (hC b a))
def kO(a b:OA):WS:=(c5 (aB 5))
def kP(a b:OA):WS:=(aW (gB (iS (aA (aB 3) aD)) (gN 6) (jV a b)) (kO a b))
def kR(a b:OA):WS:=(aW (bZ (kB aD) (gN 5)) (kP a b))
def kS(a b:OA):WS:=(aW (bZ (aT cO (GY ["_law_k"] [0] (iS (aA (wC (.int 4)) aD)) (gN 0) lC (aT n6 (aE a (aA (aB 1) (aA (wC (.int 2097153)) aD))) (wC (.int 1048576)))) (kB (aA (A7 kG (wC (.int 1048576))) (aA (wC (.int 1048576)) (aA (wC (.int 0)) (aA (wC (.int 1)) aD)))))) (gN 4)) (kR a b))
def kT(a b:OA):WS:=(aW (bZ (aE a (aA (aB 0) (aA (aT fI (kB (aA (aT cO (aB 1) (wC (.int 1))) (aA (wC (.int 13)) (aA (wC (.int 13)) (aA (wC (.int 7)) aD))))) (aE a (aA (aB 0) (aA (wC (.int 4)) aD)))) aD))) (gN 3)) (kS a b))
def fR(a b:OA):WS:=(aW (bZ (aE a (aA (aB 0) (aA (wC (.int 4)) aD))) (gN 2)) (kT a b))
def kY:WS:=(fK (QQ (dR (aT oEq (aE fX (aA (aB 1) aD)) (wC (.int 0)))) (dR (aT P9 (aB 2) (aT fI (aT fI (aB 1) (A7 kG (wC (.int 1)))) (wC (.int 1)))))) (fB (EF "list" cP (aB 1) (aA (eP (aA (aB 2) (aA (aB 3) aD))) aD))) (fK (dR (aT P9 (aB 3) (aT fI (aT fI (aB 1) (A7 kG (wC (.int 1)))) (wC (.int 1))))) (rF (eP (aA (aT fI (aT fI (aB 1) (A7 kG (wC (.int 1)))) (wC (.int 0))) (aA (aB 3) aD))) (aB 1) (A7 kG (wC (.int 1)))) dE))
def nE:WS:=(c5 (aE oG (aA (aB 1) aD)))
def nF:WS:=(aW (gB (cZ (aE IM (aA (aB 0) aD))) (gT 2 (aQ (gN 2) (aQ (gN 3) dZ))) (kY)) (nE))
def hJ:WS:=(aW (bZ (kB aD) (gN 1)) (nF))
def dQ(a:OA):WS:=(fK (rH (dR (aT P9 (aE fX (aA (aB 5) aD)) (wC (.int 0)))) (rH (dR (aT P9 (aE fX (aA (aB 2) aD)) (wC (.int 0)))) (rH (dR (aT oEq (aT fI (aT fI (aB 2) (A7 kG (wC (.int 1)))) (wC (.int 1))) (aB 3))) (dR (aT oEq (aT fI (aT fI (aB 2) (A7 kG (wC (.int 1)))) (wC (.int 2))) (aB 5)))))) (rF (eP (aA (aT fI (aT fI (aB 2) (A7 kG (wC (.int 1)))) (wC (.int 0))) (aA (aB 4) (aA (aB 5) aD)))) (aB 2) (A7 kG (wC (.int 1)))) (fK (dR (aT P9 (aE fX (aA (aB 5) aD)) (wC (.int 0)))) (fB (EF "list" cP (aB 2) (aA (eP (aA (aB 3) (aA (aB 4) (aA (aB 5) aD)))) aD))) dE))
def eO(a:OA):WS:=(aW (bZ (aE a (aA (GY ["_law_rect"] [3,4] (cZ (aB 0)) (gN 0) (rH (dR (aT oLe (aT fI (aB 0) (wC (.int 1))) (aB 1))) (dR (aT oGe (aT fI (aB 0) (wC (.int 3))) (aB 2)))) (eP (aA (aT fI (aB 0) (wC (.int 0))) (aA (aT fI (aB 0) (wC (.int 2))) aD)))) aD)) (gN 5)) (dQ a))
def jS(a:OA):WS:=(c5 (aE oG (aA (aB 2) aD)))
def jT(a:OA):WS:=(aW (gB (BJ (aA (aB 1) (aA (wSl oSl (aB 1) (rG (wC (.int 1))) VH) aD))) (gT 2 (aQ (gN 3) (aQ (gN 4) dZ))) (eO a)) (jS a))
def jU(a:OA):WS:=(aW (bZ (kB aD) (gN 2)) (jT a))
abbrev P2:=Int×Int
structure R4 where
 x0:Int
 y0:Int
 x1:Int
 y1:Int
structure Bd where
 lo:Int
 hi:Int
 ln:List P2
def sD(s:P2):D:= .tup [.int s.1,.int s.2]
def rD(r:R4):D:= .tup [.int r.x0,.int r.y0,.int r.x1,.int r.y1]
def iC(l:List P2):D:= .tup (l.map sD)
def bD(b:Bd):D:= .tup [.int b.lo,.int b.hi,iC b.ln]
def gD(g:List Bd):D:= .tup (g.map bD)
def zL(a b:P2):Bool:=decide (a.1<b.1\/(a.1=b.1/\a.2<=b.2))
def gW(l:List P2):List P2:=l.mergeSort zL
def aZ(f:List P2)(s:P2):List P2:=match f.getLast? with
 | none=>[s]
 | some t=>if t.2<s.1 then f++[s] else if t.2<s.2 then f.dropLast++[(t.1,s.2)] else f
def b6(l:List P2):List P2:=(gW l).foldl aZ []
def qO(x:Int):List Int->List Int
 | []=>[x]
 | y::l=>if x<y then x::y::l else if x=y then y::l else y::qO x l
def lH(l:List Int):List Int:=l.foldr qO []
def aX(rs:List R4)(lo hi:Int):List P2:=(rs.filter λr=>decide (r.y0<=lo) && decide (hi<=r.y1)).map λr=>(r.x0,r.x1)
def bB(rs:List R4)(f:List Bd)(p:P2):List Bd:=
 if b6 (aX rs p.1 p.2)=[] then f else match f.getLast? with
  | none=>[⟨p.1,p.2,b6 (aX rs p.1 p.2)⟩]
  | some b=>if b.hi=p.1/\b.ln=b6 (aX rs p.1 p.2) then f.dropLast++[⟨b.lo,p.2,b6 (aX rs p.1 p.2)⟩] else f++[⟨p.1,p.2,b6 (aX rs p.1 p.2)⟩]
def cV(rs:List R4):List Int:=lH (rs.map (·.y0)++rs.map (·.y1))
def aY(rs:List R4):List Bd:=((cV rs).zip (cV rs).tail).foldl (bB rs) []
theorem fV(s:P2):aZ [] s=[s]:=rfl
theorem eY(f:List P2)(t s:P2):aZ (f++[t]) s=if t.2<s.1 then f++[t]++[s] else if t.2<s.2 then f++[(t.1,s.2)] else f++[t]:=by
 simp[aZ]
theorem fD(rs:List R4)(p:P2):bB rs [] p=if b6 (aX rs p.1 p.2)=[] then [] else [⟨p.1,p.2,b6 (aX rs p.1 p.2)⟩]:=by
 simp[bB]
theorem eG(rs:List R4)(f:List Bd)(b:Bd)(p:P2):bB rs (f++[b]) p=if b6 (aX rs p.1 p.2)=[] then f++[b] else if b.hi=p.1/\b.ln=b6 (aX rs p.1 p.2) then f++[⟨b.lo,p.2,b6 (aX rs p.1 p.2)⟩] else f++[b]++[⟨p.1,p.2,b6 (aX rs p.1 p.2)⟩]:=by
 simp[bB]
theorem WZ(a b c:P2)(d:zL a b=true)(e:zL b c=true):zL a c=true:=by
 simp only[zL,decide_eq_true_eq]at*;lia
theorem RQ(a b:P2):(zL a b || zL b a)=true:=by
 simp only[zL,Bool.or_eq_true,decide_eq_true_eq];lia
theorem MV{a b:P2}(c:zL a b=true)(d:zL b a=true):a=b:=by
 simp only[zL,decide_eq_true_eq]at*;exact aKx (by lia) (by lia)
theorem eQ(l:List P2):(gW l).Perm l:=List.mergeSort_perm l zL
theorem rK(l:List P2):(gW l).Pairwise λa b=>zL a b=true:=List.pairwise_mergeSort WZ RQ l
theorem BR:∀{d c:List P2},d.Perm c->d.Pairwise (λa b=>zL a b=true)->c.Pairwise (λa b=>zL a b=true)->d=c
 | [],c,p,_,_=>(List.nil_perm.mp p).symm
 | a::t,[],p,_,_=>absurd p.length_eq (by simp)
 | a::t,b::u,p,s1,s2=>by
  have e:a=b:=by
   rcases aH2.mp (p.mem_iff.mp aGw) with z | z
   ·exact z
   ·rcases aH2.mp (p.mem_iff.mpr aGw) with y | y
    ·exact y.symm
    ·exact MV ((aHg.mp s1).1 b y) ((aHg.mp s2).1 a z)
  subst e;rw[BR (List.Perm.cons_inv p) (List.pairwise_cons.mp s1).2 (List.pairwise_cons.mp s2).2]
theorem R6(a b:P2):lx (enc (sD b)) (enc (sD a))=false↔zL a b=true:=by
 simp only[sD,enc,jL,List.flatMap_cons,List.flatMap_nil,List.append_nil,List.cons_append,List.nil_append,lx,zL];by_cases c:b.1<a.1
 ·simp[c];lia
 ·rw[if_neg c];by_cases d:a.1<b.1
  ·simp[d]
  ·rw[if_neg d];by_cases e:b.2<a.2
   ·simp[e];lia
   ·rw[if_neg e];by_cases f:a.2<b.2
    ·simp[f];lia
    ·simp[f];lia
theorem VJ(l:List P2):K2 (l.map sD):= .inr ⟨.i,[.i],λd hd=>by obtain⟨s,_,rfl⟩:=aH5.mp hd;exact⟨_,rfl,rfl⟩⟩
variable{l:List P2}
theorem IY{ds:List D}(p:ds.Perm (l.map sD))(s:ds.Pairwise λd e=>lx (enc e) (enc d)=false):ds=(gW l).map sD:=by
 obtain⟨b,a,rfl⟩:=lP sD p l rfl;congr 1;refine BR (a.trans (eQ l).symm) ?_ (rK l);rw[List.pairwise_map]at s;exact s.imp λh=>(R6 _ _).mp h
theorem uZ{x y:Int}:∀{l:List Int},y∈qO x l↔y=x\/y∈l
 | []=>by simp[qO]
 | z::l=>by
  unfold qO;split
  ·simp
  ·split
   ·rename_i h1 h2;subst h2;simp
   ·simp only[List.mem_cons,uZ (l:=l)];constructor
    ·rintro(h | h | h) <;> simp[h]
    ·rintro(h | h | h) <;> simp[h]
theorem rR{x:Int}:∀{l:List Int},l.Pairwise (· < ·)->(qO x l).Pairwise (· < ·)
 | [],_=>by simp[qO]
 | z::l,h=>by
  have a:=aHg.mp h;unfold qO;split
  ·rename_i hx;refine aHg.mpr ⟨λy b=>?_,h⟩;rcases aH2.mp b with z | z
   ·subst z;exact hx
   ·exact Int.lt_trans hx (a.1 y z)
  ·split
   ·exact h
   ·rename_i h2 h3;refine aHg.mpr ⟨λy b=>?_,rR a.2⟩;rcases uZ.mp b with z | z
    ·subst z;lia
    ·exact a.1 y z
theorem mK{y:Int}:∀{l:List Int},y∈lH l↔y∈l
 | []=>by simp[lH]
 | x::l=>by
  show y∈qO x (lH l)↔_;rw[uZ,mK (l:=l)];simp
theorem d8:∀l:List Int,(lH l).Pairwise (· < ·)
 | []=>List.Pairwise.nil
 | x::l=>rR (d8 l)
theorem HL:∀{d e:List Int},d.Pairwise (· < ·)->e.Pairwise (· < ·)->(∀x,x∈d↔x∈e)->d=e
 | [],[],_,_,_=>rfl
 | [],b::u,_,_,h=>absurd ((h b).mpr aGw) (by simp)
 | a::t,[],_,_,h=>absurd ((h a).mp aGw) (by simp)
 | a::t,b::u,s1,s2,h=>by
  have f:=aHg.mp s1;have g:=aHg.mp s2
  have i:a=b:=by
   rcases aH2.mp ((h a).mp aGw) with z | z
   ·exact z
   ·rcases aH2.mp ((h b).mpr aGw) with y | y
    ·exact y.symm
    ·have:=f.1 b y;have:=g.1 a z;lia
  subst i;rw[HL f.2 g.2 λx=>?_];constructor
  ·intro c;rcases aH2.mp ((h x).mp (aGx _ c)) with z | z
   ·have:=f.1 x c;lia
   ·exact z
  ·intro c;rcases aH2.mp ((h x).mpr (aGx _ c)) with z | z
   ·have:=g.1 x c;lia
   ·exact z
theorem IX{l:List Int}{ks:List Key}(j:∀k,k∈ks↔k∈l.map Sum.inl)(nd:ks.Nodup)(s:(ks.map aN).Pairwise λd e=>lx (enc e) (enc d)=false):ks.map aN=(lH l).map .int:=by
 have all:∀{ks:List Key},(∀k∈ks,∃i,k=Sum.inl i)->∃c:List Int,ks=c.map Sum.inl:=by
  intro ks
  induction ks with
  | nil=>intro _;exact⟨[],rfl⟩
  | cons k ks ih=>
   intro h;obtain⟨i,rfl⟩:=h k aGw;obtain⟨c,rfl⟩:=ih λk f=>h k (aGx _ f);exact⟨i::c,rfl⟩
 obtain⟨c,rfl⟩:=all λk f=>by obtain⟨i,_,e⟩:=aH5.mp ((j k).mp f);exact⟨i,e.symm⟩
 have e:c=lH l:=by
  refine HL ?_ (d8 l) λx=>?_
  ·have g:c.Pairwise (· ≠ ·):=by
    have:=List.pairwise_map.mp nd;exact this.imp λh z=>h (by rw[z])
   rw[List.pairwise_map,List.pairwise_map]at s;refine(g.and s).imp λ{a b} h=>?_;have m:=h.2;simp only[aN,enc,jL,lx]at m;by_cases hb:b<a
   ·simp[hb]at m
   ·have:=h.1;lia
  ·rw[mK];have:=j (Sum.inl x);simpa using this
 rw[e,List.map_map];rfl
theorem xW(l:List Int):(l.map D.int)=(l.map (Sum.inl:Int->Key)).map aN:=by rw[List.map_map];rfl
theorem tW(l:List Int):K2 (l.map D.int):= .inl ⟨.i,λd hd=>by obtain⟨s,_,rfl⟩:=aH5.mp hd;rfl⟩
abbrev En(mh:MH)(R:DK):d6:={nx:=λ_ a=>Out mh.length .b9 a R,rt:=λd a=>Out mh.length d a R}
theorem pJ(n:Nat):∀l:List P2,cM n (l.map sD)=true
 | []=>rfl
 | s::l=>by simp[cM,dB,sD,pJ n l]
theorem zG(n:Nat):∀l:List R4,cM n (l.map rD)=true
 | []=>rfl
 | s::l=>by simp[cM,dB,rD,zG n l]
theorem mJ(n:Nat):∀l:List Bd,cM n (l.map bD)=true
 | []=>rfl
 | s::l=>by simp[cM,dB,bD,iC,pJ,mJ n l]
theorem zS(f:List P2)(s:P2):(aZ f s).length<=f.length+1:=by
 rcases aHl f with rfl | ⟨g,t,rfl⟩
 ·simp[fV]
 ·rw[List.concat_eq_append,eY];split
  ·simp
  ·split <;> simp
theorem gL:∀(l f:List P2),(l.foldl aZ f).length<=f.length+l.length
 | [],f=>by simp
 | s::l,f=>by
  have:=gL l (aZ f s);have:=zS f s;simp only[List.foldl_cons,List.length_cons];lia
theorem FJ(l:List P2):(b6 l).length<=l.length:=by
 have:=gL (gW l) [];have:=(eQ l).length_eq;simp[b6]at*;lia
def uJ:OA:=λds mh Q=>∃n l,ds=[.ref n]/\mh[n]? =some (.lst (l.map sD))/\l.length<4000/\Q (iC (b6 l)) mh
theorem Y8(ds:List D)(mh:MH)(R:DK)(ok:i7 mh)(m:uJ ds mh R):hJ (En mh R) (aG ["_law_shreds","_law_found","_law_start","_law_end"] ds) mh:=by
 obtain⟨n,l,rfl,x,v,q⟩:=m;have sz:=aHh;have w:n<mh.length:=(aGt.mp x).1;simp[hJ,nF,aG];refine⟨_,l.map sD,rfl,by simp[mW,List.getElem?_append_left w,x],by simpa using v,VJ l,λz p s=>?_⟩;obtain rfl:=IY p s;have E:=(eQ l).length_eq;simp[bG];refine bJ (λi o mh' =>(∃a b,o=[some (.ref n),some (.ref mh.length),a,b])/\mh' =mh++[.lst ((((gW l).take i).foldl aZ []).map sD),.lst ((gW l).map sD)]) _ ?_ ?_ ?_ ⟨⟨_,_,rfl⟩,by simp⟩
 ·rintro i o mh' ⟨_,rfl⟩;simp
 ·rintro i d o mh' N hi ⟨⟨a,b,rfl⟩,rfl⟩ nx;obtain⟨s,m,rfl⟩:=dN hi;have A:i<(gW l).length:=(aGt.mp m).1;have k:=gL ((gW l).take i) [];have B:((gW l).take (i+1)).foldl aZ []=aZ (((gW l).take i).foldl aZ []) s:=by rw[take_snoc m];simp
  have c:∀a b,N [some (.ref n),some (.ref mh.length),a,b] (mh++[.lst ((aZ (((gW l).take i).foldl aZ []) s).map sD),.lst ((gW l).map sD)]):=λa b=>nx _ _ ⟨⟨_,_,rfl⟩,by rw[B]⟩;generalize ((gW l).take i).foldl aZ []=f at k c⊢;have h:(mh++[MO.lst (f.map sD),.lst ((gW l).map sD)])[mh.length]? =some (.lst (f.map sD)):=by simp
  have r:∀g:List D,(mh++[MO.lst (f.map sD),.lst ((gW l).map sD)]).set mh.length (.lst g)=mh++[.lst g,.lst ((gW l).map sD)]:=λg=>by simp
  have F:f.map sD=[]\/True:= .inr trivial;generalize C:mh++[MO.lst (f.map sD),.lst ((gW l).map sD)]=M at h r⊢;simp at k;simp[sD,kY,lN h,sI,eM h];rcases aHl f with rfl | ⟨g,t,rfl⟩
  ·simp only[fV]at c;simp;rw[dS h,r];exact⟨⟨_,h⟩,by lia,by simp;lia,by simpa[sD] using c _ _⟩
  ·rw[List.concat_eq_append]at*;simp only[eY]at c;have j:mY ((g++[t]).map sD) (-1)=some (.tup [.int t.1,.int t.2]):=by rw[List.map_append];exact sX _ _
   rw[j];have G:¬(g++[t]=[]):=by simp
   simp only[cB,L6,mC,aBg];simp;by_cases y:t.2<s.1
   ·simp only[y,if_true]at c⊢;rw[dS h,r];refine⟨⟨_,h⟩,by lia,by simp at k⊢;lia,?_⟩;have:=c (some (.int s.1)) (some (.int s.2));simpa[sD] using this
   ·simp only[y,if_false]at c⊢;by_cases u:t.2<s.2
    ·simp only[u,if_true]at c⊢;rw[eM h,j];simp[mC,u];rw[eM h,j];simp[mC];rw[uI h];simp only[List.length_map,List.length_append,List.length_cons,List.length_nil,Nat.zero_add,vC,cB];rw[r];have:=c (some (.int s.1)) (some (.int s.2));refine⟨by lia,?_⟩;simpa[sD] using this
    ·simp only[u,if_false]at c⊢;rw[eM h,j];simp[mC,u];have:=c (some (.int s.1)) (some (.int s.2));rw[C]at this;exact this
 ·rintro o mh' ⟨⟨a,b,rfl⟩,rfl⟩;have e:(gW l).take ((gW l).map sD).length=gW l:=by simp
  rw[e];simp[nE,bG];exact uU ok (by simp[dB,pJ]) q
theorem B0(rs:List R4)(f:List Bd)(p:P2):(bB rs f p).length<=f.length+1:=by
 rcases aHl f with rfl | ⟨g,t,rfl⟩
 ·rw[fD];split <;> simp
 ·rw[List.concat_eq_append,eG];split
  ·simp
  ·split <;> simp
theorem iL(rs:List R4):∀(l:List P2) (f:List Bd),(l.foldl (bB rs) f).length<=f.length+l.length
 | [],f=>by simp
 | s::l,f=>by
  have:=iL rs l (bB rs f s);have:=B0 rs f s;simp only[List.foldl_cons,List.length_cons];lia
theorem DD(x:Int):∀l:List Int,(qO x l).length<=l.length+1
 | []=>by simp[qO]
 | y::l=>by
  unfold qO;have:=DD x l;split
  ·simp
  ·split <;> simp <;> lia
theorem w9:∀l:List Int,(lH l).length<=l.length
 | []=>by simp[lH]
 | x::l=>by
  have:=w9 l;have:=DD x (lH l);show (qO x (lH l)).length<=_;simp;lia
theorem tD(rs:List R4):(cV rs).length<=2*rs.length:=by
 have:=w9 (rs.map (·.y0)++rs.map (·.y1));simp[cV]at*;lia
theorem n4(rs:List R4)(lo hi:Int):(aX rs lo hi).length<=rs.length:=by
 simp[aX];exact aK5 _ _
theorem l9:∀l:List P2,fQ (l.map sD)=true/\c8 (l.map sD)<=2
 | []=>by simp[fQ,c8]
 | s::l=>by
  have:=l9 l;simp only[List.map_cons,fQ,c8,this.1,Bool.and_true];simp only[sD,bare,fQ,deep,c8];refine⟨rfl,by lia⟩
theorem AI:∀l m:List P2,fO (l.map sD) (m.map sD)=decide (l=m)
 | [],[]=>by simp[fO]
 | [],_::_=>by simp[fO]
 | _::_,[]=>by simp[fO]
 | a::l,b::m=>by
  simp only[List.map_cons,fO,AI l m];simp only[sD,pY,fO];by_cases c:a.1=b.1 <;> by_cases d:a.2=b.2 <;> by_cases e:l=m <;> simp[c,d,e,Prod.ext_iff]
variable{mh:MH}
theorem SN{n:Nat}{Q:DK}(h:mh[n]? =some (.lst (l.map sD)))(a:l.length<4000)(q:Q (iC (b6 l)) mh):uJ [.ref n] mh Q:=⟨n,l,rfl,h,a,q⟩
variable{rs:List R4}{f:List Bd}
theorem Y6{mh mh' :MH}{E:d6}{n e:Nat}{lo hi:Int}{A:Option D}{x:D}(B:cG mh mh')(y:mh'[n]? =some (.lst (rs.map rD)))(z:(aX rs lo hi).length<4000)(C:mh'[e]? =some (.lst (f.map bD)))(s:mh.length<=e)(i:f.length<=4000)
  (nx:∀a T,cG mh ((mh' ++T).set e (.lst ((bB rs f (lo,hi)).map bD)))->E.nx [some (.ref n),some x,some (.ref e),some (.int lo),some (.int hi),a] ((mh' ++T).set e (.lst ((bB rs f (lo,hi)).map bD)))):
  eO uJ E [some (.ref n),some x,some (.ref e),some (.int lo),some (.int hi),A] mh' :=by
 have sz:=aHh;simp[eO];rw[bI y];simp;refine vP rD (λr=>decide (r.y0<=lo) && decide (hi<=r.y1)) (λr=>(r.x0,r.x1)) sD rs (bI y) ?_ ?_
 ·intro r z N M j h;simp[jM,rD,mC,A3,T9];by_cases k:r.y0<=lo
  ·simp[k]at j h⊢;by_cases m:hi<=r.y1
   ·simp[m]at j h⊢;exact⟨by lia,j⟩
   ·simp[m]at j h⊢;exact h (by lia)
  ·simp[k]at j h⊢;exact h
 ·refine SN (l:=aX rs lo hi) (by simp[aX]) z ?_;have o:cG mh (mh' ++[MO.lst ((aX rs lo hi).map sD)]):=B.push _;have d:(mh' ++[MO.lst ((aX rs lo hi).map sD)])[e]? =some (.lst (f.map bD)):=aM C;have b:=λa=>nx a [MO.lst ((aX rs lo hi).map sD)] (o.set s _);change dQ uJ _ _ (mh' ++[MO.lst ((aX rs lo hi).map sD)]);generalize mh' ++[MO.lst ((aX rs lo hi).map sD)]=M at o d b⊢;have keep:=lJ d;have u:=l9 (b6 (aX rs lo hi));generalize p:b6 (aX rs lo hi)=ln at*;have F:∀g,bB rs g (lo,hi)=bB rs g (lo,hi):=λ_=>rfl;simp[dQ,lN d,iC,sI,eM d];rcases aHl f with rfl | ⟨g,t,rfl⟩
  ·simp only[fD,p]at b;by_cases c:ln=[]
   ·subst c;simp at b⊢;simp at keep;rw[keep]at b;exact b _
   ·have v :0<ln.length:=List.length_pos_iff.mpr c;simp[c,v]at b⊢;rw[dS d];exact⟨⟨_,d⟩,by lia,by simp;lia,by simpa[bD,iC] using b _⟩
  ·rw[List.concat_eq_append]at*;have q:mY ((g++[t]).map bD) (-1)=some (.tup [.int t.lo,.int t.hi,.tup (t.ln.map sD)]):=by rw[List.map_append];exact sX _ _
   simp only[eG,p]at b;by_cases c:ln=[]
   ·subst c;simp at b⊢;simp at keep;rw[keep]at b;exact b _
   ·have v :0<ln.length:=List.length_pos_iff.mpr c;have w:=l9 t.ln;simp[c,v]at b⊢;rw[sX];simp[bD,iC,mC,A3];by_cases k:t.hi=lo
    ·simp[k]at b⊢;rw[eM d,q];simp[mC,A3];refine⟨w.1,u.1,by lia,?_⟩;rw[AI];by_cases m:t.ln=ln
     ·simp[m]at b⊢;rw[eM d,q];simp[mC,A3];rw[uI d];simp only[List.length_map,List.length_append,List.length_cons,List.length_nil,Nat.zero_add,vC,cB];have:=b (some (.tup (ln.map sD)));refine⟨by lia,?_⟩;simpa[bD,iC] using this
     ·simp[m]at b⊢;rw[dS d];refine⟨⟨_,d⟩,by lia,by simp at i⊢;lia,?_⟩;have:=b (some (.tup (ln.map sD)));simpa[bD,iC] using this
    ·simp[k]at b⊢;rw[dS d];refine⟨⟨_,d⟩,by lia,by simp at i⊢;lia,?_⟩;have:=b (some (.tup (ln.map sD)));simpa[bD,iC] using this
abbrev K0(i:Int):Prop:= -1048576<=i/\i<=1048576
def qC(mh:MH)(b c:Nat):Prop:=c≠b/\∃a:List Int,mh[c]? =some (.lst (a.map .int))/\a.length=8/\∀i∈a,K0 i
theorem qC.to{mh mh' :MH}{b a:Nat}(h:qC mh b a)(t:cR mh b mh'):qC mh' b a:=by
 obtain⟨c,d,e,f⟩:=h;exact⟨c,d,by rw[t.other c];exact e,f⟩
def pG:OA:=λds mh Q=>∃b a c,ds=[.ref b,.int a,.ref c]/\wV mh b/\qC mh b c/\∀v mh',K0 v->cR mh b mh' ->Q (.int v) mh'
theorem OP(ds:List D)(mh:MH)(R:DK)(ok:i7 mh)(o:pG ds mh R):eW iA (En mh R) (aG ["_law_bag_here","_law_sort","_law_some"] ds) mh:=by
 obtain⟨b,a,p,rfl,hb,i,q⟩:=o;have fin:∀v mh',K0 v->cR mh b mh' ->Out mh.length (.int v) mh' R:=λv mh' h t=>cA (q v mh' h t);simp[eW,aG];by_cases j:a=0
 ·simp[j];exact sQ (by lia) (by lia) hb λr mh' c d t=>by simp;exact fin _ _ ⟨by lia,by lia⟩ t
 ·simp[j,jY];by_cases k:a=1
  ·simp[k];exact sQ (by lia) (by lia) hb λr mh' c d t=>by simp;exact fin _ _ ⟨by lia,by lia⟩ t
  ·simp[k,jX];by_cases l:a=2
   ·simp[l];refine⟨.inl ⟨by lia,by lia⟩,?_⟩;exact sQ (by lia) (by lia) hb λr mh' c d t=>by simp;exact fin _ _ ⟨by lia,by lia⟩ t
   ·have s :=i;obtain⟨u,m,n,w,x⟩:=i;simp[l,jW,lN n,w];refine sQ (by lia) (by lia) hb λr mh' c d t=>?_;have g :mh'[p]? =some (.lst (m.map .int)):=by rw[t.other u];exact n
    obtain⟨v,y,_,e⟩:=T8 (f:=D.int) (ss:=m) c (by lia);rw[eM g,e];simp;exact fin v mh' (x v y) t
def BW:OA:=λds mh Q=>∃b a c,ds=[.ref b,.int a,.ref c]/\wV mh b/\qC mh b c/\∀u v mh',K0 u->K0 v->u<v->cR mh b mh' ->Q (.tup [.int u,.int v]) mh'
theorem xT{b c:Nat}{a:Int}{Q:DK}(hb:wV mh b)(d:qC mh b c)(q:∀v mh',K0 v->cR mh b mh' ->Q (.int v) mh'):pG [.ref b,.int a,.ref c] mh Q:=⟨b,a,c,rfl,hb,d,q⟩
theorem Y4(ds:List D)(mh:MH)(R:DK)(ok:i7 mh)(j:BW ds mh R):g8 pG (En mh R) (aG ["_law_bag_here","_law_sort","_law_some","_law_one","_law_other_here"] ds) mh:=by
 obtain⟨b,g,m,rfl,hb,h,q⟩:=j;have sz:=aHh;simp[g8,nB,aG];refine xT hb h λu k e f=>?_;refine xT f.1 (h.to f) λv a i l=>?_;have t:=f.trans l;simp[nA];by_cases c:u=v
 ·subst c;simp;by_cases d:u=1048576
  ·simp[d];exact⟨by lia,cA (q _ _ a ⟨by lia,by lia⟩ ⟨by lia,by lia⟩ (by lia) t)⟩
  ·simp[d];exact⟨by lia,cA (q _ _ a e ⟨by lia,by lia⟩ (by lia) t)⟩
 ·simp[c,m9];refine⟨by lia,cA ?_⟩;by_cases d:v<u
  ·rw[if_pos d,if_neg (by lia)];exact q _ _ a i e d t
  ·rw[if_neg d,if_pos (by lia)];exact q _ _ a e i (by lia) t
theorem G6{b c:Nat}{a:Int}{Q:DK}(hb:wV mh b)(d:qC mh b c)(q:∀u v mh',K0 u->K0 v->u<v->cR mh b mh' ->Q (.tup [.int u,.int v]) mh'):BW [.ref b,.int a,.ref c] mh Q:=⟨b,a,c,rfl,hb,d,q⟩
def R4.ok(r:R4):Prop:=K0 r.x0/\K0 r.y0/\K0 r.x1/\K0 r.y1/\r.x0<r.x1/\r.y0<r.y1
def qJ:OA:=λds mh Q=>∃b a,ds=[.ref b,.int a]/\12<=a/\a<=1000/\wV mh b/\∀(rs:List R4) mh',rs.length<=a.toNat->(∀r∈rs,r.ok)->cR mh b mh' ->Q (.ref mh'.length) (mh' ++[.lst (rs.map rD)])
theorem ix4{x y z u r:Int}(h0:0<=r)(a:r<4):∃v,mY [D.int x,.int y,.int z,.int u] r=some (.int v)/\(v=x\/v=y\/v=z\/v=u):=by
 have:r=0\/r=1\/r=2\/r=3:=by lia
 rcases this with rfl | rfl | rfl | rfl
 ·exact⟨x,aGj _ _,.inl rfl⟩
 ·exact⟨y,mC _ _ _,.inr (.inl rfl)⟩
 ·exact⟨z,A3 _ _ _ _,.inr (.inr (.inl rfl))⟩
 ·exact⟨u,T9 _ _ _ _ _,.inr (.inr (.inr rfl))⟩
theorem S8(ds:List D)(mh:MH)(R:DK)(ok:i7 mh)(X:qJ ds mh R):fR iA BW (En mh R) (aG ["_law_bag_here","_law_most","_law_sort","_law_many","_law_some","_law_found","_law_k","_law_left","_law_right","_law_low","_law_high"] ds) mh:=by
 obtain⟨b,f,rfl,m0,m1,hb,q⟩:=X;have sz:=aHh;have Y:=hb.lt;simp[fR,kT,aG];refine gE (.refl hb) (by lia) (by lia) λm s s0 s1 x1 _ _=>?_;refine⟨by lia,?_⟩;refine gE (x1.push _) (by lia) (by lia) λr w Z r1 x2 l2 k2=>?_;have e2:w[s.length]? =some (.lst [.int (f+1),.int 13,.int 13,.int 7]):=by rw[k2 _ x1.le];simp
 rw[eM e2];obtain⟨v,hv,hv2⟩:=ix4 (x:=f+1) (y:=13) (z:=13) (u:=7) Z r1;rw[hv];simp;refine gE x2 (by lia) (by lia) λh mh3 n0 V x3 _ _=>?_;have A:h<=f:=by lia
 simp[kS];refine⟨by lia,?_⟩;refine PJ (λi ys mh' =>dD mh b mh' /\∃a:List Int,ys=a.map .int/\a.length=i/\∀i∈a,K0 i) _ (λ_ _ _ _=>trivial) ?_ ?_ ⟨x3,[],rfl,rfl,by simp⟩
 ·rintro i d ys e N hi ⟨n,a,rfl,B,C⟩ nx;simp[jM];refine gE n (by lia) (by lia) λc o c0 c1 l _ _=>?_;simp;refine nx _ _ ⟨l,a++[c-1048576],by simp,by simp[B],λi hi=>?_⟩;rcases aGz.mp hi with hi | hi
  ·exact C i hi
  ·simp at hi;subst hi;exact⟨by lia,by lia⟩
 ·rintro ys e ⟨n,a,rfl,B,C⟩;simp at B;simp;refine⟨by lia,?_⟩;rw[L7 (i:=a.map .int) (j:=[.int (-1048576),.int 1048576,.int 0,.int 1]) (by simp) (by simp)];refine⟨by simp;lia,?_⟩;simp[kR,kP]
  have W:=(n.app [MO.lst (a.map .int),.lst [D.int (-1048576),D.int 1048576,D.int 0,D.int 1],MO.lst ((a.map .int)++[D.int (-1048576),D.int 1048576,D.int 0,D.int 1]),.lst []])
  have E:qC ((e++[MO.lst (a.map .int),.lst [D.int (-1048576),D.int 1048576,D.int 0,D.int 1]]++[MO.lst ((a.map .int)++[D.int (-1048576),D.int 1048576,D.int 0,D.int 1])])++[.lst []]) b (e.length+2):=by
   refine⟨by have:=n.le;lia,a++[-1048576,1048576,0,1],by simp,by simp;lia,λi hi=>?_⟩;rcases aGz.mp hi with hi | hi
   ·exact C i hi
   ·simp at hi;rcases hi with rfl | rfl | rfl | rfl <;> exact⟨by lia,by lia⟩
  have F:((e++[MO.lst (a.map .int),.lst [D.int (-1048576),D.int 1048576,D.int 0,D.int 1]]++[MO.lst ((a.map .int)++[D.int (-1048576),D.int 1048576,D.int 0,D.int 1])])++[.lst []])[e.length+3]? =some (.lst []):=by simp
  simp only[List.append_assoc,List.cons_append,List.nil_append]at E F;have hm4:=n.le;generalize e++[MO.lst (a.map .int),.lst [D.int (-1048576),D.int 1048576,D.int 0,D.int 1],MO.lst ((a.map .int)++[D.int (-1048576),D.int 1048576,D.int 0,D.int 1]),.lst []]=M at E W F⊢;generalize e.length=c at*;refine⟨by lia,by lia,?_⟩;refine bJ (λi G mh' =>(∃H I J K L,G=[some (.ref b),some (.int f),some (.int m),some (.int h),some (.ref (c+2)),some (.ref (c+3)),H,I,J,K,L])/\dD mh b mh' /\qC mh' b (c+2)/\∃rs:List R4,mh'[c+3]? =some (.lst (rs.map rD))/\rs.length=i/\∀r∈rs,r.ok) _ (λ_ _ _ _=>trivial) ?_ ?_ ⟨⟨_,_,_,_,_,rfl⟩,W,E,[],by simpa using F,rfl,by simp⟩
  ·rintro i d G o N hi ⟨⟨H,I,J,K,L,rfl⟩,l,g,rs,O,P,bO⟩ nx;obtain⟨hil,rfl⟩:=pH hi;simp[jV,hC];refine G6 l.bag g λu v p u1 v1 uv Q=>?_;simp;refine G6 Q.1 (g.to Q) λu2 v2 S u3 v3 T t7=>?_;have t:=Q.trans t7;have k:S[c+3]? =some (.lst (rs.map rD)):=by rw[t.other (by lia)];exact O
   simp[g9,sI];rw[dS k];refine⟨⟨_,k⟩,by lia,by simp;lia,nx _ _ ⟨⟨_,_,_,_,_,rfl⟩,(l.to t).set (by lia) _,?_,rs++[⟨u,u2,v,v2⟩],?_,by simp[P],λr hr=>?_⟩⟩
   ·obtain⟨V,U,h2,h3⟩:=g.to t;exact⟨V,U,get_set h2 (by lia),h3⟩
   ·rw[bE _ k];simp[rD]
   ·rcases aGz.mp hr with hr | hr
    ·exact bO r hr
    ·simp at hr;subst hr;exact⟨u1,u3,v1,v3,uv,T⟩
  ·rintro G o ⟨⟨H,I,J,K,L,rfl⟩,l,g,rs,O,P,bO⟩;simp[kO];refine l.W4 ok (by lia) O (by simp[zM,zG]) λp t=>q rs p (by simp at P;lia) bO t
variable{P:Int->Prop}
theorem zT{f:List P2}{s:P2}(a:∀t∈f,P t.1/\P t.2)(b:P s.1/\P s.2):∀t∈aZ f s,P t.1/\P t.2:=by
 rcases aHl f with rfl | ⟨g,u,rfl⟩
 ·rw[fV];intro t ht;simp at ht;subst ht;exact b
 ·rw[List.concat_eq_append]at*;rw[eY];have c:=a u (by simp);split
  ·intro t ht;rcases aGz.mp ht with z | z
   ·exact a t z
   ·simp at z;subst z;exact b
  ·split
   ·intro t ht;rcases aGz.mp ht with z | z
    ·exact a t (by simp[z])
    ·simp at z;subst z;exact⟨c.1,b.2⟩
   ·exact a
theorem lW{P:Int->Prop}:∀(l f:List P2),(∀t∈l,P t.1/\P t.2)->(∀t∈f,P t.1/\P t.2)->∀t∈l.foldl aZ f,P t.1/\P t.2
 | [],f,_,hf=>hf
 | s::l,f,hl,hf=>lW l (aZ f s) (λt ht=>hl t (aGx _ ht)) (zT hf (hl s aGw))
theorem FK(h:∀t∈l,P t.1/\P t.2):∀t∈b6 l,P t.1/\P t.2:=
 lW _ _ (λt ht=>h t ((eQ l).mem_iff.mp ht)) (by simp)
theorem EW(h:∀r∈rs,P r.x0/\P r.x1)(lo hi:Int):∀t∈aX rs lo hi,P t.1/\P t.2:=by
 intro t ht;simp only[aX,List.mem_map,List.mem_filter]at ht;obtain⟨r,⟨a,_⟩,rfl⟩:=ht;exact h r a
theorem mI(rs:List R4):(aY rs).length<=2*rs.length:=by
 have:=iL rs ((cV rs).zip (cV rs).tail) [];have:=tD rs;simp[aY]at*;lia
theorem MB{b:Nat}{a:Int}{Q:DK}(h0:12<=a)(c:a<=1000)(hb:wV mh b)(q:∀(rs:List R4) mh',rs.length<=a.toNat->(∀r∈rs,r.ok)->cR mh b mh' ->Q (.ref mh'.length) (mh' ++[.lst (rs.map rD)])):qJ [.ref b,.int a] mh Q:=⟨b,a,rfl,h0,c,hb,q⟩
def fP(f:List P2)(x:Int):Prop:=∃t∈f,t.1<=x/\x<t.2
def Sep(f:List P2):Prop:=(∀t∈f,t.1<t.2)/\f.Pairwise λa b=>a.2<b.1
variable{x:Int}
theorem mQ{f g:List P2}:fP (f++g) x↔fP f x\/fP g x:=by
 unfold fP;constructor
 ·rintro⟨t,ht,h⟩;rcases aGz.mp ht with z | z
  ·exact .inl ⟨t,z,h⟩
  ·exact .inr ⟨t,z,h⟩
 ·rintro(⟨t,ht,h⟩ | ⟨t,ht,h⟩)
  ·exact⟨t,aHn _ ht,h⟩
  ·exact⟨t,aHb _ ht,h⟩
theorem mP{t:P2}:fP [t] x↔t.1<=x/\x<t.2:=by simp[fP]
theorem CS{f:List P2}{s:P2}(n:Sep f)(m:s.1<s.2)(hb:∀t∈f,t.1<=s.1):
  Sep (aZ f s)/\(∀t∈aZ f s,t.1<=s.1)/\∀x,fP (aZ f s) x↔fP f x\/(s.1<=x/\x<s.2):=by
 rcases aHl f with rfl | ⟨g,t,rfl⟩
 ·rw[fV];refine⟨⟨by simpa using m,by simp⟩,by simp,λx=>by simp[fP]⟩
 ·rw[List.concat_eq_append]at*;rw[eY];obtain⟨j,k⟩:=n;have ht:=j t (by simp);have l:=hb t (by simp);have e:=aH9.mp k;split
  ·rename_i c;refine⟨⟨λu i=>?_,aH9.mpr ⟨k,by simp,λa ha b d=>?_⟩⟩,λu i=>?_,λx=>by rw[mQ,mP]⟩
   ·rcases aGz.mp i with z | z
    ·exact j u z
    ·simp at z;subst z;exact m
   ·simp at d;subst d;rcases aGz.mp ha with z | z
    ·have:=e.2.2 a z t (by simp);lia
    ·simp at z;subst z;exact c
   ·rcases aGz.mp i with z | z
    ·exact hb u z
    ·simp at z;subst z;lia
  ·rename_i c;split
   ·rename_i c2;refine⟨⟨λu i=>?_,aH9.mpr ⟨e.1,by simp,λa ha b d=>?_⟩⟩,λu i=>?_,λx=>?_⟩
    ·rcases aGz.mp i with z | z
     ·exact j u (by simp[z])
     ·simp at z;subst z;simp;lia
    ·simp at d;subst d;exact e.2.2 a ha t (by simp)
    ·rcases aGz.mp i with z | z
     ·exact hb u (by simp[z])
     ·simp at z;subst z;exact l
    ·rw[mQ,mQ,mP,mP];simp only;constructor
     ·rintro(h | h)
      ·exact .inl (.inl h)
      ·by_cases o:x<t.2
       ·exact .inl (.inr ⟨h.1,o⟩)
       ·exact .inr ⟨by lia,h.2⟩
     ·rintro((h | h) | h)
      ·exact .inl h
      ·exact .inr ⟨h.1,by lia⟩
      ·exact .inr ⟨by lia,h.2⟩
   ·rename_i c2;refine⟨⟨j,k⟩,hb,λx=>⟨.inl,?_⟩⟩;rintro(h | h)
    ·exact h
    ·rw[mQ,mP];exact .inr ⟨by lia,by lia⟩
theorem nQ:∀(l f:List P2),l.Pairwise (λa b=>zL a b=true)->(∀s∈l,s.1<s.2)->Sep f->(∀t∈f,∀s∈l,t.1<=s.1)->
  Sep (l.foldl aZ f)/\∀x,fP (l.foldl aZ f) x↔fP f x\/fP l x
 | [],f,_,_,hf,_=>⟨hf,λx=>by simp[fP]⟩
 | s::l,f,hp,hv,hf,hb=>by
  have c:=aHg.mp hp;obtain⟨h,i,j⟩:=CS hf (hv s aGw) λt ht=>hb t ht s aGw
  have g:=nQ l (aZ f s) c.2 (λu d=>hv u (aGx _ d)) h λt ht u d=>by
   have:=i t ht;have:=c.1 u d;simp only[zL,decide_eq_true_eq]at this
   lia
  refine⟨g.1,λx=>?_⟩;rw[List.foldl_cons,g.2 x,j x]
  have e:fP (s::l) x↔(s.1<=x/\x<s.2)\/fP l x:=by
   rw[show s::l=[s]++l from rfl,mQ,mP]
  rw[e,or_assoc]
theorem JO(a:∀s∈l,s.1<s.2):Sep (b6 l)/\∀x,fP (b6 l) x↔fP l x:=by
 have h:=nQ (gW l) [] (rK l) (λs b=>a s ((eQ l).mem_iff.mp b)) ⟨by simp,by simp⟩ (by simp);refine⟨h.1,λx=>?_⟩;have:=h.2 x;unfold b6;rw[this];unfold fP;simp only[List.not_mem_nil,false_and,exists_false,false_or];constructor
 ·rintro⟨t,ht,q⟩;exact⟨t,(eQ l).mem_iff.mp ht,q⟩
 ·rintro⟨t,ht,q⟩;exact⟨t,(eQ l).mem_iff.mpr ht,q⟩
def b7(g:List Bd)(x y:Int):Prop:=∃b∈g,b.lo<=y/\y<b.hi/\fP b.ln x
structure oJ(g:List Bd):Prop where
 lt:∀b∈g,b.lo<b.hi
 ne:∀b∈g,b.ln≠[]
 sep:∀b∈g,Sep b.ln
 up:g.Pairwise λa b=>a.hi<=b.lo
 apart:∀u a b v,g=u++a::b::v->¬(a.hi=b.lo/\a.ln=b.ln)
theorem gR{f g:List Bd}{x y:Int}:b7 (f++g) x y↔b7 f x y\/b7 g x y:=by
 unfold b7;constructor
 ·rintro⟨t,ht,h⟩;rcases aGz.mp ht with z | z
  ·exact .inl ⟨t,z,h⟩
  ·exact .inr ⟨t,z,h⟩
 ·rintro(⟨t,ht,h⟩ | ⟨t,ht,h⟩)
  ·exact⟨t,aHn _ ht,h⟩
  ·exact⟨t,aHb _ ht,h⟩
theorem gQ{b:Bd}{x y:Int}:b7 [b] x y↔b.lo<=y/\y<b.hi/\fP b.ln x:=by simp[b7]
theorem D7{b c:Bd}(h:oJ (f++[b]))(o:c.lo<c.hi)(p:c.ln≠[])(q:Sep c.ln)(r:b.hi<=c.lo)(s:¬(b.hi=c.lo/\b.ln=c.ln)):oJ (f++[b]++[c]):=by
 obtain⟨j,t,x,k,y⟩:=h;refine⟨λd hd=>?_,λd hd=>?_,λd hd=>?_,aH9.mpr ⟨k,by simp,λd hd e he=>?_⟩,λu a d v e=>?_⟩
 ·rcases aGz.mp hd with z | z
  ·exact j d z
  ·simp at z;subst z;exact o
 ·rcases aGz.mp hd with z | z
  ·exact t d z
  ·simp at z;subst z;exact p
 ·rcases aGz.mp hd with z | z
  ·exact x d z
  ·simp at z;subst z;exact q
 ·simp at he;subst he;have i:=aH9.mp k;have A:=j b (by simp);rcases aGz.mp hd with z | z
  ·have:=i.2.2 d z b (by simp);lia
  ·simp at z;subst z;exact r
 ·rcases aHl v with rfl | ⟨l,w,rfl⟩
  ·have g:f++[b]++[c]=(u++[a])++[d]:=by rw[e];simp
   have m:=aK4 g rfl;have B:=aK7 g rfl;have n:=aK4 B rfl;simp at m n;subst m n;exact s
  ·rw[List.concat_eq_append]at e;have g:f++[b]++[c]=(u++a::d::l)++[w]:=by rw[e];simp
   exact y u a d l (aK7 g rfl)
theorem IJ{c:Bd}(d:c.lo<c.hi)(f:c.ln≠[])(g:Sep c.ln):oJ [c]:=by
 refine⟨by simpa using d,by simpa using f,by simpa using g,by simp,λu a b v e=>?_⟩;have:=aHu List.length e;simp at this
 lia
theorem r8{b:Bd}{hi:Int}(h:oJ (f++[b]))(q:b.hi<=hi):oJ (f++[⟨b.lo,hi,b.ln⟩]):=by
 obtain⟨i,j,k,o,l⟩:=h;have c:=aH9.mp o;have hb:=i b (by simp);refine⟨λd hd=>?_,λd hd=>?_,λd hd=>?_,aH9.mpr ⟨c.1,by simp,λd hd e he=>?_⟩,λu a d v e=>?_⟩
 ·rcases aGz.mp hd with z | z
  ·exact i d (by simp[z])
  ·simp at z;subst z;show b.lo<hi;lia
 ·rcases aGz.mp hd with z | z
  ·exact j d (by simp[z])
  ·simp at z;subst z;exact j b (by simp)
 ·rcases aGz.mp hd with z | z
  ·exact k d (by simp[z])
  ·simp at z;subst z;exact k b (by simp)
 ·simp at he;subst he;exact c.2.2 d hd b (by simp)
 ·rcases aHl v with rfl | ⟨m,w,rfl⟩
  ·have g:f++[⟨b.lo,hi,b.ln⟩]=(u++[a])++[d]:=by rw[e];simp
   have n:=aK4 g rfl;have p:=aK7 g rfl;simp at n;subst n;exact l u a b [] (by rw[p];simp)
  ·rw[List.concat_eq_append]at e;have g:f++[⟨b.lo,hi,b.ln⟩]=(u++a::d::m)++[w]:=by rw[e];simp
   exact l u a d (m ++[b]) (by rw[List.append_inj_left' g rfl];simp)
theorem E2{p:P2}(q:∀r∈rs,r.x0<r.x1)(j:oJ f)(n:p.1<p.2)(hb:∀b∈f,b.hi<=p.1):
  oJ (bB rs f p)/\(∀b∈bB rs f p,b.hi<=p.2)/\∀x y,b7 (bB rs f p) x y↔b7 f x y\/(p.1<=y/\y<p.2/\fP (aX rs p.1 p.2) x):=by
 have u:∀s∈aX rs p.1 p.2,s.1<s.2:=λs o=>by
  simp only[aX,List.mem_map,List.mem_filter]at o;obtain⟨r,⟨h,_⟩,rfl⟩:=o;exact q r h
 obtain⟨e,k⟩:=JO u;have i:∀x,fP (aX rs p.1 p.2) x↔fP (b6 (aX rs p.1 p.2)) x:=λx=>(k x).symm
 have a:oJ (bB rs f p)/\(∀b∈bB rs f p,b.hi<=p.2)/\∀x y,b7 (bB rs f p) x y↔b7 f x y\/(p.1<=y/\y<p.2/\fP (b6 (aX rs p.1 p.2)) x):=by
  rcases aHl f with rfl | ⟨g,t,rfl⟩
  ·rw[fD];split
   ·rename_i c;rw[c];exact⟨j,by simp,λx y=>by simp[b7,fP]⟩
   ·rename_i c;exact⟨IJ n c e,by simp,λx y=>by simp[b7]⟩
  ·rw[List.concat_eq_append]at*;rw[eG];have m:=hb t (by simp);split
   ·rename_i c;rw[c];exact⟨j,λb d=>by have:=hb b d;lia,λx y=>by simp[fP]⟩
   ·rename_i c;split
    ·rename_i l;obtain⟨l,v⟩:=l;rw[<-v];refine⟨r8 j (by lia),λb d=>?_,λx y=>?_⟩
     ·rcases aGz.mp d with z | z
      ·have:=hb b (by simp[z]);lia
      ·simp at z;subst z;simp
     ·rw[gR,gR,gQ,gQ];simp only;have w:=j.lt t (by simp);constructor
      ·rintro(h | h)
       ·exact .inl (.inl h)
       ·by_cases A:y<t.hi
        ·exact .inl (.inr ⟨h.1,A,h.2.2⟩)
        ·exact .inr ⟨by lia,h.2.1,h.2.2⟩
      ·rintro((h | h) | h)
       ·exact .inl h
       ·exact .inr ⟨h.1,by lia,h.2.2⟩
       ·exact .inr ⟨by lia,h.2.1,h.2.2⟩
    ·rename_i l;refine⟨D7 j n c e m l,λb d=>?_,λx y=>by rw[gR,gQ]⟩;rcases aGz.mp d with z | z
     ·have:=hb b z;lia
     ·simp at z;subst z;simp
 refine⟨a.1,a.2.1,λx y=>?_⟩;rw[a.2.2 x y,i]
theorem pT{rs:List R4}(i:∀r∈rs,r.x0<r.x1):∀(ys:List Int) (f:List Bd),ys.Pairwise (· < ·)->oJ f->(∀b∈f,∀y∈ys,b.hi<=y)->
  oJ ((ys.zip ys.tail).foldl (bB rs) f)/\∀x y,b7 ((ys.zip ys.tail).foldl (bB rs) f) x y↔b7 f x y\/∃p∈ys.zip ys.tail,p.1<=y/\y<p.2/\fP (aX rs p.1 p.2) x
 | [],f,_,hf,_=>by simp;exact hf
 | [a],f,_,hf,_=>by simp;exact hf
 | a::b::ys,f,hs,hf,hb=>by
  have c:=aHg.mp hs;obtain⟨k,l,m⟩:=E2 (p:=(a,b)) i hf (c.1 b (by simp)) λd hd=>hb d hd a (by simp)
  have j:=pT i (b::ys) (bB rs f (a,b)) c.2 k λd hd y n=>by
   have o:=l d hd;simp only at o;rcases aH2.mp n with z | z
   ·lia
   ·have:=(aHg.mp c.2).1 y z;lia
  have e:(a::b::ys).zip (a::b::ys).tail=(a,b)::(b::ys).zip (b::ys).tail:=rfl;rw[e];refine⟨j.1,λx y=>?_⟩;rw[List.foldl_cons,j.2 x y,m x y];constructor
  ·rintro((h | h) | ⟨p,g,h⟩)
   ·exact .inl h
   ·exact .inr ⟨(a,b),aGw,h⟩
   ·exact .inr ⟨p,aGx _ g,h⟩
  ·rintro(h | ⟨p,g,h⟩)
   ·exact .inl (.inl h)
   ·rcases aH2.mp g with z | z
    ·subst z;exact .inl (.inr h)
    ·exact .inr ⟨p,z,h⟩
theorem between:∀{ys:List Int} {a b y:Int},ys.Pairwise (· < ·)->a∈ys->b∈ys->a<=y->y<b->∃p∈ys.zip ys.tail,p.1<=y/\y<p.2/\a<=p.1/\p.2<=b
 | [],a,b,y,_,h,_,_,_=>by cases h
 | [c],a,b,y,_,ha,hb,j,h2=>by simp at ha hb;lia
 | c::d::ys,a,b,y,hs,ha,hb,j,h2=>by
  have i:=aHg.mp hs;have e:(c::d::ys).zip (c::d::ys).tail=(c,d)::(d::ys).zip (d::ys).tail:=rfl;rw[e];have m:=i.1 d (by simp)
  have f:∀z∈d::ys,d<=z:=λz hz=>by
   rcases aH2.mp hz with q | q
   ·lia
   ·have:=(aHg.mp i.2).1 z q;lia
  have g:b∈d::ys:=by
   rcases aH2.mp hb with z | z
   ·exfalso;rcases aH2.mp ha with q | q
    ·lia
    ·have:=i.1 a q;lia
   ·exact z
  by_cases n:y<d
  ·have:a=c:=by
    rcases aH2.mp ha with q | q
    ·exact q
    ·have:=f a q;lia
   subst this;exact⟨(a,d),aGw,j,n,aIb _,f b g⟩
  ·have:∃k ∈d::ys,k <=y/\a<=k :=by
    rcases aH2.mp ha with q | q
    ·exact⟨d,by simp,by lia,by lia⟩
    ·exact⟨a,q,j,aIb _⟩
   obtain⟨k,l,o,v⟩:=this;obtain⟨p,r,s,t,w,u⟩:=between i.2 l g o h2;exact⟨p,aGx _ r,s,t,by lia,u⟩
def R4.has(r:R4)(x y:Int):Prop:=r.x0<=x/\x<r.x1/\r.y0<=y/\y<r.y1
theorem lO(d:∀r∈rs,r.x0<r.x1/\r.y0<r.y1):oJ (aY rs)/\∀x y,b7 (aY rs) x y↔∃r∈rs,r.has x y:=by
 have h:=pT (rs:=rs) (λr h=>(d r h).1) (cV rs) [] (d8 _) ⟨by simp,by simp,by simp,by simp,λu a b v e=>by cases u <;> simp at e⟩ (by simp);refine⟨h.1,λx y=>?_⟩;unfold aY;rw[h.2 x y]
 have g:∀r∈rs,r.y0∈cV rs/\r.y1∈cV rs:=λr d=>by
  unfold cV;rw[mK,mK];exact⟨aHn _ (aH5.mpr ⟨r,d,rfl⟩),aHb _ (aH5.mpr ⟨r,d,rfl⟩)⟩
 constructor
 ·rintro(⟨b,hb,_⟩ | ⟨p,i,j,k,t,ht,f⟩)
  ·cases hb
  ·simp only[aX,List.mem_map,List.mem_filter,Bool.and_eq_true,decide_eq_true_eq]at ht;obtain⟨r,⟨c,l,s⟩,rfl⟩:=ht;exact⟨r,c,f.1,f.2,by lia,by lia⟩
 ·rintro⟨r,c,j,k,f,l⟩;obtain⟨p,i,m,n,o,q⟩:=between (d8 _) (g r c).1 (g r c).2 f l;refine .inr ⟨p,i,m,n,(r.x0,r.x1),?_,j,k⟩;simp only[aX,List.mem_map,List.mem_filter,Bool.and_eq_true,decide_eq_true_eq];exact⟨r,⟨c,o,q⟩,rfl⟩
end LR
namespace LS
open PySem PyProof.Rows L2 D3
def tG:WS:=(c5 (aAx ["y0","y1","stretches","x0","x1"] [] (cZ (aB 0)) (gT 3 (aQ (gN 0) (aQ (gN 1) (aQ (gN 2) dZ)))) lC (cZ (aB 2)) (gT 2 (aQ (gN 3) (aQ (gN 4) dZ))) lC (eP (aA (aB 3) (aA (aB 0) (aA (aB 4) (aA (aB 1) aD)))))))
def iI(a:OA):WS:=(c5 (wZ (aE qB (aA (aB 0) (aA (wC (.ty "int")) aD))) (wZ (GX (aE qB (aA (aB 0) (aA (wC (.ty "bool")) aD)))) (aT oEq (aB 0) (aB 1)))))
def iJ(a:OA):WS:=(aW (fK (sE (aE qB (aA (aB 1) (aA (wC (.ty "str")) aD)))) (c5 (wZ (aE qB (aA (aB 0) (aA (wC (.ty "str")) aD))) (aT oEq (aB 0) (aB 1)))) dE) (iI a))
def cY(a:OA):WS:=(aW (fK (sE (aE qB (aA (aB 1) (aA (eP (aA (wC (.ty "tuple")) (aA (wC (.ty "list")) aD))) aD)))) (aW (fK (QQ (dR (aT P8 (aE qB (aA (aB 0) (aA (wC (.ty "tuple")) aD))) (aE qB (aA (aB 1) (aA (wC (.ty "tuple")) aD))))) (dR (aT P8 (aE qB (aA (aB 0) (aA (wC (.ty "list")) aD))) (aE qB (aA (aB 1) (aA (wC (.ty "list")) aD)))))) (c5 (wC (.bl false))) dE) (aW (fK (dR (aT P8 (aE fX (aA (aB 0) aD)) (aE fX (aA (aB 1) aD)))) (c5 (wC (.bl false))) dE) (c5 (aT oEq (aE fX (aA (GY ["_law_k"] [0,1] (iS (aA (aE fX (aA (aB 1) aD)) aD)) (gN 0) (tQ (sE (aE a (aA (aT fI (aB 1) (aB 0)) (aA (aT fI (aB 2) (aB 0)) aD))))) (aB 0)) aD)) (wC (.int 0)))))) dE) (iJ a))
def jZ:WS:=(fB (EF "list" u5 (aB 1) (aA (GY ["_law_start","_law_end"] [2,3] (cZ (aB 4)) (gT 2 (aQ (gN 0) (aQ (gN 1) dZ))) lC (eP (aA (aB 0) (aA (aB 2) (aA (aB 1) (aA (aB 3) aD)))))) aD)))
def kW:WS:=(c5 (aB 1))
def kX:WS:=(aW (gB (cZ (aB 0)) (gT 3 (aQ (gN 2) (aQ (gN 3) (aQ (gN 4) dZ)))) (jZ)) (kW))
def fS:WS:=(aW (bZ (kB aD) (gN 1)) (kX))
open LR (En)
mutual
def plain:D->Bool
 | .int _=>true
 | .str z=>decide (z.length<=1000)
 | .tup ds=>dU ds && decide (ds.length<=1000000)
 | _=>false
def dU:List D->Bool
 | []=>true
 | d::ds=>plain d && dU ds
end
theorem uR:∀{l:List D},dU l=true↔∀d∈l,plain d=true
 | []=>by simp[dU]
 | a::l=>by simp[dU,uR (l:=l)]
def pE(n:Nat):OA:=λds mh Q=>Q (.bl true) mh/\((∃d,ds=[d,d]/\plain d=true/\deep d<n)\/∃a b xs,ds=[.ref a,.ref b]/\mh[a]? =some (.lst xs)/\mh[b]? =some (.lst xs)/\dU xs=true/\c8 xs+1<n/\xs.length<=1000000)
theorem zD{n:Nat}{d:D}{mh:MH}{Q:DK}(a:plain d=true)(b:deep d<n)(q:Q (.bl true) mh):pE n [d,d] mh Q:=⟨q,.inl ⟨d,rfl,a,b⟩⟩
theorem IG:∀{l:List D} {d:D},d∈l->deep d<=c8 l
 | a::l,d,h=>by
  simp only[c8];rcases aH2.mp h with z | z
  ·subst z;lia
  ·have:=IG z;lia
theorem xH{mh0 mh:MH}{R:DK}{n:Nat}{x y:D}{xs:List D}(ok:i7 mh)(o:bG mh x=some xs)(f:dU xs=true)(hd:c8 xs<n)(p:xs.length<=1000000)
  (hi:∀i:Int,∀M:MH,∀Q:DK,(∃T,M=mh++T)->(fI x (.int i) M Q↔got (mY xs i) λd=>Q d M)) (g:∀i:Int,∀M:MH,∀Q:DK,(∃T,M=mh++T)->(fI y (.int i) M Q↔got (mY xs i) λd=>Q d M))
  (b:∀Q:DK,fX [y] mh Q↔Q (.int xs.length) mh) (q:R (.bl true) mh):
  c5 (aT oEq (aE fX (aA (GY ["_law_k"] [0,1] (iS (aA (aE fX (aA (aB 1) aD)) aD)) (gN 0) (tQ (sE (aE (pE n) (aA (aT fI (aB 1) (aB 0)) (aA (aT fI (aB 2) (aB 0)) aD))))) (aB 0)) aD)) (wC (.int 0))) (En mh R) [some x,some y] mh:=by
 have sz:=aHh;simp[b];refine⟨by lia,?_⟩;have h:uN 0 xs.length=(List.range xs.length).map λk:Nat=>D.int (0+k):=rfl;rw[h];refine vP (λk:Nat=>D.int (0+k)) (λ_=>false) id (λk:Nat=>D.int (0+k)) _ trivial ?_ ?_
 ·intro k c N M r l;simp at c
  have a:mY xs ((0:Int)+k)=some xs[k]:=by
   have:=iG (xs:=xs) (j:=k) (v:=xs[k]) (by simp[c]);rw[<-this];congr 1;lia
  simp only[Int.zero_add]at a;simp[jM];rw[hi _ _ _ ⟨[],by simp⟩,a];simp;rw[g _ _ _ ⟨[],by simp⟩,a];simp;have e:xs[k]∈xs:=aK8 _;refine zD (uR.mp f _ e) (by have:=IG e;lia) ?_;simp[iU];exact l rfl
 ·rw[lN (fL _ _)];simp;have m:(List.range xs.length).filter (λ_=>false)=[]:=by simp
  rw[m];exact uU ok (by simp[dB]) q
theorem Y5(n:Nat)(ds:List D)(mh:MH)(R:DK)(ok:i7 mh)(h:pE (n+1) ds mh R):cY (pE n) (En mh R) (aG ["_law_found","_law_due"] ds) mh:=by
 have sz:=aHh;obtain⟨q,⟨d,rfl,c,hd⟩ | ⟨a,b,xs,rfl,ha,hb,c,hd,j⟩⟩:=h
 ·cases d with
  | int i=>
   simp[cY,aG,QR,bL,iU,sF,iJ,iI];exact⟨by lia,cA q⟩
  | str z=>
   simp[cY,aG,QR,bL,iU,sF,iJ,iI];exact⟨by lia,cA q⟩
  | tup xs=>
   simp only[plain,Bool.and_eq_true,decide_eq_true_eq]at c;simp only[deep]at hd;simp[cY,aG,QR,bL,iU,sF];have:=xH (mh0:=mh) (x:= .tup xs) (y:= .tup xs) (R:=R) (n:=n) ok rfl c.1 (by lia) c.2 (λi M Q _=>L6 xs i) (λi M Q _=>L6 xs i) (λQ=>V5 xs) q;refine⟨by lia,?_⟩;simpa using this
  | _=>simp[plain]at c
 ·simp[cY,aG,QR,bL,iU,sF,ha,hb,lN ha,lN hb];have:=xH (mh0:=mh) (x:= .ref a) (y:= .ref b) (R:=R) (n:=n) ok (bI ha) c (by lia) j (λi M Q f=>by obtain⟨T,e⟩:=f;exact eM (by rw[e];exact pR ha) i) (λi M Q g=>by obtain⟨T,e⟩:=g;exact eM (by rw[e];exact pR hb) i) (λQ=>lN hb) q;refine⟨by lia,?_⟩;simpa[lN hb] using this
open LR
def aU(g:List Bd):List R4:=g.flatMap λb=>b.ln.map λs=>⟨s.1,b.lo,s.2,b.hi⟩
theorem uO{g:List Bd}{n:Nat}(h:∀b∈g,b.ln.length<=n):(aU g).length<=n*g.length:=by
 induction g with
 | nil=>simp[aU]
 | cons b g ih=>
  have:=ih λc a=>h c (aGx _ a);have:=h b aGw;simp only[aU,List.flatMap_cons,List.length_append,List.length_map,List.length_cons]at*;rw[Nat.mul_add];lia
def sRo:OA:=λds mh Q=>∃g,ds=[gD g]/\(aU g).length<=1000000/\Q (.ref mh.length) (mh++[.lst ((aU g).map rD)])
theorem h_ro(ds:List D)(mh:MH)(R:DK)(ok:i7 mh)(c:sRo ds mh R):tG (En mh R) (aG ["region"] ds) mh:=by
 obtain⟨g,rfl,d,q⟩:=c;have sz:=aHh;simp[tG,aG,gD,bG]
 have a:(g.flatMap λb=>b.ln).length<=16777216:=by
  have:(g.flatMap λb=>b.ln).length=(aU g).length:=by simp[aU,List.length_flatMap]
  lia
 refine TV (b:=false) bD (λb=>b.ln) sD (λb s=>(⟨s.1,b.lo,s.2,b.hi⟩:R4)) rD (λb=>[some (.int b.lo),some (.int b.hi),some (iC b.ln),none,none]) g (λh=>by cases h) (by simp) (aHm a (Nat.le_of_eq aHh.symm)) (λb _ N hN=>?_) (λb _ N hN=>?_) (λb _ s _ N hN=>?_) ?_
 ·simp[bD,jM];exact hN
 ·simp[iC,bG];exact hN _ (by simp)
 ·simp[sD];exact⟨by lia,by simpa[rD] using hN⟩
 ·exact cA q
def zE:OA:=sRo
theorem TB(ds:List D)(mh:MH)(R:DK)(ok:i7 mh)(k:zE ds mh R):fS (En mh R) (aG ["_law_some","_law_found","_law_low","_law_high","_law_line_here"] ds) mh:=by
 obtain⟨g,rfl,o,q⟩:=k;have sz:=aHh;simp[fS,kX,aG,gD,bG];refine bJ (λi h mh' =>cG mh mh' /\mh'[mh.length]? =some (.lst ((aU (g.take i)).map rD))/\∃a b c,h=[some (.tup (g.map bD)),some (.ref mh.length),a,b,c]) _ (λ_ _ _ _=>by simp) ?_ ?_ ⟨cG.refl.push _,by simp[aU],_,_,_,rfl⟩
 ·rintro i d h mh' N hi ⟨j,e,a,b,c,rfl⟩ nx;obtain⟨f,hb,rfl⟩:=dN hi;have n:i<g.length:=(aGt.mp hb).1
  have l:aU (g.take (i+1))=aU (g.take i)++f.ln.map λs=>⟨s.1,f.lo,s.2,f.hi⟩:=by
   rw[take_snoc hb];simp[aU]
  have m:(aU (g.take (i+1))).length<=(aU g).length:=by
   have:aU g=aU (g.take (i+1))++aU (g.drop (i+1)):=by
    unfold aU;rw[<-List.flatMap_append,List.take_append_drop]
   rw[this,List.length_append];lia
  simp[bD,iC,jZ,sI,bG];refine⟨⟨_,e⟩,i3 sD (λs=>(⟨s.1,f.lo,s.2,f.hi⟩:R4)) rD f.ln (by simp) (λs k N hN=>?_) ?_⟩
  ·simp[jM,sD];exact⟨by lia,by simpa[rD] using hN⟩
  ·refine⟨mh.length,.ref mh'.length,_,_,rfl,rfl,aM e,bI (fL _ _),?_,?_⟩
   ·rw[l]at m;simp at m⊢;lia
   ·refine nx _ _ ⟨(j.push _).set (aGy _) _,?_,_,_,_,rfl⟩;rw[bE _ (aM e),l,List.map_append]
 ·rintro h mh' ⟨j,e,a,b,c,rfl⟩;simp[kW];simp at e;exact j.W4 ok (aGy _) e (by simp[zM,zG]) q
end LS
namespace LR
open PySem PyProof.Rows L2 D3
variable{f:List P2}
theorem lK{a:P2}(h:Sep (a::f)):Sep f/\a.1<a.2/\∀t∈f,a.2<t.1:=
 ⟨⟨λt ht=>h.1 t (aGx _ ht),(aHg.mp h.2).2⟩,h.1 a aGw,(aHg.mp h.2).1⟩
variable{x:Int}
theorem bN{a:P2}:fP (a::f) x↔(a.1<=x/\x<a.2)\/fP f x:=by
 rw[show a::f=[a]++f from rfl,mQ,mP]
theorem AR:¬fP [] x:=λa=>by obtain⟨_,h,_⟩:=a;cases h
theorem uE:∀{f g:List P2},Sep f->Sep g->(∀x,fP f x↔fP g x)->f=g
 | [],[],_,_,_=>rfl
 | [],b::g,_,hg,h=>by
  have:=lK hg;exact absurd ((h b.1).mpr (bN.mpr (.inl ⟨aIb _,this.2.1⟩))) AR
 | a::f,[],hf,_,h=>by
  have:=lK hf;exact absurd ((h a.1).mp (bN.mpr (.inl ⟨aIb _,this.2.1⟩))) AR
 | a::f,b::g,hf,hg,h=>by
  obtain⟨k,l,i⟩:=lK hf;obtain⟨m,n,j⟩:=lK hg
  have o:b.1<=a.1:=by
   rcases bN.mp ((h a.1).mp (bN.mpr (.inl ⟨aIb _,l⟩))) with z | ⟨t,ht,z⟩
   ·exact z.1
   ·have:=j t ht;lia
  have p:a.1<=b.1:=by
   rcases bN.mp ((h b.1).mpr (bN.mpr (.inl ⟨aIb _,n⟩))) with z | ⟨t,ht,z⟩
   ·exact z.1
   ·have:=i t ht;lia
  have r:b.2<=a.2:=by
   refine Int.not_lt.mp λc=>?_;rcases bN.mp ((h a.2).mpr (bN.mpr (.inl ⟨by lia,c⟩))) with z | ⟨t,ht,z⟩
   ·lia
   ·have:=i t ht;lia
  have s:a.2<=b.2:=by
   refine Int.not_lt.mp λc=>?_;rcases bN.mp ((h b.2).mp (bN.mpr (.inl ⟨by lia,c⟩))) with z | ⟨t,ht,z⟩
   ·lia
   ·have:=j t ht;lia
  have e:a=b:=aKx (by lia) (by lia);subst e;rw[uE k m λx=>⟨λd=>?_,λd=>?_⟩]
  ·rcases bN.mp ((h x).mp (bN.mpr (.inr d))) with z | z
   ·obtain⟨t,ht,q⟩:=d;have:=i t ht;lia
   ·exact z
  ·rcases bN.mp ((h x).mpr (bN.mpr (.inr d))) with z | z
   ·obtain⟨t,ht,q⟩:=d;have:=j t ht;lia
   ·exact z
variable{g:List Bd}
theorem gS{a:Bd}(h:oJ (a::g)):oJ g/\a.lo<a.hi/\a.ln≠[]/\Sep a.ln/\(∀b∈g,a.hi<=b.lo/\b.lo<b.hi)/\∀b v,g=b::v->¬(a.hi=b.lo/\a.ln=b.ln):=by
 obtain⟨f,i,j,l,k⟩:=h;have p:=aHg.mp l;refine⟨⟨λb hb=>f b (aGx _ hb),λb hb=>i b (aGx _ hb),λb hb=>j b (aGx _ hb),p.2,λu c d v e=>k (a::u) c d v (by rw[e];rfl)⟩,f a aGw,i a aGw,j a aGw,λb hb=>⟨p.1 b hb,f b (aGx _ hb)⟩,λb v e=>k [] a b v (by rw[e];rfl)⟩
variable{y:Int}
theorem bY{a:Bd}:b7 (a::g) x y↔(a.lo<=y/\y<a.hi/\fP a.ln x)\/b7 g x y:=by
 rw[show a::g=[a]++g from rfl,gR,gQ]
theorem D2:¬b7 [] x y:=λa=>by obtain⟨_,h,_⟩:=a;cases h
theorem uY(h:f≠[])(s:Sep f):∃x,fP f x:=by
 cases f with
 | nil=>exact absurd rfl h
 | cons a f=>exact⟨a.1,bN.mpr (.inl ⟨aIb _,(lK s).2.1⟩)⟩
theorem jO{a:Bd}(h:oJ (a::g))(c:a.lo<=y)(d:y<a.hi)(x:Int):b7 (a::g) x y↔fP a.ln x:=by
 rw[bY];constructor
 ·rintro(z | ⟨b,hb,z⟩)
  ·exact z.2.2
  ·have:=(gS h).2.2.2.2.1 b hb;lia
 ·exact λz=>.inl ⟨c,d,z⟩
theorem U6{a b:Bd}{g h:List Bd}(hg:oJ (a::g))(m:oJ (b::h))(w:a.lo=b.lo)(n:a.ln=b.ln)(o:∀x y,b7 (a::g) x y↔b7 (b::h) x y):b.hi<=a.hi:=by
 refine Int.not_lt.mp λf=>?_;obtain⟨k,A,p,l,q,r⟩:=gS hg
 have at_:∀x,b7 g x a.hi↔fP a.ln x:=λx=>by
  rw[n,<-jO m (y:=a.hi) (by lia) f x,<-o,bY];exact⟨.inr,λz=>z.elim (λz=>by lia) id⟩
 obtain⟨x,s⟩:=uY p l;obtain⟨c,e,B,t,C⟩:=(at_ x).mpr s
 cases g with
 | nil=>cases e
 | cons d g=>
  obtain⟨D,E,F,u,v,G⟩:=gS k;have hd:=q d aGw
  have i:c=d:=by
   rcases aH2.mp e with z | z
   ·exact z
   ·have:=v c z;lia
  subst i;have j:a.hi=c.lo:=by lia
  refine r c g rfl ⟨j,uE l u λx=>?_⟩;rw[<-at_ x];exact jO k (by lia) t x
theorem D6:∀{g h:List Bd},oJ g->oJ h->(∀x y,b7 g x y↔b7 h x y)->g=h
 | [],[],_,_,_=>rfl
 | [],b::h,_,hh,i=>by
  obtain⟨_,l,n,m,_⟩:=gS hh;obtain⟨x,f⟩:=uY n m;exact absurd ((i x b.lo).mpr (bY.mpr (.inl ⟨aIb _,l,f⟩))) D2
 | a::g,[],hg,_,i=>by
  obtain⟨_,l,n,m,_⟩:=gS hg;obtain⟨x,f⟩:=uY n m;exact absurd ((i x a.lo).mp (bY.mpr (.inl ⟨aIb _,l,f⟩))) D2
 | a::g,b::h,hg,hh,i=>by
  obtain⟨t,o,u,p,r,B⟩:=gS hg;obtain⟨v,l,n,m,s,C⟩:=gS hh
  have D:b.lo<=a.lo:=by
   obtain⟨x,f⟩:=uY u p;rcases bY.mp ((i x a.lo).mp (bY.mpr (.inl ⟨aIb _,o,f⟩))) with z | ⟨c,d,z⟩
   ·exact z.1
   ·have:=s c d;lia
  have E:a.lo<=b.lo:=by
   obtain⟨x,f⟩:=uY n m;rcases bY.mp ((i x b.lo).mpr (bY.mpr (.inl ⟨aIb _,l,f⟩))) with z | ⟨c,d,z⟩
   ·exact z.1
   ·have:=r c d;lia
  have j:a.lo=b.lo:=by lia
  have k:a.ln=b.ln:=uE p m λx=>by
   rw[<-jO hg (Int.le_refl _) o x,i,j,jO hh (Int.le_refl _) l x]
  have w:=U6 hg hh j k i;have A:=U6 hh hg j.symm k.symm λx y=>(i x y).symm
  have e:a=b:=by
   cases a;cases b;simp only at j k w A;simp only[Bd.mk.injEq];exact⟨j,by lia,k⟩
  subst e;rw[D6 t v λx y=>⟨λf=>?_,λf=>?_⟩]
  ·rcases bY.mp ((i x y).mp (bY.mpr (.inr f))) with z | z
   ·obtain⟨c,d,q⟩:=f;have:=r c d;lia
   ·exact z
  ·rcases bY.mp ((i x y).mpr (bY.mpr (.inr f))) with z | z
   ·obtain⟨c,d,q⟩:=f;have:=s c d;lia
   ·exact z
def bK(f:List Bd)(b:Bd):List Bd:=
 if b.ln=[] then f else match f.getLast? with
  | some t=>if t.hi=b.lo/\t.ln=b.ln then f.dropLast++[⟨t.lo,b.hi,b.ln⟩] else f++[b]
  | none=>[b]
theorem jI(b:Bd):bK [] b=if b.ln=[] then [] else [b]:=rfl
theorem iK(f:List Bd)(t b:Bd):bK (f++[t]) b=if b.ln=[] then f++[t] else if t.hi=b.lo/\t.ln=b.ln then f++[⟨t.lo,b.hi,b.ln⟩] else f++[t]++[b]:=by
 simp[bK]
theorem C6{f:List Bd}{p:Bd}(e:oJ f)(k:p.lo<p.hi)(d:Sep p.ln)(hb:∀b∈f,b.hi<=p.lo):
  oJ (bK f p)/\(∀b∈bK f p,b.hi<=p.hi)/\∀x y,b7 (bK f p) x y↔b7 f x y\/(p.lo<=y/\y<p.hi/\fP p.ln x):=by
 rcases aHl f with rfl | ⟨g,t,rfl⟩
 ·rw[jI];split
  ·rename_i c;rw[c];exact⟨e,by simp,λx y=>by simp[b7,fP]⟩
  ·rename_i c;exact⟨IJ k c d,by simp,λx y=>by simp[b7]⟩
 ·rw[List.concat_eq_append]at*;rw[iK];have j:=hb t (by simp);split
  ·rename_i c;rw[c];exact⟨e,λb a=>by have:=hb b a;lia,λx y=>by simp[fP]⟩
  ·rename_i c;split
   ·rename_i i;obtain⟨i,l⟩:=i;rw[<-l];refine⟨r8 e (by lia),λb a=>?_,λx y=>?_⟩
    ·rcases aGz.mp a with z | z
     ·have:=hb b (by simp[z]);lia
     ·simp at z;subst z;simp
    ·rw[gR,gR,gQ,gQ];simp only;have m:=e.lt t (by simp);constructor
     ·rintro(h | h)
      ·exact .inl (.inl h)
      ·by_cases n:y<t.hi
       ·exact .inl (.inr ⟨h.1,n,h.2.2⟩)
       ·exact .inr ⟨by lia,h.2.1,h.2.2⟩
     ·rintro((h | h) | h)
      ·exact .inl h
      ·exact .inr ⟨h.1,by lia,h.2.2⟩
      ·exact .inr ⟨by lia,h.2.1,h.2.2⟩
   ·rename_i i;refine⟨D7 e k c d j i,λb a=>?_,λx y=>by rw[gR,gQ]⟩;rcases aGz.mp a with z | z
    ·have:=hb b z;lia
    ·simp at z;subst z;simp
theorem nR:∀(l f:List Bd),(∀b∈l,b.lo<b.hi/\Sep b.ln)->l.Pairwise (λa b=>a.hi<=b.lo)->oJ f->(∀b∈f,∀c∈l,b.hi<=c.lo)->
  oJ (l.foldl bK f)/\∀x y,b7 (l.foldl bK f) x y↔b7 f x y\/b7 l x y
 | [],f,_,_,hf,_=>⟨hf,λx y=>by simp[b7]⟩
 | p::l,f,h1,h2,hf,h3=>by
  have c:=aHg.mp h2;obtain⟨e,g,h⟩:=C6 hf (h1 p aGw).1 (h1 p aGw).2 λb hb=>h3 b hb p aGw
  obtain⟨i,j⟩:=nR l (bK f p) (λb hb=>h1 b (aGx _ hb)) c.2 e λb hb d hd=>by
   have:=g b hb;have:=c.1 d hd
   lia
  refine⟨i,λx y=>?_⟩;rw[List.foldl_cons,j,h,bY,or_assoc]
theorem zY(f:List Bd)(b:Bd):(bK f b).length<=f.length+1:=by
 rcases aHl f with rfl | ⟨g,t,rfl⟩
 ·rw[jI];split <;> simp
 ·rw[List.concat_eq_append,iK];split
  ·simp
  ·split <;> simp
theorem lX:∀(l f:List Bd),(l.foldl bK f).length<=f.length+l.length
 | [],f=>by simp
 | p::l,f=>by
  have a:=lX l (bK f p);have b:=zY f p;simp only[List.foldl_cons,List.length_cons];lia
def nM:List Int->List P2
 | a::b::r=>(a,b)::nM r
 | _=>[]
def p5(v:Int->Int):List Int->Int->List Int
 | [],_=>[]
 | x::r,a=>if decide (a<1)=decide (a+v x<1) then p5 v r (a+v x) else x::p5 v r (a+v x)
theorem pZ{v:Int->Int}{y:Int}:∀{ks:List Int} {a:Int},y∈p5 v ks a->y∈ks
 | [],a,h=>by simp[p5]at h
 | x::r,a,h=>by
  unfold p5 at h;split at h
  ·exact aGx _ (pZ h)
  ·rcases aH2.mp h with z | z
   ·exact z▸aGw
   ·exact aGx _ (pZ z)
theorem qI{c:Int->Int}{x:Int}{r:List Int}(a:∀y,x<y->y∉r->c y=c (y-1)):∀(n:Nat) (y:Int),y=x+n->(∀k∈r,y<k)->c y=c x
 | 0,y,e,_=>by rw[e];simp
 | n+1,y,e,h=>by
  rw[a y (by lia) λb=>by have:=h y b;lia];exact qI a n (y-1) (by lia) λk d=>by have:=h k d;lia
theorem O6{c v:Int->Int}:∀(ks:List Int) (lo:Int),ks.Pairwise (· < ·)->(∀k∈ks,lo<k)->(∀k∈ks,v k=c k-c (k-1))->(∀y,lo<y->y∉ks->c y=c (y-1))->(∃m,∀y,m<=y->c y<1)->
  (c lo<1->Sep (nM (p5 v ks (c lo)))/\(∀t∈nM (p5 v ks (c lo)),t.1∈ks)/\∀x,lo<=x->(fP (nM (p5 v ks (c lo))) x↔1<=c x))/\
  (1<=c lo->∀s,(∀k∈ks,s<k)->s<=lo->Sep (nM (s::p5 v ks (c lo)))/\(∀t∈nM (s::p5 v ks (c lo)),s<=t.1)/\(∀x,s<=x->x<=lo->fP (nM (s::p5 v ks (c lo))) x)/\∀x,lo<=x->(fP (nM (s::p5 v ks (c lo))) x↔1<=c x))
 | [],lo,_,_,_,hn,⟨m,hm⟩=>by
  have all:∀x,lo<=x->c x=c lo:=λx D=>qI hn (x-lo).toNat x (by lia) (by simp);refine⟨λh=>⟨⟨by simp[p5,nM],by simp[p5,nM]⟩,by simp[p5,nM],λx D=>?_⟩,λh=>?_⟩
  ·rw[all x D];simp only[p5,nM];exact⟨λz=>absurd z AR,λz=>by lia⟩
  ·exfalso;have j:=hm (max m lo) (by lia);rw[all _ (by lia)]at j
   lia
 | x::r,lo,hs,hlo,hv,hn,hm=>by
  have p:=aHg.mp hs;have D:=hlo x aGw
  have pre:∀y,lo<=y->y<x->c y=c lo:=λy j C=>qI hn (y-lo).toNat y (by lia) λk o=>by
   rcases aH2.mp o with z | z
   ·lia
   ·have:=p.1 k z;lia
  have E:c lo+v x=c x:=by
   rw[hv x List.mem_cons_self,pre (x-1) (by lia) (by lia)];lia
  obtain⟨u,A⟩:=O6 r x p.2 p.1 (λk o=>hv k (aGx _ o)) (λy j C=>hn y (by lia) λf=>by
   rcases aH2.mp f with z | z
   ·lia
   ·exact C z) hm
  unfold p5;rw[E];refine⟨λh=>?_,λh s B H=>?_⟩
  ·by_cases hd:c x<1
   ·rw[if_pos (by simp[h,hd])];obtain⟨i,g,n⟩:=u hd;refine⟨i,λt ht=>aGx _ (g t ht),λy f=>?_⟩;by_cases d:x<=y
    ·exact n y d
    ·rw[pre y f (by lia)];refine⟨λ⟨t,ht,z⟩=>?_,λz=>by lia⟩;have:=p.1 t.1 (g t ht);lia
   ·rw[if_neg (by simp[h,hd])];obtain⟨i,g,_,n⟩:=A (by lia) x p.1 (aIb _);refine⟨i,λt ht=>?_,λy f=>?_⟩
    ·cases e:p5 v r (c x) with
     | nil=>rw[e]at ht;simp[nM]at ht
     | cons z l=>
      rw[e]at ht
      have:∀(l:List Int) (t:P2),t∈nM l->t.1∈l:=by
       intro l
       induction l using nM.induct with
       | case1 a b r I=>
        intro t ht;simp only[nM,List.mem_cons]at ht;rcases ht with rfl | ht
        ·simp
        ·have:=I t ht;simp[this]
       | case2 l hl=>
        intro t ht
        cases l with
        | nil=>simp[nM]at ht
        | cons a l=>cases l with
         | nil=>simp[nM]at ht
         | cons b l=>exact absurd rfl (hl a b l)
      have q:=this _ t ht;rw[<-e]at q;rcases aH2.mp q with w | w
      ·rw[w];exact aGw
      ·exact aGx _ (pZ w)
    ·by_cases d:x<=y
     ·exact n y d
     ·rw[pre y f (by lia)];refine⟨λ⟨t,ht,z⟩=>?_,λz=>by lia⟩;have:=g t ht;lia
  ·by_cases hd:c x<1
   ·rw[if_neg (by simp[hd];lia)];obtain⟨i,g,n⟩:=u hd;have F:=B x aGw;simp only[nM];refine⟨⟨λt ht=>?_,aHg.mpr ⟨λt ht=>p.1 t.1 (g t ht),i.2⟩⟩,λt ht=>?_,?_,λy f=>?_⟩
    ·rcases aH2.mp ht with z | z
     ·subst z;exact F
     ·exact i.1 t z
    ·rcases aH2.mp ht with z | z
     ·subst z;exact aIb _
     ·have:=p.1 t.1 (g t z);lia
    ·intro y j C;exact bN.mpr (.inl ⟨j,by simp only;lia⟩)
    ·rw[bN];by_cases d:x<=y
     ·rw[n y d];exact⟨λz=>z.elim (λz=>by simp only at z;lia) id,.inr⟩
     ·rw[pre y f (by lia)];exact⟨λ_=>h,λ_=>.inl ⟨by simp only;lia,by simp only;lia⟩⟩
   ·rw[if_pos (by simp[hd];lia)];obtain⟨i,g,G,n⟩:=A (by lia) s (λk o=>B k (aGx _ o)) (by lia);refine⟨i,g,λy j C=>G y j (by lia),λy f=>?_⟩;by_cases d:x<=y
    ·exact n y d
    ·rw[pre y f (by lia)];exact⟨λ_=>h,λ_=>G y (by lia) (by lia)⟩
def m5:WS:=(fK (rH (sE (aB 1)) (rH (dR (aT oEq (aT fI (aT fI (aB 1) (A7 kG (wC (.int 1)))) (wC (.int 1))) (aB 2))) (dR (aT oEq (aT fI (aT fI (aB 1) (A7 kG (wC (.int 1)))) (wC (.int 2))) (aB 4))))) (rF (eP (aA (aT fI (aT fI (aB 1) (A7 kG (wC (.int 1)))) (wC (.int 0))) (aA (aB 3) (aA (aB 4) aD)))) (aB 1) (A7 kG (wC (.int 1)))) (fB (EF "list" cP (aB 1) (aA (eP (aA (aB 2) (aA (aB 3) (aA (aB 4) aD)))) aD))))
def kK:WS:=(aW (fK (tQ (sE (aB 4))) VI dE) (m5))
def tO:WS:=(c5 (aE oG (aA (aB 1) aD)))
def tP:WS:=(aW (gB (cZ (aB 0)) (gT 3 (aQ (gN 2) (aQ (gN 3) (aQ (gN 4) dZ)))) (kK)) (tO))
def oP:WS:=(aW (bZ (kB aD) (gN 1)) (tP))
def oO:WS:=(c5 (wTZ 2 (aA (LJ (aB 0) VH VH (rG (wC (.int 2)))) (aA (LJ (aB 0) (rG (wC (.int 1))) VH (rG (wC (.int 2)))) aD))))
def iP:WS:=(fK (dR (aT oEq (aT MZ (aB 0) (aB 5)) (wC (.int 0)))) (LM (aB 0) (aB 5)) dE)
def f9:WS:=(aW (GW (aT cO (GZ (aB 0) (aB 5) (wC (.int 0))) (aB 6)) (aB 0) (aB 5)) (iP))
def kM:WS:=(gB (cZ (eP (aA (eP (aA (aB 3) (aA (aB 2) aD))) (aA (eP (aA (aB 4) (aA (A7 kG (aB 2)) aD))) aD)))) (gT 2 (aQ (gN 5) (aQ (gN 6) dZ))) (f9))
def gY:WS:=(gB (cZ (aB 1)) (gT 2 (aQ (gN 3) (aQ (gN 4) dZ))) (kM))
def f7(a:OA):WS:=(fK (dR (aT P8 (aT oLt (aB 5) (aB 1)) (aT oLt (aB 3) (aB 1)))) (fB (EF "list" cP (aB 2) (aA (aB 4) aD))) dE)
def kL(a:OA):WS:=(aW (aAy 3 (aT MZ (aB 0) (aB 4)) UX) (f7 a))
def oQ(a:OA):WS:=(aW (bZ (aB 3) (gN 5)) (kL a))
def rB(a:OA):WS:=(c5 (aE a (aA (aB 2) aD)))
def rC(a:OA):WS:=(aW (gB (cZ (aE vY (aA (aB 0) aD))) (gN 4) (oQ a)) (rB a))
def rE(a:OA):WS:=(aW (bZ (wC (.int 0)) (gN 3)) (rC a))
def mG(a:OA):WS:=(aW (bZ (kB aD) (gN 2)) (rE a))
def f6(a s1 s2:OA):WS:=(fB (EF "list" cP (wY (aB 2) (aB 4) (kB aD)) (aA (eP (aA (aB 5) (aA (A7 kG (wC (.int 1))) aD))) aD)))
def oM(a s1 s2:OA):WS:=(aW (fB (EF "list" cP (wY (aB 2) (aB 3) (kB aD)) (aA (eP (aA (aB 5) (aA (wC (.int 1)) aD))) aD))) (f6 a s1 s2))
def oK(a s1 s2:OA):WS:=(fB (aE a (aA (aB 7) (aA (aB 5) (aA (aB 10) aD)))))
def kJ(a s1 s2:OA):WS:=(fB (EF "list" cP (aB 8) (aA (aE s1 (aA (aB 7) (aA (aB 1) aD))) aD)))
def i8(a s1 s2:OA):WS:=(aW (gB (cZ (aT MZ (aB 2) (aB 9))) (gT 2 (aQ (gN 5) (aQ (gN 10) dZ))) (oK a s1 s2)) (kJ a s1 s2))
def qW(a s1 s2:OA):WS:=(c5 (aE s2 (aA (wLZ 3 (aA (aB 6) (aA (wSl oSl (aB 6) (rG (wC (.int 1))) VH) (aA (aB 8) aD)))) aD)))
def qX(a s1 s2:OA):WS:=(aW (gB (cZ (aB 6)) (gN 9) (i8 a s1 s2)) (qW a s1 s2))
def qY(a s1 s2:OA):WS:=(aW (bZ (kB aD) (gN 8)) (qX a s1 s2))
def qZ(a s1 s2:OA):WS:=(aW (bZ (yY false) (gN 7)) (qY a s1 s2))
def q0(a s1 s2:OA):WS:=(aW (bZ (aE vY (aA (aB 2) aD)) (gN 6)) (qZ a s1 s2))
def q5(a s1 s2:OA):WS:=(aW (gB (cZ (aB 0)) (gT 3 (aQ (gN 3) (aQ (gN 4) (aQ (gN 5) dZ)))) (oM a s1 s2)) (q0 a s1 s2))
def mF(a s1 s2:OA):WS:=(aW (bZ (yY false) (gN 2)) (q5 a s1 s2))
def jE:OA:=λds mh Q=>∃(n:Nat) (L:List Bd),ds=[.ref n]/\mh[n]? =some (.lst (L.map bD))/\L.length<=4000/\Q (gD (L.foldl bK [])) mh
variable{mh:MH}{n:Nat}
theorem JW{L:List Bd}{Q:DK}(h:mh[n]? =some (.lst (L.map bD)))(a:L.length<=4000)(q:Q (gD (L.foldl bK [])) mh):jE [.ref n] mh Q:=⟨n,L,rfl,h,a,q⟩
theorem TC{mh mh' :MH}{E:d6}{n e:Nat}{b:Bd}{f:List Bd}(u:cG mh mh')(d:mh'[e]? =some (.lst (f.map bD)))(p:mh.length<=e)(i:f.length<=4000)
  (nx:∀l m o M,cG mh M->M[e]? =some (.lst ((bK f b).map bD))->(∀k,k≠e->M[k]? =mh'[k]?)->E.nx [some (.ref n),some (.ref e),l,m,o] M/\E.ct [some (.ref n),some (.ref e),l,m,o] M):
  kK E [some (.ref n),some (.ref e),some (.int b.lo),some (.int b.hi),some (iC b.ln)] mh' :=by
 have sz:=aHh;have keep:=lJ d;have j:=l9 b.ln;have a:=λl m o=>nx l m o (mh'.set e (.lst ((bK f b).map bD))) (u.set p _) (bE _ d) (λk v=>by rw[List.getElem?_set_ne (Ne.symm v)]);obtain⟨lo,hi,ln⟩:=b;simp only at j⊢;simp[kK,m5,iC,iU];rcases aHl f with rfl | ⟨g,t,rfl⟩
 ·simp only[jI]at a;by_cases c:ln=[]
  ·subst c;simp at a⊢;simp at keep;rw[keep]at a;exact(a _ _ _).2
  ·simp[c,d]at a⊢;rw[dS d];exact⟨by simp[sI,d],by lia,by simp;lia,by simpa[bD,iC] using (a _ _ _).1⟩
 ·rw[List.concat_eq_append]at*;have h:mY ((g++[t]).map bD) (-1)=some (.tup [.int t.lo,.int t.hi,.tup (t.ln.map sD)]):=by rw[List.map_append];exact sX _ _
  simp only[iK]at a;by_cases c:ln=[]
  ·subst c;simp at a⊢;simp at keep;rw[keep]at a;exact(a _ _ _).2
  ·have q:=l9 t.ln;simp[c,d]at a⊢;rw[eM d,h];simp[mC,A3];by_cases r:t.hi=lo
   ·simp[r]at a⊢;rw[eM d,h];simp[mC,A3];refine⟨q.1,j.1,by lia,?_⟩;rw[AI];by_cases s:t.ln=ln
    ·simp[s]at a⊢;rw[eM d,h];simp[mC,A3];rw[uI d];simp only[List.length_map,List.length_append,List.length_cons,List.length_nil,Nat.zero_add,vC,cB];have:=(a (some (.int lo)) (some (.int hi)) (some (.tup (ln.map sD)))).1;refine⟨by lia,?_⟩;simpa[bD,iC] using this
    ·simp[s]at a⊢;rw[dS d];refine⟨by simp[sI,d],by lia,by simp at i⊢;lia,?_⟩;have:=(a (some (.int lo)) (some (.int hi)) (some (.tup (ln.map sD)))).1;simpa[bD,iC] using this
   ·simp[r]at a⊢;rw[dS d];refine⟨by simp[sI,d],by lia,by simp at i⊢;lia,?_⟩;have:=(a (some (.int lo)) (some (.int hi)) (some (.tup (ln.map sD)))).1;simpa[bD,iC] using this
theorem OQ(ds:List D)(mh:MH)(R:DK)(ok:i7 mh)(r:jE ds mh R):oP (En mh R) (aG ["bands","kept","y0","y1","stretches"] ds) mh:=by
 obtain⟨n,L,rfl,j,y,q⟩:=r;have sz:=aHh;have s:n<mh.length:=eS j;simp[oP,tP,aG];rw[bI (aM j)];simp only[cB];refine bJ (λi f mh' =>(∃a b c,f=[some (.ref n),some (.ref mh.length),a,b,c])/\cG mh mh' /\mh'[n]? =some (.lst (L.map bD))/\mh'[mh.length]? =some (.lst (((L.take i).foldl bK []).map bD))) _ ?_ ?_ ?_ ⟨⟨_,_,_,rfl⟩,⟨_,rfl⟩,aM j,by simp⟩
 ·rintro i f mh' ⟨_,_,g,_⟩;exact bI g
 ·rintro i d f mh' N hi ⟨⟨a,b,c,rfl⟩,e,g,h⟩ nx;obtain⟨p,o,rfl⟩:=dN hi;have t:i<L.length:=(aGt.mp o).1;have k:=lX (L.take i) [];simp[bD];refine TC e h (aGy _) (by simp at k⊢;lia) λu l v M m w x=>?_;have:N [some (.ref n),some (.ref mh.length),u,l,v] M:=nx _ _ ⟨⟨_,_,_,rfl⟩,m,by rw[x n (by lia)];exact g,by rw[w,take_snoc o];simp⟩;exact⟨this,this⟩
 ·rintro f mh' ⟨⟨a,b,c,rfl⟩,e,g,h⟩;simp at h;simp[tO];rw[bI h];exact e.out ok (mJ _ _) q
theorem zI:∀l:List Int,(aJ [(lY l).map D.int,(uW l).map D.int]).map D.tup=(nM l).map sD
 | []=>rfl
 | [a]=>by simp[lY,uW,aJ,nM]
 | a::b::r=>by
  have c:=zI r;simp only[aJ]at c⊢;simp only[lY,uW,List.map_cons,List.zipWith_cons_cons,nM,c];rfl
theorem zJ:∀l:List Int,(nM l).length<=l.length
 | []=>by simp[nM]
 | [a]=>by simp[nM]
 | a::b::r=>by have:=zJ r;simp only[nM,List.length_cons];lia
theorem xP{α a:Type}(f:α->a)(xs:List α)(lo hi st:Option Int):gI (xs.map f) lo hi st=(gI xs lo hi st).map f:=by
 unfold gI;rw[List.length_map,List.map_filterMap];congr 1;funext i;simp
def pF:OA:=λds mh Q=>∃(n:Nat) (l:List Int),ds=[.ref n]/\mh[n]? =some (.lst (l.map .int))/\l.length<=1000000/\Q (iC (nM l)) mh
theorem OO(ds:List D)(mh:MH)(R:DK)(ok:i7 mh)(b:pF ds mh R):oO (En mh R) (aG ["edges"] ds) mh:=by
 obtain⟨n,l,rfl,a,c,q⟩:=b;have sz:=aHh;simp[oO,aG];refine⟨l.map .int,FH a,?_⟩;rw[xP,E4];refine⟨l.map .int,FH (aM a),?_⟩;rw[xP,JF];refine⟨[(lY l).map .int,(uW l).map .int],?_,?_,?_⟩
 ·simp[j6,bG]
 ·have:=aHu List.length (zI l);have d:=zJ l;simp only[List.length_map]at this
  lia
 ·rw[zI]
  have:cG mh (mh++[MO.lst ((lY l).map .int),MO.lst ((uW l).map .int)]):=⟨_,rfl⟩
  exact this.out ok (by simp[dB,pJ]) q
structure kH(xs:List Int)(kvs:List (D×D))(δ:Int->Int):Prop where
 key:∀p∈kvs,∃x∈xs,p.1= .int x
 nd:(kvs.map (·.1)).Nodup
 val:∀x,bF kvs (.int x)=if δ x=0 then none else some (.int (δ x))
theorem iT{k:D}:∀{kvs:List (D×D)},bF kvs k=none↔∀p∈kvs,p.1≠k
 | []=>by simp[bF]
 | p::kvs=>by
  simp only[bF];by_cases h:p.1=k
  ·simp[h]
  ·simp[h,iT (kvs:=kvs)]
theorem v8(k:D)(kvs:List (D×D)):bF (bM kvs k) k=none:=iT.mpr λp a=>by
 have:=(aIx.mp a).2;simpa using this
theorem rJ{k j:D}(a:j≠k):∀(kvs:List (D×D)),bF (bM kvs k) j=bF kvs j
 | []=>rfl
 | p::kvs=>by
  have b:=rJ a kvs;by_cases h:p.1=k
  ·have e:bM (p::kvs) k=bM kvs k:=by unfold bM;rw[List.filter_cons_of_neg (by simp[h])]
   have:¬p.1=j:=λz=>a (by rw[<-z,h]);rw[e,b];simp[bF,this]
  ·have e:bM (p::kvs) k=p::bM kvs k:=by unfold bM;rw[List.filter_cons_of_pos (by simp[h])]
   rw[e];simp only[bF,b]
theorem zQ:∀(l m:List Int),l.Nodup->(∀x∈l,x∈m)->l.length<=m.length
 | [],m,_,_=>by simp
 | a::l,m,nd,h=>by
  have c:=aIi.mp nd;have b:=h a aGw;have:=zQ l (m.erase a) c.2 λx d=>(aKc (λz:x=a=>c.1 (by rw[<-z];exact d))).mpr (h x (aGx _ d));rw[List.length_erase_of_mem b]at this;have:=aK3 b;simp only[List.length_cons];lia
variable{xs:List Int}{kvs:List (D×D)}{δ:Int->Int}
theorem kH.keys(h:kH xs kvs δ):∃a:List Int,kvs.map (·.1)=a.map D.int/\a.Nodup/\(∀x∈a,x∈xs)/\∀x,x∈a↔δ x≠0:=by
 obtain⟨a,e,i⟩:∃a:List Int,kvs.map (·.1)=a.map D.int/\∀x∈a,x∈xs:=by
  have:=h.key;clear h
  induction kvs with
  | nil=>exact⟨[],rfl,by simp⟩
  | cons p kvs ih=>
   obtain⟨x,b,e⟩:=this p aGw;obtain⟨a,j,k⟩:=ih λq l=>this q (aGx _ l)
   exact⟨x::a,by simp[e,j],λy d=>by
    rcases aH2.mp d with z | z
    ·rw[z];exact b
    ·exact k y z⟩
 have nd:a.Nodup:=by
  have:=h.nd;rw[e]at this;rw[List.nodup_iff_pairwise_ne]at this⊢;rw[List.pairwise_map]at this;exact this.imp λh z=>h (by rw[z])
 refine⟨a,e,nd,i,λx=>?_⟩;have c:=h.val x;constructor
 ·intro b h0;rw[if_pos h0]at c;have f :D.int x∈kvs.map (·.1):=by rw[e];exact aH8 b
  obtain⟨p,g,ep⟩:=aH5.mp f;exact iT.mp c p g ep
 ·intro h0;by_cases b:x∈a
  ·exact b
  ·exfalso;rw[if_neg h0]at c
   have:bF kvs (.int x)=none:=iT.mpr λp g z=>by
    have:D.int x∈a.map D.int:=by rw[<-e,<-z];exact aH8 g
    obtain⟨y,d,m⟩:=aH5.mp this;cases m;exact b d
   rw[this]at c;cases c
theorem kH.len(h:kH xs kvs δ):kvs.length<=xs.length:=by
 obtain⟨a,e,nd,b,_⟩:=h.keys;have:=zQ a xs nd b;have:=aHu List.length e;simp at this;lia
theorem xJ(h:(kvs.map (·.1)).Nodup)(k v:D):((putD kvs k v).map (·.1)).Nodup:=by
 rw[JD];split
 ·exact h
 ·rename_i hk;rw[List.nodup_append];refine⟨h,by simp,λa ha b hb=>?_⟩;simp at hb;subst hb;obtain⟨p,c,rfl⟩:=aH5.mp ha;exact λz=>hk ⟨p,c,z⟩
theorem O9{k:D}{p:D×D}(h:p∈bM kvs k):p∈kvs:=(aIx.mp h).1
theorem F5(h:(kvs.map (·.1)).Nodup)(k:D):((bM kvs k).map (·.1)).Nodup:=(List.filter_sublist.map _).nodup h
noncomputable def stepK(kvs:List (D×D))(x v:Int):List (D×D):=if v=0 then bM (putD kvs (.int x) (.int v)) (.int x) else putD kvs (.int x) (.int v)
theorem kH.step(h:kH xs kvs δ)(d:x∈xs)(m:Int):kH xs (stepK kvs x (δ x+m)) (λy=>δ y+if y=x then m else 0):=by
 have kp:∀p∈putD kvs (.int x) (.int (δ x+m)),∃y∈xs,p.1= .int y:=λp a=>by
  rcases B6 a with z | z
  ·exact h.key p z
  ·exact⟨x,d,z.1⟩
 have b:=xJ h.nd (.int x) (.int (δ x+m))
 have c:∀y,bF (putD kvs (.int x) (.int (δ x+m))) (.int y)=if y=x then some (.int (δ x+m)) else if δ y=0 then none else some (.int (δ y)):=λy=>by
  by_cases e:y=x
  ·subst e;simp[jD]
  ·rw[tU _ _ (by simpa using e),h.val y];simp[e]
 unfold stepK;split
 ·rename_i h0;refine⟨λp a=>kp p (O9 a),F5 b _,λy=>?_⟩;by_cases e:y=x
  ·subst e;rw[v8];simp[h0]
  ·rw[rJ (by simpa using e),c];simp[e]
 ·rename_i h0;refine⟨kp,b,λy=>?_⟩;rw[c];by_cases e:y=x
  ·subst e;simp[h0]
  ·simp[e]
def nO(ln:List P2)(x:Int):Int:=(ln.map λt=>(if t.1<=x then 1 else 0)-(if t.2<=x then (1:Int) else 0)).sum
theorem u7(t:P2)(ln:List P2)(x:Int):nO (t::ln) x=(if t.1<=x then 1 else 0)-(if t.2<=x then (1:Int) else 0)+nO ln x:=by simp[nO]
def EY:OA:=λds mh Q=>∃(n:Nat) (kvs:List (D×D)) (ln:List P2) (m:Int) (xs:List Int) (δ:Int->Int),ds=[.ref n,iC ln,.int m]/\mh[n]? =some (.dic false kvs)/\kH xs kvs δ/\xs.length<4000/\ln.length<=1000000/\(∀t∈ln,t.1∈xs/\t.2∈xs)/\
 ∀a,kH xs a (λx=>δ x+m*(nO ln x-nO ln (x-1)))->Q .b9 (mh.set n (.dic false a))
theorem Z8{ln:List P2}{m:Int}{Q:DK}(b:mh[n]? =some (.dic false kvs))(c:kH xs kvs δ)(d:xs.length<4000)(e:ln.length<=1000000)(f:∀t∈ln,t.1∈xs/\t.2∈xs)
  (q:∀a,kH xs a (λx=>δ x+m*(nO ln x-nO ln (x-1)))->Q .b9 (mh.set n (.dic false a))):EY [.ref n,iC ln,.int m] mh Q:=⟨n,kvs,ln,m,xs,δ,rfl,b,c,d,e,f,q⟩
theorem OU{E:d6}{x m:Int}{e f g h:Option D}(b:mh[n]? =some (.dic false kvs))(c:kH xs kvs δ)(k:xs.length<4000)(i:x∈xs)
  (q:∀a,kH xs a (λy=>δ y+if y=x then m else 0)->E.nx [some (.ref n),e,f,g,h,some (.int x),some (.int m)] (mh.set n (.dic false a))):
  f9 E [some (.ref n),e,f,g,h,some (.int x),some (.int m)] mh:=by
 have sz:=aHh;have l:=c.len;simp[f9];refine⟨⟨_,b⟩,kvs,b,⟨.inl x,rfl⟩,?_⟩
 have j:(bF kvs (.int x)).getD (.int 0)= .int (δ x):=by
  rw[c.val x];by_cases h0:δ x=0
  ·simp[h0]
  ·simp[h0]
 rw[j];simp;refine⟨n,kvs,.inl x,rfl,b,rfl,by lia,?_⟩;have d:=bE (.dic false (putD kvs (.int x) (.int (δ x+m)))) b;simp[iP];refine⟨n,_,.inl x,_,rfl,d,rfl,jD _ _ _,?_⟩;simp;have st:=c.step i m;by_cases h0:δ x+m=0
 ·simp[h0];rw[h0]at d;refine⟨_,d,⟨.inl x,rfl⟩,by rw[jD];rfl,?_⟩;unfold stepK at st;rw[if_pos h0,h0]at st;exact q _ st
 ·simp[h0];unfold stepK at st;rw[if_neg h0]at st;exact q _ st
theorem aD1(ds:List D)(mh:MH)(R:DK)(ok:i7 mh)(A:EY ds mh R):gY (En mh R) (aG ["steps","stretches","more","x0","x1","x","change"] ds) mh:=by
 obtain⟨n,kvs,ln,m,xs,δ,rfl,j,B,r,F,C,q⟩:=A;have sz:=aHh;simp[gY,aG,iC];refine bJ (λi k mh' =>(∃a b c d,k=[some (.ref n),some (.tup (ln.map sD)),some (.int m),a,b,c,d])/\∃f,mh' =mh.set n (.dic false f)/\kH xs f (λx=>δ x+m*(nO (ln.take i) x-nO (ln.take i) (x-1)))) _ ?_ ?_ ?_ ⟨⟨_,_,_,_,rfl⟩,kvs,(lJ j).symm,by simpa[nO] using B⟩
 ·intros;rfl
 ·rintro i d k mh' N hi ⟨⟨a,b,c,d',rfl⟩,f,rfl,st⟩ nx;obtain⟨t,ht,rfl⟩:=dN hi;have g:=C t (aH1 ht);simp[sD,kM];refine⟨by lia,?_⟩;show j7 _ _ _ _ _ _ _;have E:(mh.set n (.dic false f))[n]? =some (.dic false f):=bE _ j;simp only[j7];refine⟨rfl,?_⟩;simp;refine OU E st r g.1 λs l=>?_;refine⟨rfl,?_⟩;simp;refine OU (bE _ j) l r g.2 λh o=>?_;refine⟨rfl,?_⟩;simp;refine nx _ _ ⟨⟨_,_,_,_,rfl⟩,h,rfl,?_⟩;rw[take_snoc ht]
  have e:(λx=>δ x+m*(nO (ln.take i++[t]) x-nO (ln.take i++[t]) (x-1)))=λy=>δ y+m*(nO (ln.take i) y-nO (ln.take i) (y-1))+(if y=t.1 then m else 0)+if y=t.2 then -m else 0:=by
   funext y;have u:∀y,nO (ln.take i++[t]) y=nO (ln.take i) y+((if t.1<=y then 1 else 0)-(if t.2<=y then (1:Int) else 0)):=λy=>by simp[nO]
   rw[u,u]
   have v:∀z:Int,(if z<=y then 1 else 0)-(if z<=y-1 then (1:Int) else 0)=if y=z then 1 else 0:=λz=>by
    by_cases p:z<=y-1
    ·simp[p,show z<=y by lia,show ¬y=z by lia]
    ·by_cases w:z<=y
     ·rw[if_pos w,if_neg p,if_pos (by lia)];rfl
     ·simp[p,w,show ¬y=z by lia]
   have G:=v t.1;have H:=v t.2;have:nO (ln.take i) y+((if t.1<=y then 1 else 0)-(if t.2<=y then (1:Int) else 0))-(nO (ln.take i) (y-1)+((if t.1<=y-1 then 1 else 0)-(if t.2<=y-1 then (1:Int) else 0)))=nO (ln.take i) y-nO (ln.take i) (y-1)+(if y=t.1 then 1 else 0)-(if y=t.2 then 1 else 0):=by lia
   rw[this,Int.mul_sub,Int.mul_add]
   have m1:m*(if y=t.1 then (1:Int) else 0)=if y=t.1 then m else 0:=by split <;> simp
   have m2:m*(if y=t.2 then (1:Int) else 0)=if y=t.2 then m else 0:=by split <;> simp
   rw[m1,m2];split <;> split <;> lia
  rw[e];exact o
 ·rintro k mh' ⟨⟨a,b,c,d',rfl⟩,f,rfl,st⟩;simp only[List.length_map,List.take_length]at st;exact cA (q f st)
def uL:OA:=λds mh Q=>∃(n:Nat) (kvs:List (D×D)) (xs:List Int) (c:Int->Int),ds=[.ref n,.int 1]/\mh[n]? =some (.dic false kvs)/\kH xs kvs (λx=>c x-c (x-1))/\xs.length<4000/\(∃m,∀y,y<=m->c y=0)/\(∃m,∀y,m<=y->c y<1)/\
 ∀f:List P2,Sep f->(∀x,fP f x↔1<=c x)->(∀t∈f,t.1∈xs/\t.2∈xs)->f.length<=xs.length->Q (iC f) mh
theorem TR{c:Int->Int}{Q:DK}(a:mh[n]? =some (.dic false kvs))(b:kH xs kvs (λx=>c x-c (x-1)))(d:xs.length<4000)(e:∃m,∀y,y<=m->c y=0)(g:∃m,∀y,m<=y->c y<1)
  (q:∀f:List P2,Sep f->(∀x,fP f x↔1<=c x)->(∀t∈f,t.1∈xs/\t.2∈xs)->f.length<=xs.length->Q (iC f) mh):uL [.ref n,.int 1] mh Q:=⟨n,kvs,xs,c,rfl,a,b,d,e,g,q⟩
theorem DQ(v:Int->Int):∀(l:List Int) (x a:Int),p5 v (l++[x]) a=p5 v l a++(if decide (a+(l.map v).sum<1)=decide (a+(l.map v).sum+v x<1) then [] else [x])
 | [],x,a=>by simp[p5]
 | y::l,x,a=>by
  have b:=DQ v l x (a+v y);have e:a+v y+(l.map v).sum=a+((y::l).map v).sum:=by simp;lia
  rw[e]at b;simp only[List.cons_append,p5];split
  ·exact b
  ·rw[b];rfl
theorem AK(v:Int->Int):∀(l:List Int) (a:Int),(p5 v l a).length<=l.length
 | [],a=>by simp[p5]
 | x::l,a=>by
  have:=AK v l (a+v x);simp only[p5];split <;> simp <;> lia
theorem RG:∀(l:List Int) (t:P2),t∈nM l->t.1∈l/\t.2∈l:=by
 intro l
 induction l using nM.induct with
 | case1 a b r c=>
  intro t ht;simp only[nM,List.mem_cons]at ht;rcases ht with rfl | ht
  ·simp
  ·have:=c t ht;simp[this.1,this.2]
 | case2 l hl=>
  intro t ht
  cases l with
  | nil=>simp[nM]at ht
  | cons a l=>cases l with
   | nil=>simp[nM]at ht
   | cons b l=>exact absurd rfl (hl a b l)
theorem XU(a b:Int):lx (enc (.int b)) (enc (.int a))=false↔a<=b:=by
 simp only[enc,jL,lx];by_cases hb:b<a
 ·simp[hb]
 ·by_cases ha:a<b
  ·simp[hb,ha];lia
  ·have:a=b:=by lia
   subst this;simp
theorem xQ{fs:List D}{c:List Int}(p:fs.Perm (c.map D.int))(s:fs.Pairwise (λd e=>lx (enc e) (enc d)=false))(nd:c.Nodup):∃js:List Int,fs=js.map D.int/\js.Perm c/\js.Pairwise (· < ·):=by
 obtain⟨js,f,rfl⟩:=lP D.int p c rfl;refine⟨js,rfl,f,?_⟩;rw[List.pairwise_map]at s;have g:=f.symm.nodup nd;rw[List.nodup_iff_pairwise_ne]at g
 exact(s.and g).imp λ{a b} h=>by
  have:=(XU a b).mp h.1;have:=h.2
  lia
theorem Y9(ds:List D)(mh:MH)(R:DK)(ok:i7 mh)(hs:uL ds mh R):mG pF (En mh R) (aG ["steps","least","edges","deep","x","ahead"] ds) mh:=by
 obtain⟨n,kvs,xs,c,rfl,O,I,h3,⟨m0,C⟩,P,q⟩:=hs;have sz:=aHh;have hnl:=eS O;obtain⟨is,U,nd,u,e⟩:=I.keys;have V:=zQ is xs nd u;simp[mG,rE,rC,aG];refine⟨n,false,kvs,rfl,aM O,?_,?_,λfs p s=>?_⟩
 ·have:=I.len;lia
 ·rw[U];exact tW _
 rw[U]at p;obtain⟨js,rfl,J,Q⟩:=xQ p s nd;have hjl:=J.length_eq;have W:(mh++[MO.lst []]++[.lst (js.map .int)])[n]? =some (.dic false kvs):=aM (aM O);have X:(mh++[MO.lst []]++[.lst (js.map .int)])[mh.length]? =some (.lst []):=aM (fL _ _);have S:(mh++[MO.lst []]++[.lst (js.map .int)])[mh.length+1]? =some (.lst (js.map .int)):=by simp
 have Y:cG mh (mh++[MO.lst []]++[.lst (js.map .int)]):=(cG.refl.push _).push _;have e3:(mh++[MO.lst ([]:List D)]).length=mh.length+1:=by simp
 rw[e3];generalize mh++[MO.lst []]++[.lst (js.map .int)]=M at W X S Y⊢;rw[bI S];simp only[cB];generalize hv:(λx=>c x-c (x-1))=v at I e;have m :∀x,v x=c x-c (x-1):=λx=>by rw[<-hv]
 refine bJ (λi K o =>(∃a b,K=[some (.ref n),some (.int 1),some (.ref mh.length),some (.int (((js.take i).map v).sum)),a,b])/\cG mh o /\o[n]? =some (.dic false kvs)/\o[mh.length+1]? =some (.lst (js.map .int))/\o[mh.length]? =some (.lst ((p5 v (js.take i) 0).map .int))) _ ?_ ?_ ?_ ⟨⟨_,_,rfl⟩,Y,W,S,by simpa[p5] using X⟩
 ·rintro i K o ⟨_,_,_,l,_⟩;exact bI l
 ·rintro i d K o N hi ⟨⟨a,b,rfl⟩,r,E,F,l⟩ nx;obtain⟨x,w,rfl⟩:=dN hi;have hil:i<js.length:=(aGt.mp w).1;have T:v x≠0:=by rw[m];exact(e x).mp (J.mem_iff.mp (aH1 w))
  have G:bF kvs (.int x)=some (.int (v x)):=by rw[I.val x,if_neg T]
  have Z:=AK v (js.take i) 0;have A:=DQ v (js.take i) x 0;rw[<-take_snoc w]at A;have f:((js.take (i+1)).map v).sum=((js.take i).map v).sum+v x:=by rw[take_snoc w];simp
  simp only[Int.zero_add]at A;generalize ((js.take i).map v).sum=B at A f⊢;simp[oQ,kL];refine⟨.int B,rfl,?_⟩;simp;refine⟨n,kvs,.inl x,_,rfl,E,rfl,G,?_⟩;show f7 pF _ [some (.ref n),some (.int 1),some (.ref mh.length),some (.int (B+v x)),some (.int x),some (.int B)] o;simp[f7];by_cases L:decide (B<1)=decide (B+v x<1)
  ·rw[if_pos L,List.append_nil]at A;have:∀a b,N [some (.ref n),some (.int 1),some (.ref mh.length),some (.int (B+v x)),a,b] o :=λa b=>nx _ _ ⟨⟨_,_,by rw[f]⟩,r,E,F,by rw[A];exact l⟩;rw[if_pos (decide_eq_decide.mp L)];exact this _ _
  ·rw[if_neg L]at A;rw[if_neg (λh=>L (decide_eq_decide.mpr h))];rw[dS l];have hlt:=eS l;refine⟨⟨rfl,_,l⟩,by simp at Z⊢;lia,nx _ _ ⟨⟨_,_,by rw[f]⟩,r.set (aGy _) _,get_set E (by lia),get_set F (by lia),?_⟩⟩;rw[bE _ l,A];simp
 ·rintro K o ⟨⟨a,b,rfl⟩,r,E,F,l⟩;simp at l;simp[rB];have Z:=AK v js 0;refine⟨mh.length,p5 v js 0,rfl,l,by lia,?_⟩;have g:∀x∈js,x∈xs:=λx w=>u x (J.mem_iff.mp w)
  obtain⟨lo,l1,l2⟩:∃lo,lo<=m0/\∀k∈js,lo<k:=by
   have:∀(js:List Int),∃lo,lo<=m0/\∀k∈js,lo<k:=by
    intro js
    induction js with
    | nil=>exact⟨m0,aIb _,by simp⟩
    | cons j js ih=>
     obtain⟨lo,E,F⟩:=ih
     exact⟨min lo (j-1),by lia,λk hk=>by
      rcases aH2.mp hk with z | z
      ·lia
      ·have:=F k z;lia⟩
   exact this js
  have e0:c lo=0:=C lo l1
  have H:=(O6 (c:=c) (v:=v) js lo Q l2 (λk _=>m k) (λy _ hy=>by
   have:¬v y≠0:=λh=>hy (J.mem_iff.mpr ((e y).mpr (by rw[<-m];exact h)));rw[m]at this
   lia) P).1 (by lia)
  rw[e0]at H;obtain⟨b1,b2,b3⟩:=H;have bl:=zJ (p5 v js 0);refine r.out ok (by simp[iC,dB,pJ]) (q _ b1 (λx=>?_) (λt ht=>?_) (by lia))
  ·by_cases w:lo<=x
   ·exact b3 x w
   ·rw[C x (by lia)];refine⟨λ⟨t,ht,z⟩=>?_,λz=>by lia⟩;have:=l2 t.1 (b2 t ht);lia
  ·have:=RG _ t ht;exact⟨g _ (pZ this.1),g _ (pZ this.2)⟩
structure Ev where
 y:Int
 ln:List P2
 m:Int
def DN(B:List Bd):List Ev:=B.flatMap λb=>[⟨b.lo,b.ln,1⟩,⟨b.hi,b.ln,-1⟩]
def cnt(E:List Ev)(x:Int):Int:=(E.map λe=>e.m*nO e.ln x).sum
theorem AS(E F:List Ev)(x:Int):cnt (E++F) x=cnt E x+cnt F x:=by simp[cnt]
theorem cnt_cons(e:Ev)(E:List Ev)(x:Int):cnt (e::E) x=e.m*nO e.ln x+cnt E x:=by simp[cnt]
theorem DM(b:Bd)(B:List Bd):DN (b::B)=⟨b.lo,b.ln,1⟩::⟨b.hi,b.ln,-1⟩::DN B:=rfl
theorem HM:∀ln:List P2,∃m,∀y,y<=m->nO ln y=0
 | []=>⟨0,λy _=>rfl⟩
 | t::ln=>by
  obtain⟨m,a⟩:=HM ln;refine⟨min m (min (t.1-1) (t.2-1)),λy b=>?_⟩;rw[u7,a y (by lia),if_neg (by lia),if_neg (by lia)];rfl
theorem CP:∀ln:List P2,∃m,∀y,m<=y->nO ln y=0
 | []=>⟨0,λy _=>rfl⟩
 | t::ln=>by
  obtain⟨m,a⟩:=CP ln;refine⟨max m (max t.1 t.2),λy b=>?_⟩;rw[u7,a y (by lia),if_pos (by lia),if_pos (by lia)];rfl
theorem IH:∀E:List Ev,∃m,∀y,y<=m->cnt E y=0
 | []=>⟨0,λy _=>rfl⟩
 | e::E=>by
  obtain⟨m,a⟩:=IH E;obtain⟨k,b⟩:=HM e.ln;exact⟨min m k,λy c=>by rw[cnt_cons,a y (by lia),b y (by lia)];simp⟩
theorem PL:∀E:List Ev,∃m,∀y,m<=y->cnt E y<1
 | E=>by
  have:∀E:List Ev,∃m,∀y,m<=y->cnt E y=0:=by
   intro E
   induction E with
   | nil=>exact⟨0,λy _=>rfl⟩
   | cons e E ih=>
    obtain⟨m,a⟩:=ih;obtain⟨k,c⟩:=CP e.ln;exact⟨max m k,λy b=>by rw[cnt_cons,a y (by lia),c y (by lia)];simp⟩
  obtain⟨m,a⟩:=this E;exact⟨m,λy b=>by rw[a y b];lia⟩
theorem HN:∀{ln:List P2},(∀t∈ln,t.1<t.2)->∀x,0<=nO ln x/\(1<=nO ln x↔fP ln x)
 | [],_,x=>⟨by simp[nO],by simp[nO,fP]⟩
 | t::ln,h,x=>by
  obtain⟨e,c⟩:=HN (ln:=ln) (λu d=>h u (aGx _ d)) x;have ht:=h t aGw;rw[u7,bN,<-c];by_cases a:t.1<=x
  ·by_cases b:t.2<=x
   ·rw[if_pos a,if_pos b];exact⟨by lia,⟨λz=>.inr (by lia),λz=>z.elim (λz=>by lia) λz=>by lia⟩⟩
   ·rw[if_pos a,if_neg b];exact⟨by lia,⟨λz=>.inl ⟨a,by lia⟩,λz=>by lia⟩⟩
  ·rw[if_neg a,if_neg (by lia)];exact⟨by lia,⟨λz=>.inr (by lia),λz=>z.elim (λz=>absurd z.1 a) λz=>by lia⟩⟩
theorem U8(c x:Int):∀{B:List Bd},(∀b∈B,b.lo<b.hi/\∀t∈b.ln,t.1<t.2)->0<=cnt ((DN B).filter λe=>decide (e.y<=c)) x/\(1<=cnt ((DN B).filter λe=>decide (e.y<=c)) x↔b7 B x c)
 | [],_=>⟨by simp[DN,cnt],by simp[DN,cnt,b7]⟩
 | b::B,h=>by
  obtain⟨g,i⟩:=U8 c x (B:=B) λd hd=>h d (aGx _ hd);obtain⟨hb,ht⟩:=h b aGw;obtain⟨k,j⟩:=HN ht x;rw[DM,bY,<-i,<-j];by_cases a:b.lo<=c
  ·rw[List.filter_cons_of_pos (by simpa using a)];by_cases f:b.hi<=c
   ·rw[List.filter_cons_of_pos (by simpa using f),cnt_cons,cnt_cons];simp only;exact⟨by lia,⟨λz=>.inr (by lia),λz=>z.elim (λz=>by lia) λz=>by lia⟩⟩
   ·rw[List.filter_cons_of_neg (by simpa using f),cnt_cons];simp only;refine⟨by lia,⟨λz=>?_,λz=>?_⟩⟩
    ·by_cases q:1<=nO b.ln x
     ·exact .inl ⟨a,by lia,q⟩
     ·exact .inr (by lia)
    ·rcases z with z | z <;> lia
  ·rw[List.filter_cons_of_neg (by simpa using a),List.filter_cons_of_neg (by simp;lia)];exact⟨g,⟨.inr,λz=>z.elim (λz=>absurd z.1 a) id⟩⟩
variable{E:List Ev}
theorem yL{l:List Int}{c:Int}(d:c∉l)(x:Int):cnt (E.filter λe=>decide (e.y∈l++[c])) x=cnt (E.filter λe=>decide (e.y∈l)) x+cnt (E.filter λe=>decide (e.y=c)) x:=by
 induction E with
 | nil=>simp[cnt]
 | cons e E ih=>
  by_cases a:e.y=c
  ·have b:e.y∉l:=by rw[a];exact d
   rw[List.filter_cons_of_pos (by simp[a]),List.filter_cons_of_neg (by simpa using b),List.filter_cons_of_pos (by simpa using a),cnt_cons,cnt_cons,ih];lia
  ·by_cases b:e.y∈l
   ·rw[List.filter_cons_of_pos (by simp[b]),List.filter_cons_of_pos (by simpa using b),List.filter_cons_of_neg (by simpa using a),cnt_cons,cnt_cons,ih];lia
   ·rw[List.filter_cons_of_neg (by simp[a,b]),List.filter_cons_of_neg (by simpa using b),List.filter_cons_of_neg (by simpa using a),ih]
variable{js:List Int}
theorem QT(m:js.Pairwise (· < ·)){j:Nat}{c y:Int}(n:js[j]? =some c)(o:y∈js):y∈js.take (j+1)↔y<=c:=by
 obtain⟨k,l⟩:=aHa.mp o;obtain⟨d,q⟩:=aGt.mp l;obtain⟨a,r⟩:=aGt.mp n;have pw:=aHw.mp m;constructor
 ·intro h;obtain⟨i,hi⟩:=aHa.mp h;have f:i<j+1:=by have:=(aGt.mp hi).1;rw[List.length_take]at this;lia
  rw[List.getElem?_take_of_lt f]at hi;obtain⟨b,s⟩:=aGt.mp hi;by_cases e:i=j
  ·subst e;lia
  ·have:=pw i j b a (by lia);lia
 ·intro h
  have p:k<=j:=by
   refine aJ2 λg=>?_;have:=pw j k a d g;lia
  exact aHa.mpr ⟨k,by rw[List.getElem?_take_of_lt (by lia)];exact l⟩
def QB(js:List Int)(rows:List (List P2)):List Bd:=List.zipWith (λp f=>⟨p.1,p.2,f⟩) (js.zip js.tail) rows
variable{rows:List (List P2)}
theorem sW{j:Nat}{b:Bd}(h:(QB js rows)[j]? =some b):js[j]? =some b.lo/\js[j+1]? =some b.hi/\rows[j]? =some b.ln:=by
 unfold QB at h;rw[List.getElem?_zipWith]at h
 cases h1:(js.zip js.tail)[j]? with
 | none=>simp[h1]at h
 | some p=>
  cases h2:rows[j]? with
  | none=>simp[h1,h2]at h
  | some f=>
   simp[h1,h2]at h;subst h;obtain⟨c,a⟩:=aJn.mp h1;rw[List.getElem?_tail]at a;exact⟨c,a,rfl⟩
theorem XS{j:Nat}{a b:Int}(c:js[j]? =some a)(d:js[j+1]? =some b)(e:rows[j]? =some f):(QB js rows)[j]? =some ⟨a,b,f⟩:=by
 unfold QB;rw[List.getElem?_zipWith];have:(js.zip js.tail)[j]? =some (a,b):=aJn.mpr ⟨c,by rw[List.getElem?_tail];exact d⟩;simp[this,e]
theorem XR{B:List Bd}(K:∀b∈B,b.lo<b.hi/\∀t∈b.ln,t.1<t.2)(C:js.Pairwise (· < ·))(D:∀y,y∈js↔∃e∈DN B,e.y=y)(W:rows.length=js.length)
  (H:∀(j:Nat) f,rows[j]? =some f->Sep f/\∀x,fP f x↔1<=cnt ((DN B).filter λe=>decide (e.y∈js.take (j+1))) x):
  oJ ((QB js rows).foldl bK [])/\∀x y,b7 ((QB js rows).foldl bK []) x y↔b7 B x y:=by
 have pw:=aHw.mp C
 have E:∀b∈B,b.lo∈js/\b.hi∈js:=λb hb=>by
  refine⟨(D _).mpr ⟨⟨b.lo,b.ln,1⟩,?_,rfl⟩,(D _).mpr ⟨⟨b.hi,b.ln,-1⟩,?_,rfl⟩⟩ <;> exact aIm.mpr ⟨b,hb,by simp⟩
 have m:∀(j:Nat) c f x,js[j]? =some c->rows[j]? =some f->(fP f x↔b7 B x c):=λj c f x w z=>by
  rw[(H j f z).2 x,<-(U8 c x K).2]
  have:((DN B).filter λe=>decide (e.y∈js.take (j+1)))=(DN B).filter λe=>decide (e.y<=c):=by
   refine List.filter_congr λe he=>?_;rw[decide_eq_decide];exact QT C w ((D _).mpr ⟨e,he,rfl⟩)
  rw[this]
 have o:=nR (QB js rows) [] (λb hb=>?_) ?_ ⟨by simp,by simp,by simp,by simp,λu a b v e=>by simp at e⟩ (by simp);refine⟨o.1,λx y=>?_⟩;rw[o.2 x y];constructor
 ·rintro(⟨b,hb,_⟩ | ⟨d,hd,w,z,F⟩)
  ·cases hb
  ·obtain⟨j,q⟩:=aHa.mp hd;obtain⟨h,n,A⟩:=sW q;obtain⟨b,hb,I,L,J⟩:=(m j d.lo d.ln x h A).mp F;refine⟨b,hb,by lia,?_,J⟩;obtain⟨k,M⟩:=aHa.mp (E b hb).2;obtain⟨s,X⟩:=aGt.mp M;obtain⟨l,N⟩:=aGt.mp h;obtain⟨g,G⟩:=aGt.mp n
   have O:j<k:=by
    refine aKy λP=>?_;by_cases e:k=j
    ·subst e;lia
    ·have:=pw k j s l (by lia);lia
   by_cases e:k=j+1
   ·subst e;lia
   ·have:=pw (j+1) k g s (by lia);lia
 ·rintro⟨b,hb,w,z,F⟩;right;obtain⟨p,Q,R,S,T,Y⟩:=between C (E b hb).1 (E b hb).2 w z;obtain⟨j,q⟩:=aHa.mp Q;obtain⟨h,n⟩:=aJn.mp q;rw[List.getElem?_tail]at n;have l:=(aGt.mp h).1;have r:rows[j]? =some (rows[j]'(by lia)):=aH6 _;generalize rows[j]'(by lia)=f at r;refine⟨⟨p.1,p.2,f⟩,aH1 (XS h n r),R,S,?_⟩;exact(m j p.1 f x h r).mpr ⟨b,hb,T,by lia,F⟩
 ·obtain⟨j,q⟩:=aHa.mp hb;obtain⟨h,n,A⟩:=sW q;obtain⟨l,N⟩:=aGt.mp h;obtain⟨g,G⟩:=aGt.mp n;have:=pw j (j+1) l g (by lia);exact⟨by lia,(H j b.ln A).1⟩
 ·refine aHw.mpr λi j hi q U=>?_;obtain⟨h,n,A⟩:=sW (aH6 hi);obtain⟨I,L,J⟩:=sW (aH6 q);obtain⟨x1,Z⟩:=aGt.mp n;obtain⟨V,e2⟩:=aGt.mp I;by_cases e:i+1=j
  ·subst e;lia
  ·have:=pw (i+1) j x1 V (by lia);lia
theorem R0(js:List Int)(rows:List (List P2)):(QB js rows).length<=js.length:=by
 unfold QB;rw[List.length_zipWith,List.length_zip];lia
theorem HJ:∀(js:List Int) (rows:List (List P2)),(aJ [js.map D.int,js.tail.map D.int,rows.map iC]).map D.tup=(QB js rows).map bD:=by
 intro js rows;have e:aJ [js.map D.int,js.tail.map D.int,rows.map iC]=List.zipWith List.cons (js.map D.int) (List.zipWith List.cons (js.tail.map D.int) ((rows.map iC).map λx=>[x])):=rfl;rw[e]
 have go:∀(a b:List Int) (rows:List (List P2)),(List.zipWith List.cons (a.map D.int) (List.zipWith List.cons (b.map D.int) ((rows.map iC).map λx=>[x]))).map D.tup=(List.zipWith (λ(p:Int×Int) f=>(⟨p.1,p.2,f⟩:Bd)) (a.zip b) rows).map bD:=by
  intro a
  induction a with
  | nil=>intro b rows;simp
  | cons x a ih=>
   intro b rows
   cases b with
   | nil=>simp
   | cons y b=>
    cases rows with
    | nil=>simp
    | cons f rows=>
     simp only[List.map_cons,List.zipWith_cons_cons,List.zip_cons_cons];rw[ih b rows];rfl
 exact go js js.tail rows
def evD(e:Ev):D:= .tup [iC e.ln,.int e.m]
structure wU(dn top:Nat)(ys:List Int)(E:List Ev)(kvs:List (D×D))(M:MH):Prop where
 at_:M[dn]? =some (.dic false kvs)
 key:∀p∈kvs,∃y∈ys,p.1= .int y
 nd:(kvs.map (·.1)).Nodup
 b9:∀y,bF kvs (.int y)=none->∀e∈E,e.y≠y
 V2:∀y d,bF kvs (.int y)=some d->∃m,d= .ref m/\dn<m/\m<top/\M[m]? =some (.lst ((E.filter λe=>decide (e.y=y)).map evD))/\∃e∈E,e.y=y
 inj:∀y y' m,bF kvs (.int y)=some (.ref m)->bF kvs (.int y')=some (.ref m)->y=y'
variable{ys:List Int}
theorem wU.len{dn top:Nat}{M:MH}(h:wU dn top ys E kvs M):∃a:List Int,kvs.map (·.1)=a.map D.int/\a.Nodup/\a.length<=ys.length/\kvs.length<=ys.length/\∀y,y∈a↔∃e∈E,e.y=y:=by
 obtain⟨a,e,i⟩:∃a:List Int,kvs.map (·.1)=a.map D.int/\∀x∈a,x∈ys:=by
  have:=h.key;clear h
  induction kvs with
  | nil=>exact⟨[],rfl,by simp⟩
  | cons p kvs ih=>
   obtain⟨x,c,e⟩:=this p aGw;obtain⟨a,j,k⟩:=ih λq l=>this q (aGx _ l)
   exact⟨x::a,by simp[e,j],λy b=>by
    rcases aH2.mp b with z | z
    ·rw[z];exact c
    ·exact k y z⟩
 have nd:a.Nodup:=by
  have:=h.nd;rw[e]at this;rw[List.nodup_iff_pairwise_ne]at this⊢;rw[List.pairwise_map]at this;exact this.imp λh z=>h (by rw[z])
 have n:=zQ a ys nd i;have t:kvs.length=a.length:=by have:=aHu List.length e;simpa using this
 refine⟨a,e,nd,n,by lia,λy=>⟨λb=>?_,λ⟨o,he,b⟩=>?_⟩⟩
 ·cases hv:bF kvs (.int y) with
  | none=>
   have f :D.int y∈kvs.map (·.1):=by rw[e];exact aH8 b
   obtain⟨p,g,ep⟩:=aH5.mp f;exact absurd ep (iT.mp hv p g)
  | some d=>obtain⟨m,_,_,_,_,h⟩:=h.V2 y d hv;exact h
 ·by_cases c:y∈a
  ·exact c
  ·exfalso
   have:bF kvs (.int y)=none:=iT.mpr λp g z=>by
    have:D.int y∈a.map D.int:=by rw[<-e,<-z];exact aH8 g
    obtain⟨w,r,s⟩:=aH5.mp this;cases s;exact c r
   exact h.b9 y this o he b
theorem qP(E:List Ev)(e:Ev)(y:Int):(E++[e]).filter (λe=>decide (e.y=y))=E.filter (λe=>decide (e.y=y))++if e.y=y then [e] else []:=by
 rw[List.filter_append];congr 1;by_cases h:e.y=y <;> simp[h]
theorem ON{mh M:MH}{H :d6}{y m:Int}{ln:List P2}{i:Nat}{l:d7}{I:WE}(J:cG mh M)(C:wU mh.length M.length ys E kvs M)(K:y∈ys)(L:ys.length<4000)(Y:E.length<=1000000)
  (N:l[2]? =some (some (.ref mh.length))) (O:l[i]? =some (some (.int y))) (P:l[5]? =some (some (iC ln))) (r:∀(mh:MH) (Q:DK),Q (.int m) mh->I l mh Q)
  (nx:∀A s,cG mh A ->wU mh.length A.length ys (E++[⟨y,ln,m⟩]) s A ->H.nx l A):
  fB (EF "list" cP (wY (aB 2) (aB i) (kB aD)) (aA (eP (aA (aB 5) (aA I aD))) aD)) H l M:=by
 have sz:=aHh;obtain⟨Z,ek,nd,_,R,_⟩:=C.len;have B:mh.length<M.length:=eS C.at_;have D:∀y,(E.filter λe=>decide (e.y=y)).length<=E.length:=λy=>aK5 _ _;simp[N,O,P];refine⟨⟨_,C.at_⟩,kvs,aM C.at_,⟨.inl y,rfl⟩,by lia,λv n=>?_,λn=>?_⟩
 ·obtain⟨k,rfl,f,c,S,h4⟩:=C.V2 y v n;have g:(M++[MO.lst []])[k]? =some (.lst ((E.filter λe=>decide (e.y=y)).map evD)):=aM S;refine⟨⟨rfl,_,g⟩,r _ _ ⟨by lia,(dS g _).mpr ⟨by have:=D y;simp;lia,?_⟩⟩⟩;refine nx _ kvs ((J.push _).set (by lia) _) ⟨get_set (aM C.at_) (by lia),C.key,C.nd,λy' a e he=>?_,λy' d a =>?_,C.inj⟩
  ·rcases aGz.mp he with z | z
   ·exact C.b9 y' a e z
   ·rw[List.mem_singleton.mp z];intro q;have q:y=y' :=q;subst q;rw[n]at a;cases a
  ·obtain⟨t,rfl,F,T,u,U⟩:=C.V2 y' d a;refine⟨t,rfl,F,by simp;lia,?_,?_⟩
   ·rw[qP];by_cases e:y=y'
    ·subst e;rw[n]at a;cases a;rw[bE _ g];simp[evD]
    ·have V:k≠t :=λz=>e (C.inj y y' k n (by rw[z];exact a));rw[if_neg e,List.append_nil];exact get_set (aM u) V
   ·obtain⟨e,he,j⟩:=U;exact⟨e,aHn _ he,j⟩
 ·have W:(M++[MO.lst []])[mh.length]? =some (.dic false kvs):=aM C.at_;have g:((M++[MO.lst []]).set mh.length (.dic false (putD kvs (.int y) (.ref M.length))))[M.length]? =some (.lst []):=get_set (fL _ _) (by lia);refine⟨⟨rfl,_,g⟩,r _ _ ⟨by lia,(dS g _).mpr ⟨by simp;lia,?_⟩⟩⟩;have G:(E.filter λe=>decide (e.y=y))=[]:=List.filter_eq_nil_iff.mpr λe he=>by simpa using C.b9 y n e he
  have w:∀y',y' ≠y->bF (putD kvs (.int y) (.ref M.length)) (.int y')=bF kvs (.int y'):=λy' h=>tU _ _ (by simpa using h)
  have old:∀y' k,bF kvs (.int y')=some (.ref k)->k<M.length:=λy' k h=>by
   obtain⟨t,e,_,_,u,_⟩:=C.V2 y' _ h;cases e;exact eS u
  refine nx _ (putD kvs (.int y) (.ref M.length)) ((((J.push _).set (aGy _) _)).set (by lia) _) ⟨get_set (bE _ W) (by lia),λp X=>?_,xJ C.nd _ _,λy' a e he=>?_,λy' d a =>?_,λy1 o k f c=>?_⟩
  ·rcases B6 X with z | z
   ·exact C.key p z
   ·exact⟨y,K,z.1⟩
  ·by_cases b:y' =y
   ·subst b;rw[jD]at a;cases a
   ·rw[w y' b]at a;rcases aGz.mp he with z | z
    ·exact C.b9 y' a e z
    ·rw[List.mem_singleton.mp z];exact λq=>b q.symm
  ·by_cases b:y' =y
   ·subst b;rw[jD]at a;cases a;refine⟨M.length,rfl,B,by simp,?_,⟨y',ln,m⟩,by simp,rfl⟩;rw[bE _ g,qP,G];simp[evD]
   ·rw[w y' b]at a;obtain⟨t,rfl,F,T,u,e,he,j⟩:=C.V2 y' d a;refine⟨t,rfl,F,by simp;lia,?_,e,aHn _ he,j⟩;rw[qP,if_neg (λq=>b q.symm),List.append_nil];exact get_set (get_set (aM u) (by lia)) (by lia)
  ·by_cases b:y1=y
   ·by_cases x:o=y
    ·rw[b,x]
    ·rw[w o x]at c;rw[b,jD]at f;have:=old o k c;injection f with f;injection f with f;lia
   ·rw[w y1 b]at f;by_cases x:o=y
    ·rw[x,jD]at c;have:=old y1 k f;injection c with c;injection c with c;lia
    ·rw[w o x]at c;exact C.inj y1 o k f c
def L9:OA:=λds mh Q=>∃(n:Nat) (B:List Bd) (xs ys:List Int),ds=[.ref n,.int 1]/\mh[n]? =some (.lst (B.map bD))/\B.length<=400000/\xs.length<4000/\ys.length<4000/\(∀b∈B,b.lo<b.hi/\b.lo∈ys/\b.hi∈ys/\b.ln.length<=1000000/\∀t∈b.ln,t.1<t.2/\t.1∈xs/\t.2∈xs)/\
 ∀g:List Bd,oJ g->(∀x y,b7 g x y↔b7 B x y)->Q (gD g) mh
theorem O4(B:List Bd)(b:Bd):DN (B++[b])=DN B++[⟨b.lo,b.ln,1⟩]++[⟨b.hi,b.ln,-1⟩]:=by simp[DN]
theorem IC(B:List Bd):(DN B).length=2*B.length:=by
 induction B with
 | nil=>rfl
 | cons b B ih=>rw[DM];simp[ih];lia
theorem wU.keep{dn top:Nat}{M a :MH}(h:wU dn top ys E kvs M)(hd:dn<top)(k:∀j,j<top->a[j]? =M[j]?):wU dn top ys E kvs a :=
 ⟨by rw[k dn hd];exact h.at_,h.key,h.nd,h.b9,λy d c=>by
  obtain⟨m,e,f,b,g,i⟩:=h.V2 y d c
  exact⟨m,e,f,b,by rw[k m b];exact g,i⟩,h.inj⟩
theorem S7{mh M:MH}{E' :d6}{n s r u top:Nat}{P Q p A b:Option D}(px:cG mh M)(C:wU mh.length top ys E kvs M)(F:xs.length<4000)(hEl:E.length<=1000000)(hE:∀e∈E,e.ln.length<=1000000/\∀t∈e.ln,t.1∈xs/\t.2∈xs)
  (W:mh.length<top) (ht:top<=s) (hcs:s<r) (hsr:r<u) (X:js.Pairwise (· < ·)) (Y:∀y,y∈js↔∃e∈E,e.y=y) (hjl:js.length<4000) (gc:M[s]? =some (.lst (js.map .int))) (gs:M[r]? =some (.dic false [])) (gr:M[u]? =some (.lst []))
  (nx:∀p A b c (rows:List (List P2)),cG mh c ->c[s]? =some (.lst (js.map .int))->c[u]? =some (.lst (rows.map iC))->rows.length=js.length->(∀(j:Nat) f,rows[j]? =some f->Sep f/\∀x,fP f x↔1<=cnt (E.filter λe=>decide (e.y∈js.take (j+1))) x)->
   E'.nx [some (.ref n),some (.int 1),some (.ref mh.length),P,Q,p,some (.ref s),some (.ref r),some (.ref u),A,b] c):
  gB (cZ (aB 6)) (gN 9) (i8 EY uL jE) E' [some (.ref n),some (.int 1),some (.ref mh.length),P,Q,p,some (.ref s),some (.ref r),some (.ref u),A,b] M:=by
 have sz:=aHh;have e0:(E.filter λe=>decide (e.y∈js.take 0))=[]:=List.filter_eq_nil_iff.mpr λe _=>by simp
 simp;rw[bI gc];simp only[cB]
 refine bJ (λi v c =>(∃p A b,v=[some (.ref n),some (.int 1),some (.ref mh.length),P,Q,p,some (.ref s),some (.ref r),some (.ref u),A,b])/\cG mh c /\wU mh.length top ys E kvs c /\c[s]? =some (.lst (js.map .int))/\
  (∃l,c[r]? =some (.dic false l)/\kH xs l (λx=>cnt (E.filter λe=>decide (e.y∈js.take i)) x-cnt (E.filter λe=>decide (e.y∈js.take i)) (x-1)))/\
  ∃rows:List (List P2),c[u]? =some (.lst (rows.map iC))/\rows.length=i/\∀(j:Nat) f,rows[j]? =some f->Sep f/\∀x,fP f x↔1<=cnt (E.filter λe=>decide (e.y∈js.take (j+1))) x) _ ?_ ?_ ?_
  ⟨⟨_,_,_,rfl⟩,px,C,gc,⟨[],gs,⟨by simp,by simp,λx=>by rw[e0];simp[bF,cnt]⟩⟩,[],by simpa using gr,rfl,by simp⟩
 ·rintro i v c ⟨_,_,_,g,_⟩;exact bI g
 ·rintro i d v c N hi ⟨⟨p,A,b,rfl⟩,w,G,Z,⟨l,s1,st⟩,rows,r1,R,hr⟩ nx2;obtain⟨y,S,rfl⟩:=dN hi;have hil:i<js.length:=(aGt.mp S).1;have hye:=(Y y).mp (aH1 S)
  obtain⟨m,T,m1,m2,m3⟩:∃m,bF kvs (.int y)=some (.ref m)/\mh.length<m/\m<top/\c[m]? =some (.lst ((E.filter λe=>decide (e.y=y)).map evD)):=by
   cases T:bF kvs (.int y) with
   | none=>obtain⟨e,he,q⟩:=hye;exact absurd q (G.b9 y T e he)
   | some d=>
    obtain⟨m,rfl,b1,b2,b3,_⟩:=G.V2 y d T;exact⟨m,rfl,b1,b2,b3⟩
  have H:y∉js.take i:=λh=>by
   obtain⟨k,hk⟩:=aHa.mp h;have I:k<i:=by have:=(aGt.mp hk).1;rw[List.length_take]at this;lia
   rw[List.getElem?_take_of_lt I]at hk;have pw:=aHw.mp X;obtain⟨x1,U⟩:=aGt.mp hk;obtain⟨x2,e2⟩:=aGt.mp S;have:=pw k i x1 x2 I;lia
  generalize J:(E.filter λe=>decide (e.y=y))=z at m3;have K:∀e∈z,e.ln.length<=1000000/\∀t∈e.ln,t.1∈xs/\t.2∈xs:=λe he=>hE e (by rw[<-J]at he;exact(aIx.mp he).1);simp[i8];refine⟨mh.length,kvs,.inl y,_,rfl,G.at_,rfl,T,?_⟩;simp only[bI m3,cB]
  refine bJ (λj v M2=>(∃p b,v=[some (.ref n),some (.int 1),some (.ref mh.length),P,Q,p,some (.ref s),some (.ref r),some (.ref u),some (.int y),b])/\∃a,M2=c.set r (.dic false a)/\
   kH xs a (λx=>cnt ((E.filter λe=>decide (e.y∈js.take i))++z.take j) x-cnt ((E.filter λe=>decide (e.y∈js.take i))++z.take j) (x-1))) _ ?_ ?_ ?_ ⟨⟨_,_,rfl⟩,l,(lJ s1).symm,by simpa using st⟩
  ·rintro j v M2 ⟨_,a,rfl,_⟩;exact bI (get_set m3 (by lia))
  ·rintro j d v M2 N2 V ⟨⟨p,b,rfl⟩,a,rfl,o⟩ nx3;obtain⟨e,he,rfl⟩:=dN V;simp[oK,evD];have L:=K e (aH1 he);refine Z8 (bE _ s1) o F L.1 L.2 λB st3=>?_;refine nx3 _ _ ⟨⟨_,_,rfl⟩,B,by simp,?_⟩
   have U:(λx=>cnt ((E.filter λe=>decide (e.y∈js.take i))++z.take (j+1)) x-cnt ((E.filter λe=>decide (e.y∈js.take i))++z.take (j+1)) (x-1))=λx=>cnt ((E.filter λe=>decide (e.y∈js.take i))++z.take j) x-cnt ((E.filter λe=>decide (e.y∈js.take i))++z.take j) (x-1)+e.m*(nO e.ln x-nO e.ln (x-1)):=by
    funext x;rw[take_snoc he];simp only[AS,cnt_cons];have:∀x,cnt ([]:List Ev) x=0:=λ_=>rfl;rw[this,this,Int.mul_sub];lia
   rw[U];exact st3
  ·rintro v M2 ⟨⟨p,b,rfl⟩,a,rfl,o⟩;simp only[List.length_map,List.take_length]at o
   have U:(λx=>cnt ((E.filter λe=>decide (e.y∈js.take i))++z) x-cnt ((E.filter λe=>decide (e.y∈js.take i))++z) (x-1))=λx=>cnt (E.filter λe=>decide (e.y∈js.take (i+1))) x-cnt (E.filter λe=>decide (e.y∈js.take (i+1))) (x-1):=by
    funext x;rw[take_snoc S,yL H,yL H,AS,AS,J]
   rw[U]at o;have r2:(c.set r (.dic false a))[u]? =some (.lst (rows.map iC)):=get_set r1 (by lia);simp[kJ];refine⟨⟨rfl,_,r2⟩,TR (bE _ s1) o F (IH _) (PL _) λf f1 f2 _ _=>?_⟩;rw[dS r2];have hsl:=eS s1;have hml:=w.le;refine⟨by simp;lia,nx2 _ _ ⟨⟨_,_,_,rfl⟩,(w.set (by lia) _).set (by lia) _,G.keep W λj V=>by rw[List.getElem?_set_ne (by lia),List.getElem?_set_ne (by lia)],get_set (get_set Z (by lia)) (by lia),⟨a,get_set (bE _ s1) (by lia),o⟩,rows++[f],by rw[bE _ r2];simp,by simp[R],λj g hg=>?_⟩⟩;by_cases V:j<rows.length
   ·rw[List.getElem?_append_left V]at hg;exact hr j g hg
   ·have O:=(aGt.mp hg).1;simp at O;have ej:j=rows.length:=by lia
    subst ej;simp at hg;subst hg;rw[R];exact⟨f1,f2⟩
 ·rintro v c ⟨⟨p,A,b,rfl⟩,w,G,Z,_,rows,r1,R,hr⟩;exact nx _ _ _ c rows w Z r1 (by simpa using R) hr
theorem aCy(ds:List D)(mh:MH)(R:DK)(ok:i7 mh)(V:L9 ds mh R):mF EY uL jE (En mh R) (aG ["bands","least","changes","y0","y1","stretches","cuts","steps","rows","y","more"] ds) mh:=by
 obtain⟨n,B,xs,ys,rfl,w,W,x,f,r,q⟩:=V;have sz:=aHh;have X:n<mh.length:=eS w
 have z :∀b∈B,b.lo<b.hi/\∀t∈b.ln,t.1<t.2:=λb hb=>⟨(r b hb).1,λt ht=>((r b hb).2.2.2.2 t ht).1⟩
 simp[mF,q5,aG];rw[bI (aM w)];simp only[cB];refine bJ (λi u a =>(∃A F v,u=[some (.ref n),some (.int 1),some (.ref mh.length),A,F,v,none,none,none,none,none])/\cG mh a /\∃kvs,wU mh.length a.length ys (DN (B.take i)) kvs a) _ ?_ ?_ ?_ ⟨⟨_,_,_,rfl⟩,⟨_,rfl⟩,[],⟨by simp,by simp,by simp,by simp[DN],by simp[bF],by simp[bF]⟩⟩
 ·rintro i u a ⟨_,g,_⟩;exact bI (g.old w)
 ·rintro i d u a N hi ⟨⟨A,F,v,rfl⟩,g,kvs,C⟩ nx;obtain⟨b,hb,rfl⟩:=dN hi;have G:=aH1 hb;obtain⟨_,Y,Z,b4,b5⟩:=r b G;have hil:i<B.length:=(aGt.mp hb).1;have el:=IC (B.take i);have tl:(B.take i).length<=i:=by simp;lia
  simp[bD];unfold oM;rw[UR];refine ON g C Y f (by lia) rfl rfl rfl (λmh Q h=>by simpa using h) λM2 S H C2=>?_;show f6 EY uL jE _ _ _;unfold f6;refine ON H C2 Z f (by simp;lia) rfl rfl rfl (λmh Q h=>by simpa using h) λM3 k I C3=>?_;refine nx _ _ ⟨⟨_,_,_,rfl⟩,I,k,?_⟩;rw[take_snoc hb,O4];exact C3
 ·rintro u M ⟨⟨A,F,v,rfl⟩,g,kvs,C⟩;simp only[List.length_map,List.take_length]at C;obtain⟨is,T,nd,il,kl,c⟩:=C.len;simp[q0];refine⟨mh.length,false,kvs,rfl,C.at_,by lia,by rw[T];exact tW _,λfs p s=>?_⟩;rw[T]at p;obtain⟨js,rfl,J,l⟩:=xQ p s nd;have hjl:=J.length_eq;simp[qZ,qY];have el:=IC B;have m:mh.length<M.length:=eS C.at_;unfold qX;rw[UR];refine S7 (top:=M.length) (E:=DN B) (xs:=xs) (ys:=ys) (js:=js) (g.app _) (C.keep m λj hj=>by rw[List.getElem?_append_left hj]) x (by lia) (λe he=>?_) m (aGy _) (by lia) (by lia) l (λy=>by rw[J.mem_iff];exact c y) (by lia) (by simp) (by simp) (by simp) λv a9 a10 a rows K U gr rl hr=>?_
  ·obtain⟨b,hb,o⟩:=aIm.mp he;have:=r b hb;simp at o;rcases o with rfl | rfl <;> exact⟨this.2.2.2.1,λt ht=>(this.2.2.2.2 t ht).2⟩
  ·obtain⟨L,cb⟩:=XR z l (λy=>by rw[J.mem_iff];exact c y) rl hr;have ml:=R0 js rows;simp[qW];rw[UQ U,yJ,<-List.map_tail];have O:(a ++[MO.lst (js.tail.map D.int)])[M.length+2]? =some (.lst (rows.map iC)):=aM gr;have P:(a ++[MO.lst (js.tail.map D.int)])[M.length]? =some (.lst (js.map .int)):=aM U;refine⟨[js.map .int,js.tail.map .int,rows.map iC],?_,?_,?_⟩
   ·simp only[j6,bI P,bI O,bI (fL a _)]
   ·have:=aHu List.length (HJ js rows);simp only[List.length_map]at this
    lia
   ·rw[HJ];refine JW (fL _ _) (by lia) ?_;exact((K.push _).push _).out ok (mJ _ _) (q _ L cb)
theorem VZ{B:List Bd}{Q:DK}(xs ys:List Int)(a:mh[n]? =some (.lst (B.map bD)))(c:B.length<=400000)(d:xs.length<4000)(e:ys.length<4000)(f:∀b∈B,b.lo<b.hi/\b.lo∈ys/\b.hi∈ys/\b.ln.length<=1000000/\∀t∈b.ln,t.1<t.2/\t.1∈xs/\t.2∈xs)
  (q:∀g:List Bd,oJ g->(∀x y,b7 g x y↔b7 B x y)->Q (gD g) mh):dfl 1 L9 [.ref n] mh Q:=⟨n,B,xs,ys,rfl,a,c,d,e,f,q⟩
variable{rs:List R4}
theorem B2:∀b∈aY rs,b.lo∈cV rs/\b.hi∈cV rs/\∀t∈b.ln,t.1∈rs.map (·.x0)++rs.map (·.x1)/\t.2∈rs.map (·.x0)++rs.map (·.x1):=by
 have c:∀lo hi,∀t∈b6 (aX rs lo hi),t.1∈rs.map (·.x0)++rs.map (·.x1)/\t.2∈rs.map (·.x0)++rs.map (·.x1):=λlo hi=>
  FK (P:=λx=>x∈rs.map (·.x0)++rs.map (·.x1)) (EW (λr i=>⟨aHn _ (aH8 i),aHb _ (aH8 i)⟩) lo hi)
 have step:∀(f:List Bd) (p:P2),p.1∈cV rs->p.2∈cV rs->(∀b∈f,b.lo∈cV rs/\b.hi∈cV rs/\∀t∈b.ln,t.1∈rs.map (·.x0)++rs.map (·.x1)/\t.2∈rs.map (·.x0)++rs.map (·.x1))->
   ∀b∈bB rs f p,b.lo∈cV rs/\b.hi∈cV rs/\∀t∈b.ln,t.1∈rs.map (·.x0)++rs.map (·.x1)/\t.2∈rs.map (·.x0)++rs.map (·.x1):=λf p e d a b hb=>by
  rcases aHl f with rfl | ⟨g,t,rfl⟩
  ·rw[fD]at hb;split at hb
   ·cases hb
   ·rw[List.mem_singleton.mp hb];exact⟨e,d,c _ _⟩
  ·rw[List.concat_eq_append]at*;rw[eG]at hb;split at hb
   ·exact a b hb
   ·split at hb
    ·rcases aGz.mp hb with z | z
     ·exact a b (by simp[z])
     ·rw[List.mem_singleton.mp z];exact⟨(a t (by simp)).1,d,c _ _⟩
    ·rcases aGz.mp hb with z | z
     ·exact a b z
     ·rw[List.mem_singleton.mp z];exact⟨e,d,c _ _⟩
 have go:∀(l:List P2) (f:List Bd),(∀p∈l,p.1∈cV rs/\p.2∈cV rs)->(∀b∈f,b.lo∈cV rs/\b.hi∈cV rs/\∀t∈b.ln,t.1∈rs.map (·.x0)++rs.map (·.x1)/\t.2∈rs.map (·.x0)++rs.map (·.x1))->
   ∀b∈l.foldl (bB rs) f,b.lo∈cV rs/\b.hi∈cV rs/\∀t∈b.ln,t.1∈rs.map (·.x0)++rs.map (·.x1)/\t.2∈rs.map (·.x0)++rs.map (·.x1):=by
  intro l
  induction l with
  | nil=>intro f _ a;exact a
  | cons p l ih=>
   intro f h a;exact ih _ (λq j=>h q (aGx _ j)) (step f p (h p aGw).1 (h p aGw).2 a)
 refine go _ [] (λp k=>?_) (by simp);obtain⟨e,d⟩:=List.of_mem_zip (show (p.1,p.2)∈_ from k);exact⟨e,List.mem_of_mem_tail d⟩
def Good(r:R4):Prop:=r.x0<r.x1/\r.y0<r.y1
def Nums(xs ys:List Int)(r:R4):Prop:=r.x0∈xs/\r.x1∈xs/\r.y0∈ys/\r.y1∈ys
theorem iB:∀b∈aY rs,b.ln.length<=rs.length:=by
 have a:∀lo hi,(b6 (aX rs lo hi)).length<=rs.length:=λlo hi=>aHm (FJ _) (n4 _ _ _)
 have step:∀(f:List Bd) (p:P2),(∀b∈f,b.ln.length<=rs.length)->∀b∈bB rs f p,b.ln.length<=rs.length:=λf p c b hb=>by
  rcases aHl f with rfl | ⟨g,t,rfl⟩
  ·rw[fD]at hb;split at hb
   ·cases hb
   ·rw[List.mem_singleton.mp hb];exact a _ _
  ·rw[List.concat_eq_append]at*;rw[eG]at hb;split at hb
   ·exact c b hb
   ·split at hb
    ·rcases aGz.mp hb with z | z
     ·exact c b (by simp[z])
     ·rw[List.mem_singleton.mp z];exact a _ _
    ·rcases aGz.mp hb with z | z
     ·exact c b z
     ·rw[List.mem_singleton.mp z];exact a _ _
 have go:∀(l:List P2) (f:List Bd),(∀b∈f,b.ln.length<=rs.length)->∀b∈l.foldl (bB rs) f,b.ln.length<=rs.length:=by
  intro l
  induction l with
  | nil=>intro f c;exact c
  | cons p l ih=>intro f c;exact ih _ (step f p c)
 exact go _ [] (by simp)
theorem uP:b7 g x y↔∃r∈LS.aU g,r.has x y:=by
 unfold b7 LS.aU;constructor
 ·rintro⟨b,hb,a,c,t,ht,d,e⟩;exact⟨⟨t.1,b.lo,t.2,b.hi⟩,aIm.mpr ⟨b,hb,aH5.mpr ⟨t,ht,rfl⟩⟩,d,e,a,c⟩
 ·rintro⟨r,f,a,c,d,e⟩;obtain⟨b,hb,f⟩:=aIm.mp f;obtain⟨t,ht,rfl⟩:=aH5.mp f;exact⟨b,hb,d,e,t,ht,a,c⟩
theorem qL{r:R4}(a:∀r∈rs,Good r)(h:r∈LS.aU (aY rs)):Good r/\Nums (rs.map (·.x0)++rs.map (·.x1)) (cV rs) r:=by
 obtain⟨c,_⟩:=lO (rs:=rs) a;obtain⟨b,hb,h⟩:=aIm.mp h;obtain⟨t,ht,rfl⟩:=aH5.mp h;obtain⟨e,f,d⟩:=B2 b hb;exact⟨⟨(c.sep b hb).1 t ht,c.lt b hb⟩,(d t ht).1,(d t ht).2,e,f⟩
end LR
namespace LT
open PySem PyProof.Rows L2 D3
open LR
def eV(s:OA):WS:=(aW (bZ (h9 (aT cO (GY ["_law_rect"] [] (cZ (aB 0)) (gN 0) lC (aT fI (aB 0) (wC (.int 1)))) (GY ["_law_rect"] [] (cZ (aB 0)) (gN 0) lC (aT fI (aB 0) (wC (.int 3)))))) (gN 1)) (LR.jU s))
def dJ:OA:=λds mh Q=>∃n rs,∃a:List Int,ds=[.ref n]/\mh[n]? =some (.lst (rs.map rD))/\rs.length<=1000000/\(∀r∈rs,r.y0∈a/\r.y1∈a)/\a.length<4000/\(∀lo hi,lo<hi->(aX rs lo hi).length<4000)/\Q (gD (aY rs)) mh
theorem K5:∀{l:List Int} {i:Nat} {p:P2},l.Pairwise (· < ·)->(l.zip l.tail)[i]? =some p->p.1<p.2
 | [],i,p,_,h=>by simp at h
 | [a],i,p,_,h=>by simp at h
 | a::b::l,0,p,hp,h=>by
  simp at h;subst h;exact(aHg.mp hp).1 b aGw
 | a::b::l,i+1,p,hp,h=>K5 (l:=b::l) (aHg.mp hp).2 (by simpa using h)
theorem J0(ds:List D)(mh:MH)(R:DK)(ok:i7 mh)(P:dJ ds mh R):eV uJ (En mh R) (aG ["_law_rects_here","_law_ys","_law_found","_law_low","_law_high","_law_line_here"] ds) mh:=by
 obtain⟨n,rs,Q,rfl,g,hr,h,w,x,q⟩:=P;have sz:=aHh;have S:n<mh.length:=eS g;simp[eV,aG];rw[bI g];simp;refine i3 rD (·.y0) .int rs (bI g) (λr _ N hN=>by simpa[jM,rD,mC] using hN) ?_;rw[bI (aM g)];simp only[cB];refine i3 rD (·.y1) .int rs (bI (aM g)) (λr _ N hN=>by simpa[jM,rD,T9] using hN) ?_;rw[L7 (i:=(rs.map (·.y0)).map .int) (j:=(rs.map (·.y1)).map .int) (by simp) (by simp)];refine⟨by simp;lia,(rs.map (·.y0)++rs.map (·.y1)).map Sum.inl,?_,Q.map Sum.inl,λk U=>?_,by simpa using w,by rw[<-xW];exact tW _,λks V nd A B=>?_⟩
 ·rw[FH (fL _ _),<-xW];simp
 ·obtain⟨y,W,rfl⟩:=aH5.mp U;refine aH8 ?_;rcases aGz.mp W with z | z <;> obtain⟨r,l,rfl⟩:=aH5.mp z
  ·exact(h r l).1
  ·exact(h r l).2
 have L:ks.map aN=(cV rs).map .int:=IX V nd B;rw[L];have X:(cV rs).length<4000:=by have:=aHu List.length L;simp at this A;lia
 have m:=d8 (rs.map (·.y0)++rs.map (·.y1));change (cV rs).Pairwise _ at m;generalize C:cV rs=ys at*;have E:cG mh (((mh++[MO.lst ((rs.map (·.y0)).map .int)])++[MO.lst ((rs.map (·.y1)).map .int)])++[MO.lst (((rs.map (·.y0)).map .int)++((rs.map (·.y1)).map .int))]):=((cG.refl.push _).push _).push _;generalize ((mh++[MO.lst ((rs.map (·.y0)).map .int)])++[MO.lst ((rs.map (·.y1)).map .int)])++[MO.lst (((rs.map (·.y0)).map .int)++((rs.map (·.y1)).map .int))]=M at E⊢;simp[jU,jT];rw[UQ (ds:=ys.map .int) (by simp),yJ,<-List.map_tail];have Y:=E.le;have F:(M++[MO.lst (ys.map .int),.lst []]++[.lst (ys.tail.map .int)])[M.length]? =some (.lst (ys.map .int)):=by simp
 have O:(M++[MO.lst (ys.map .int),.lst []]++[.lst (ys.tail.map .int)])[M.length+1]? =some (.lst []):=by simp
 have G:(M++[MO.lst (ys.map .int),.lst []]++[.lst (ys.tail.map .int)])[M.length+2]? =some (.lst (ys.tail.map .int)):=by simp
 have o:cG mh (M++[MO.lst (ys.map .int),.lst []]++[.lst (ys.tail.map .int)]):=(E.app _).app _;have Z:(M++[MO.lst (ys.map .int),MO.lst []]).length=M.length+2:=by simp
 rw[Z];generalize M++[MO.lst (ys.map .int),.lst []]++[.lst (ys.tail.map .int)]=M2 at F O G o⊢;rw[bI F,bI G];simp only[cB];refine⟨by simp;lia,?_⟩;rw[zip_map];refine bJ (λi s mh' =>(∃a b c,s=[some (.ref n),some (.ref M.length),some (.ref (M.length+1)),a,b,c])/\cG mh mh' /\mh'[M.length]? =some (.lst (ys.map .int))/\mh'[M.length+2]? =some (.lst (ys.tail.map .int))/\mh'[M.length+1]? =some (.lst ((((ys.zip ys.tail).take i).foldl (bB rs) []).map bD))) _ ?_ ?_ ?_ ⟨⟨_,_,_,rfl⟩,o,F,G,by simpa using O⟩
 ·rintro i s mh' ⟨_,_,t,u,_⟩;exact⟨bI t,bI u⟩
 ·rintro i d s mh' N hi ⟨⟨a,b,c,rfl⟩,f,t,u,v⟩ nx;obtain⟨p,H,rfl⟩:=dN hi;have I:i<(ys.zip ys.tail).length:=(aGt.mp H).1;have J:=iL rs ((ys.zip ys.tail).take i) [];simp;refine Y6 f (f.old g) (x _ _ (K5 m H)) v (by lia) (by simp at I J⊢;lia) λa T K=>nx _ _ ⟨⟨_,_,_,rfl⟩,K,get_set (pR t) (by lia),get_set (pR u) (by lia),?_⟩;rw[bE _ (pR v),take_snoc H];simp
 ·rintro s mh' ⟨⟨a,b,c,rfl⟩,f,t,u,v⟩;simp only[jS];simp[bG];rw[v];simp;have e:(ys.zip ys.tail).take (ys.length-1)=ys.zip ys.tail:=aK1 (by simp);refine f.out ok (by simp[dB,mJ]) ?_;rw[e];have:aY rs=(ys.zip ys.tail).foldl (bB rs) []:=by rw[<-C];rfl
  rw[<-this];exact q
end LT
namespace LR
open PySem PyProof.Rows L2 D3
def m4(a:OA):WS:=(fB (EF "list" cP (aB 3) (aA (eP (aA (aT n6 (aB 4) (aB 1)) (aA (aT cO (aB 5) (aB 2)) (aA (aB 7) aD)))) aD)))
def rA(a:OA):WS:=(aW (bZ (aE oG (aA (GY ["x0","x1"] [1,2] (cZ (aB 6)) (gT 2 (aQ (gN 0) (aQ (gN 1) dZ))) lC (eP (aA (aT n6 (aB 0) (aB 2)) (aA (aT cO (aB 1) (aB 3)) aD)))) aD)) (gN 7)) (m4 a))
def tE(a:OA):WS:=(c5 (aE (dfl 1 a) (aA (aB 3) aD)))
def tF(a:OA):WS:=(aW (gB (cZ (aB 0)) (gT 3 (aQ (gN 4) (aQ (gN 5) (aQ (gN 6) dZ)))) (rA a)) (tE a))
def oN(a:OA):WS:=(aW (bZ (kB aD) (gN 3)) (tF a))
def sP(a:OA):WS:=(c5 (aE a (aA (aB 0) (aA (aB 1) (aA (aB 1) aD)))))
def wdS(l h:Int)(s:P2):P2:=(s.1-l,s.2+h)
def wdB(l h:Int)(b:Bd):Bd:=⟨b.lo-l,b.hi+h,b.ln.map (wdS l h)⟩
def wX(k:Int)(r:R4):R4:=⟨r.x0-k,r.y0-k,r.x1+k,r.y1+k⟩
def sT:OA:=λds mh Q=>∃(g:List Bd) (l h:Int) (xs ys:List Int),ds=[gD g,.int l,.int h]/\g.length<=400000/\xs.length<2000/\ys.length<2000/\(∀b∈g,b.lo-l<b.hi+h/\b.lo∈ys/\b.hi∈ys/\b.ln.length<=1000000/\∀t∈b.ln,t.1-l<t.2+h/\t.1∈xs/\t.2∈xs)/\
 ∀g' :List Bd,oJ g' ->(∀x y,b7 g' x y↔b7 (g.map (wdB l h)) x y)->Q (gD g') mh
theorem OL(ds:List D)(mh:MH)(R:DK)(ok:i7 mh)(p:sT ds mh R):oN L9 (En mh R) (aG ["region","low","high","bands","y0","y1","row","wider"] ds) mh:=by
 obtain⟨g,l,h,xs,ys,rfl,r,F,G,hg,q⟩:=p;have sz:=aHh;simp[oN,tF,aG,gD];refine bJ (λi f mh' =>(∃a b c d,f=[some (gD g),some (.int l),some (.int h),some (.ref mh.length),a,b,c,d])/\cG mh mh' /\mh'[mh.length]? =some (.lst (((g.take i).map (wdB l h)).map bD))) _ (λ_ _ _ _=>rfl) ?_ ?_ ⟨⟨_,_,_,_,rfl⟩,cG.refl.push _,by simp⟩
 ·rintro i d f mh' N hi ⟨⟨a,b,c,d',rfl⟩,j,e⟩ nx;obtain⟨b,hb,rfl⟩:=dN hi;have k:=aH1 hb;have s:=hg b k;have u:i<g.length:=(aGt.mp hb).1;simp[bD,iC,rA];rw[show bG mh' (.tup (b.ln.map sD))=some (b.ln.map sD) from rfl];simp only[cB];refine i3 sD (wdS l h) sD b.ln rfl (λt _ N hN=>?_) ?_
  ·simp[jM,sD];exact⟨by lia,by simpa[sD,wdS] using hN⟩
  ·rw[bI (fL _ _)];simp[m4,sI];rw[dS (aM e)];refine⟨⟨_,aM e⟩,by lia,by simp;lia,nx _ _ ⟨⟨_,_,_,_,rfl⟩,(j.push _).set (aGy _) _,?_⟩⟩;rw[bE _ (aM e),take_snoc hb];simp[bD,wdB,iC]
 ·rintro f mh' ⟨⟨a,b,c,d,rfl⟩,j,e⟩;simp[tE];rw[List.take_of_length_le (by simp)]at e;refine VZ (xs.map (· - l)++xs.map (· +h)) (ys.map (· - l)++ys.map (· +h)) e (by simpa using r) (by simp;lia) (by simp;lia) (λb hb=>?_) λg' m v=>j.out ok (by simp[gD,dB,mJ]) (q g' m v);obtain⟨b,n,rfl⟩:=aH5.mp hb;obtain⟨w,x,y,z,A⟩:=hg b n;refine⟨w,aHn _ (aH8 x),aHb _ (aH8 y),by simpa[wdB] using z,λt ht=>?_⟩;obtain⟨t,o,rfl⟩:=aH5.mp ht;obtain⟨B,C,E⟩:=A t o;exact⟨B,aHn _ (aH8 C),aHb _ (aH8 E)⟩
theorem TU{g:List Bd}{k x y:Int}:b7 (g.map (wdB k k)) x y↔∃r∈LS.aU g,(wX k r).has x y:=by
 unfold b7 LS.aU;constructor
 ·rintro⟨b,hb,a,c,t,ht,d,e⟩;obtain⟨b,f,rfl⟩:=aH5.mp hb;obtain⟨t,h,rfl⟩:=aH5.mp ht;exact⟨⟨t.1,b.lo,t.2,b.hi⟩,aIm.mpr ⟨b,f,aH5.mpr ⟨t,h,rfl⟩⟩,d,e,a,c⟩
 ·rintro⟨r,j,a,c,d,e⟩;obtain⟨b,hb,i⟩:=aIm.mp j;obtain⟨t,ht,rfl⟩:=aH5.mp i;exact⟨wdB k k b,aH8 hb,d,e,wdS k k t,aH8 ht,a,c⟩
def qK:OA:=λds mh Q=>∃(g:List Bd) (k:Int) (xs ys:List Int),ds=[gD g,.int k]/\0<=k/\g.length<=400000/\xs.length<2000/\ys.length<2000/\(∀b∈g,b.lo<b.hi/\b.lo∈ys/\b.hi∈ys/\b.ln.length<=1000000/\∀t∈b.ln,t.1<t.2/\t.1∈xs/\t.2∈xs)/\
 ∀g' :List Bd,oJ g' ->(∀x y,b7 g' x y↔∃r∈LS.aU g,(wX k r).has x y)->Q (gD g') mh
theorem TF(ds:List D)(mh:MH)(R:DK)(ok:i7 mh)(c:qK ds mh R):sP sT (En mh R) (aG ["region","k"] ds) mh:=by
 obtain⟨g,k,xs,ys,rfl,n,d,e,f,hg,q⟩:=c;simp[sP,aG];refine⟨g,k,k,xs,ys,rfl,d,e,f,λb hb=>?_,λg' a h=>cA (q g' a λx y=>by rw[h,TU])⟩;obtain⟨o,i,j,l,m⟩:=hg b hb;exact⟨by lia,i,j,l,λt ht=>by have:=m t ht;exact⟨by lia,this.2⟩⟩
theorem DE{rs:List R4}{k:Int}{mh:MH}{Q:DK}(f:0<=k)(m:rs.length<500)(a:∀r∈rs,Good r){g:List Bd}(hg:oJ g)(h:∀x y,b7 g x y↔∃r∈LS.aU (aY rs),(wX k r).has x y)(q:Q (gD g) mh):qK [gD (aY rs),.int k] mh Q:=by
 have n:=mI rs;have o:=tD rs;obtain⟨c,_⟩:=lO (rs:=rs) a;refine⟨aY rs,k,rs.map (·.x0)++rs.map (·.x1),cV rs,rfl,f,by lia,by simp;lia,by lia,λb hb=>?_,λg' d e =>?_⟩
 ·obtain⟨i,j,l⟩:=B2 b hb;have:=iB b hb;exact⟨c.lt b hb,i,j,by lia,λt ht=>⟨(c.sep b hb).1 t ht,l t ht⟩⟩
 ·have:g' =g:=D6 d hg λx y=>(e x y).trans (h x y).symm;rw[this];exact q
end LR
namespace LP
open PySem PyProof.Rows L2 D3
open LR (P2 R4 Bd sD rD bD iC gD aY cV)
def j4(a:OA):WS:=(fB (EF "list" cP (aB 4) (aA (eP (aA (aT cO (aT gX (aB 5) (aB 1)) (aB 2)) (aA (aT cO (aT gX (aB 6) (aB 1)) (aB 3)) (aA (aT cO (aT cO (aT gX (aB 5) (aB 1)) (aB 1)) (aB 2)) (aA (aT cO (aT cO (aT gX (aB 6) (aB 1)) (aB 1)) (aB 3)) aD))))) aD)))
def kZ(a:OA):WS:=(c5 (aE a (aA (aB 4) aD)))
def k9(a:OA):WS:=(aW (gB (BK (aB 0)) (gT 2 (aQ (gN 5) (aQ (gN 6) dZ))) (j4 a)) (kZ a))
def fT(a:OA):WS:=(aW (bZ (kB aD) (gN 4)) (k9 a))
def pD(p:P2):D:= .tup [.int p.1,.int p.2]
theorem MW{p q:P2}(h:pD p=pD q):p=q:=by simp[pD]at h;exact aKx h.1 h.2
def Bx(a b:Int)(p:P2):Prop:=(a<=p.1/\p.1<b)/\a<=p.2/\p.2<b
structure Pl(a b:Int)(kvs:List (D×D))(P:List P2):Prop where
 key:kvs.map (·.1)=P.map pD
 nd:P.Nodup
 box:∀p∈P,Bx a b p
variable {a b:Int}{kvs:List (D×D)}{P:List P2}
theorem ndl{α:Type}[DecidableEq α]:∀(l m:List α),l.Nodup->(∀x∈l,x∈m)->l.length<=m.length
 | [],m,_,_=>by simp
 | a::l,m,nd,h=>by
  have c:=aIi.mp nd;have b:=h a aGw;have:=ndl l (m.erase a) c.2 λx d=>(aKc (λz:x=a=>c.1 (by rw[<-z];exact d))).mpr (h x (aGx _ d));rw[List.length_erase_of_mem b]at this;have:=aK3 b;simp only[List.length_cons];lia
theorem Pl.X8(n:Nat)(h:Pl a b kvs P)(d:b-a<=n):P.length<=n*n:=by
 have:=ndl P ((List.range n).flatMap λ(i:Nat)=>(List.range n).map λ(j:Nat)=>((i:Int)+a,(j:Int)+a)) h.nd λp c=>by
  have:=h.box p c;unfold Bx at this;refine aIm.mpr ⟨(p.1-a).toNat,by simp;lia,aH5.mpr ⟨(p.2-a).toNat,by simp;lia,?_⟩⟩;apply aKx <;> simp <;> lia
 have e:((List.range n).flatMap λ(i:Nat)=>(List.range n).map λ(j:Nat)=>((i:Int)+a,(j:Int)+a)).length=n*n:=by
  simp[List.length_flatMap,List.map_const',List.sum_replicate_nat]
 lia
theorem Pl.len(n:Nat)(h:Pl a b kvs P)(c:b-a<=n):kvs.length<=n*n:=by
 have:=aHu List.length h.key;simp at this;have:=h.X8 n c
 lia
theorem Pl.mem(h:kvs.map (·.1)=P.map pD)(p:P2):(∃x∈kvs,x.1=pD p)↔p∈P:=by
 constructor
 ·rintro⟨x,a,e⟩;have:x.1∈kvs.map (·.1):=aH8 a;rw[h,e]at this;obtain⟨q,b,c⟩:=aH5.mp this;rw[<-MW c];exact b
 ·intro d;have:pD p∈kvs.map (·.1):=by rw[h];exact aH8 d
  obtain⟨x,a,e⟩:=aH5.mp this;exact⟨x,a,e⟩
theorem Pl.put(h:Pl a b kvs P)(p:P2)(v:D)(e:Bx a b p):∃d,Pl a b (putD kvs (pD p) v) d /\∀q,q∈d ↔q∈P\/q=p:=by
 have mem:=Pl.mem h.key p;by_cases c:p∈P
 ·refine⟨P,⟨?_,h.nd,h.box⟩,λq=>⟨.inl,λz=>z.elim id λz=>z▸c⟩⟩;unfold putD;rw[if_pos (mem.mpr c),<-h.key,List.map_map];refine aJo λx _=>?_;simp only[Function.comp_def];split <;> rfl
 ·refine⟨P++[p],⟨?_,?_,λq f=>?_⟩,λq=>by simp⟩
  ·unfold putD;rw[if_neg (λz=>c (mem.mp z))];simp[h.key]
  ·rw[List.nodup_append];exact⟨h.nd,by simp,λa ha b hb=>by simp at hb;subst hb;exact λz=>c (z▸ha)⟩
  ·rcases aGz.mp f with z | z
   ·exact h.box q z
   ·simp at z;subst z;exact e
theorem Pl.drop(h:Pl a b kvs P)(p:P2):Pl a b (bM kvs (pD p)) (P.filter λq=>decide (q≠p)):=by
 refine⟨?_,h.nd.filter _,λq d=>h.box q (aIx.mp d).1⟩
 have go:∀(kvs:List (D×D)) (P:List P2),kvs.map (·.1)=P.map pD->(bM kvs (pD p)).map (·.1)=(P.filter λq=>decide (q≠p)).map pD:=by
  intro kvs
  induction kvs with
  | nil=>intro P e;cases P with
   | nil=>rfl
   | cons q P=>simp at e
  | cons x kvs ih=>
   intro P e
   cases P with
   | nil=>simp at e
   | cons q P=>
    simp only[List.map_cons,List.cons.injEq]at e;have:=ih P e.2;unfold bM at this⊢;by_cases c:q=p
    ·rw[List.filter_cons_of_neg (by simp[e.1,c]),List.filter_cons_of_neg (by simp[c])];exact this
    ·rw[List.filter_cons_of_pos (by simp only[decide_eq_true_eq];rw[e.1];exact λz=>c (MW z)),List.filter_cons_of_pos (by simpa using c)];simp only[List.map_cons,e.1,this]
 exact go kvs P h.key
def Kp(n:Nat)(mh mh' :MH):Prop:=∀m o,m≠n->mh[m]? =some o->mh'[m]? =some o
variable{n:Nat}
theorem Kp.refl{mh:MH}:Kp n mh mh:=λ_ _ _ h=>h
theorem Kp.set{n m:Nat}{a b:MH}(h:Kp n a b)(c:a.length<=m)(o:MO):Kp n a (b.set m o):=λk u e z=>get_set (h k u e z) (by have:=eS z;lia)
theorem IF{a:d7}{mh:MH}{i n:Nat}{t:Bool}{Q:List D->(MH->Prop)->MH->Prop}(b:a[i]? =some (some (.ref n)))(h:DV mh n t kvs)
  (q:∀ob mh',mh'[n]? =some (.fdc t kvs ob)->Kp n mh mh' ->mh'.length=mh.length->Q (kvs.map (·.1)) (λmh' =>mh'[n]? =some (.fdc t kvs ob)) mh'):BK (aB i) a mh Q:=by
 refine⟨_,b,n,t,kvs,rfl,?_⟩;rcases h with h | ⟨ob,h⟩
 ·exact .inl ⟨h,λob=>q ob _ (bE _ h) (λm o e z=>get_set z (aHv e)) (by simp)⟩
 ·exact .inr ⟨ob,h,q ob _ h Kp.refl rfl⟩
def G5(a dx b:Int)(p:P2):R4:=⟨p.1*a +dx,p.2*a +b,p.1*a +a +dx,p.2*a +a +b⟩
def uK:OA:=λds mh Q=>∃(n:Nat) (kvs:List (D×D)) (P:List P2) (a dx b:Int),ds=[.ref n,.int a,.int dx,.int b]/\DV mh n true kvs/\kvs.map (·.1)=P.map pD/\P.length<1000/\0<a /\a<100000/\
 ∀mh',DV mh' n true kvs->Kp n mh mh' ->Q (gD (aY (P.map (G5 a dx b)))) mh'
theorem G9{mh:MH}{rs:List R4}{Q:DK}(b:mh[n]? =some (.lst (rs.map rD)))(c:rs.length<2000)(q:Q (gD (aY rs)) mh):LT.dJ [.ref n] mh Q:=
 ⟨n,rs,rs.map (·.y0)++rs.map (·.y1),rfl,b,by lia,λr a=>⟨aHn _ (aH8 a),aHb _ (aH8 a)⟩,by simp;lia,λlo hi _=>by have:=LR.n4 rs lo hi;lia,q⟩
theorem TH(ds:List D)(mh:MH)(R:DK)(ok:i7 mh)(u:uK ds mh R):fT LT.dJ (LR.En mh R) (aG ["_law_places","_law_by","_law_dx","_law_dy","_law_rects_here","_law_x","_law_y"] ds) mh:=by
 obtain⟨n,kvs,P,c,dx,r,rfl,hd,v,B,w,x,q⟩:=u;have sz:=aHh;have C:n<mh.length:=by rcases hd with h | ⟨_,h⟩ <;> exact eS h
 simp[fT,k9,aG];refine IF rfl (t:=true) (kvs:=kvs) (by rcases hd with h | ⟨ob,h⟩;exact .inl (aM h);exact .inr ⟨ob,aM h⟩) λob M y kp ln=>?_;rw[v];refine bJ (λi k g =>(∃a b,k=[some (.ref n),some (.int c),some (.int dx),some (.int r),some (.ref mh.length),a,b])/\g[n]? =some (.fdc true kvs ob)/\Kp n mh g /\g[mh.length]? =some (.lst (((P.take i).map (G5 c dx r)).map rD))) _ (λ_ _ _ h=>h.2.1) ?_ ?_ ⟨⟨_,_,rfl⟩,y,λm o e z=>kp m o e (aM z),kp _ _ (by lia) (by simp)⟩
 ·rintro i d k g N hi ⟨⟨a,b,rfl⟩,l,f,e⟩ nx;obtain⟨p,s,rfl⟩:=dN hi;have A:i<P.length:=(aGt.mp s).1;simp[pD,j4,sI];rw[dS e];have j:∀i:Int,GO i c :=λi=>.inr ⟨by lia,by lia⟩;refine⟨⟨_,e⟩,j _,j _,j _,j _,by lia,by simp;lia,nx _ _ ⟨⟨_,_,rfl⟩,get_set l (by lia),f.set (aGy _) _,?_⟩⟩;rw[bE _ e,take_snoc s];simp[rD,G5]
 ·rintro k g ⟨⟨a,b,rfl⟩,l,f,e⟩;rw[List.take_of_length_le (by simp)]at e;simp[kZ];exact G9 e (by simp;lia) (cA (q _ (.inr ⟨ob,l⟩) f))
end LP
namespace K07
open PySem PyProof.Rows L2 D3
set_option hygiene false
local macro_rules | `(tactic| walk_at "t")=>`(tactic| repeat' first | ((with_reducible show vZ _ _ (gN _));exact HY _) | ((with_reducible show vZ _ _ _);refine' ZE ?_) | ((with_reducible show yV _ _ (aQ _ _));refine' OV ?_ ?_) | ((with_reducible show yV _ _ _);exact TK) | exact J1 (by decide) | exact FV | refine' OW ?_ | refine' J2 ?_ ?_ ?_ ?_ | exact OX | refine' gmono_tup ?_ | refine' FW ?_ ?_ | exact J3)
local macro_rules | `(tactic| walk_at "g")=>`(tactic| first | ((with_reducible show List.Nodup _);assumption) | ((with_reducible show LA _ _ _);first | ((with_reducible show LA _ (_::_) _);refine' aG5 ?_ ?_) | ((with_reducible show LA _ [] _);exact YM)) | ((with_reducible show LE _ _ _);first | ((with_reducible show LE _ _ (GY _ _ _ _ _ _));refine' YF _ _ ?a ?b ?r ?s ?_ ?g ?u ?v;(case a=>decide+kernel);(case b=>decide+kernel);(case r=>walk_at "t");(case s=>walk_at "t");(case g=>intro _ _ _ _ _ _;repeat' walk_at "g");(case u=>intro _ _ _ _ _;repeat' walk_at "g");(case v=>intro _ _ _ _ _;repeat' walk_at "g")) | ((with_reducible show LE _ (.Name _ _) (aB _));exact X9 _) | ((with_reducible show LE _ (.Constant (.int _) _ _) _);exact le_int) | ((with_reducible show LE _ (.BinOp _ _ _ _) _);refine' aCk ?_ ?_ ?_) | ((with_reducible show LE _ _ (aT fI _ _));refine' U1 ?a ?_ ?_ ?b;(case a=>exact ixl);(case b=>exact λ_ _=>rfl)) | ((with_reducible show LE _ (.Tuple _ _ _) _);refine' YA ?_) | ((with_reducible show LE _ (.List _ _) _);refine' YE ?_) | ((with_reducible show LE _ (.UnaryOp .USub _ _) _);refine' aCi ?_ ?_) | ((with_reducible show LE _ (.Call (.Name "len" _) _ _ _) _);refine' FL ?a ?b ?c ?_;(case a=>exact ZT);(case b=>exact B.len);(case c=>exact Z3)) | ((with_reducible show LE _ _ (EF _ cP _ _));refine' U3 ?a ?b ?c ?d ?_ ?_;(case a=>exact PySem.F.plainAttrs_list);(case b=>exact PySem.F.slot_list_append);(case c=>exact PySem.F.type_list_append);(case d=>exact JN)) | ((with_reducible show LE _ (.Call (.Name "isinstance" _) _ _ _) _);refine' FL ?a ?b ?c ?_;(case a=>exact ZU);(case b=>exact B.isinstance);(case c=>exact wM)) | ((with_reducible show LE _ (.Constant (.bool _) _ _) _);exact aCq) | ((with_reducible show LE _ (.Compare _ [_] [_] _) _);refine' YG ?_ ?_ ?_ ?a;(case a=>exact aCa _)) | ((with_reducible show LE _ (.Call (.Name "min" _) _ _ _) _);refine' FL ?a ?b ?c ?_;(case a=>exact TY rfl);(case b=>exact B.min);(case c=>exact ZY)) | ((with_reducible show LE _ (.Call (.Name "tuple" _) _ _ _) _);refine' aG4 ?a ?b ?c ?_;(case a=>exact PN);(case b=>exact B.tuple);(case c=>exact vU)) | ((with_reducible show LE _ _ (aT MZ _ _));refine' U1 ?a ?_ ?_ ?b;(case a=>exact ixD hr.units);(case b=>exact λ_ _=>rfl)) | ((with_reducible show LE _ (.Name "tuple" _) (wC _));refine' CT ?a ?b;(case a=>exact B.tuple);(case b=>exact vU)) | ((with_reducible show LE _ (.Name "list" _) (wC _));refine' CT ?a ?b;(case a=>exact B.list);(case b=>exact IK)) | ((with_reducible show LE _ (.BoolOp .And (_::_::_) _) _);refine' YI ?_ ?_) | ((with_reducible show LE _ _ (LJ _ _ _ _));refine' YB ?_ ?_ ?_ ?_) | ((with_reducible show LE _ (.Call (.Name "sorted" _) _ _ _) _);refine' FL ?a ?b ?c ?_;(case a=>exact F8 hr.units rfl);(case b=>exact B.sorted);(case c=>exact qS)) | ((with_reducible show LE _ _ (yY false));exact SU) | ((with_reducible show LE _ _ (wY _ _ _));refine' SR ?_ ?_ ?_) | ((with_reducible show LE _ _ (wSl oSl _ _ _));refine' NT ?a ?_ ?_ ?_;(case a=>exact sll)) | ((with_reducible show LE _ (.Call (.Name "max" _) _ _ _) _);refine' FL ?a ?b ?c ?_;(case a=>exact TZ rfl);(case b=>exact B.max);(case c=>exact ZZ)) | ((with_reducible show LE _ (.Name "str" _) (wC _));refine' CT ?a ?b;(case a=>exact B.str);(case b=>exact ZW)) | ((with_reducible show LE _ (.BoolOp _ [_] _) _);refine' YC ?_) | ((with_reducible show LE _ _ (yY true));exact SS) | ((with_reducible show LE _ _ (wTZ 2 _));refine' aCj ?a ?b ?c ?d ?e ?_;(case a=>exact UJ);(case b=>exact show 0<2/\2<=1000 by decide);(case c=>exact rfl);(case d=>exact B.tuple);(case e=>exact B.zip)) | ((with_reducible show LE _ _ (GZ _ _ _));refine' SV ?a ?_ ?_ ?_;(case a=>exact hr.units)) | ((with_reducible show LE _ _ (wLZ 3 _));refine' aCl ?a ?b ?c ?d ?e ?_;(case a=>exact aAj);(case b=>exact show 0<3/\3<=1000 by decide);(case c=>exact rfl);(case d=>exact B.list);(case e=>exact B.zip)) | ((with_reducible show LE _ _ (aE (dfl _ _) _));refine' NX ?a ?b ?_;(case a=>assumption);(case b=>exact hr)) | ((with_reducible show LE _ (.Call (.Name "abs" _) _ _ _) _);refine' FL ?a ?b ?c ?_;(case a=>exact ZV);(case b=>exact B.abs);(case c=>exact Z5)) | ((with_reducible show LE _ (.IfExp _ _ _ _) _);refine' NU ?_ ?_ ?_) | ((with_reducible show LE _ (.Call (.Name "sorted" _) _ _ _) _);refine' FL ?a ?b ?c ?_;(case a=>exact KI hr.units);(case b=>exact B.sorted);(case c=>exact qS)) | ((with_reducible show LE _ _ (h9 _));refine' wD ?a ?b ?c ?d ?_;(case a=>exact hr.units);(case b=>exact rfl);(case c=>exact B.set);(case d=>exact B.sorted)) | ((with_reducible show LE _ (.Name "int" _) (wC _));refine' CT ?a ?b;(case a=>exact B.int);(case b=>exact Z4)) | ((with_reducible show LE _ (.Name "bool" _) (wC _));refine' CT ?a ?b;(case a=>exact B.bool);(case b=>exact T4)) | ((with_reducible show LE _ (.UnaryOp .Not _ _) _);refine' YD ?_) | ((with_reducible show LE _ _ (EF _ u5 _ _));refine' U3 ?a ?b ?c ?d ?_ ?_;(case a=>exact PySem.F.plainAttrs_list);(case b=>exact aJr);(case c=>exact PySem.F.type_list_extend);(case d=>exact FC)) | ((with_reducible show LE _ _ (EL _ _));refine' NV ?a ?_ ?_;(case a=>exact hr.units)) | ((with_reducible show LE _ (.Call (.Name _ _) _ _ _) (aE _ _));refine' aCo ?a ?b ?_;(case a=>assumption);(case b=>exact hr))) | ((with_reducible show LS _ _ _);first | ((with_reducible show LS _ (.Return (some _) _) _);refine' X0 ?_) | ((with_reducible show LS _ (.If _ _ _ _) _);refine' aCd ?_ ?_ ?_) | ((with_reducible show LS _ (.For _ _ _ _ _) _);refine' X3 ?a ?b ?_ ?_ ?r ?_;(case a=>exact PassesOwn.never);(case b=>exact rfl);(case r=>walk_at "t")) | ((with_reducible show LS _ (.Expr _ _) _);refine' aFz ?_) | ((with_reducible show LS _ (.Continue _) _);exact CO) | ((with_reducible show LS _ (.Delete _ _) _);refine' SI ?_ ?_) | ((with_reducible show LS _ (.AugAssign _ _ _ _) _);refine' X4 _ ?a ?b ?_;(case a=>assumption);(case b=>exact RW)) | ((with_reducible show LS _ (.While _ _ _ _) _);refine' NR ?a ?_ ?_;(case a=>exact PassesOwn.never)) | ((with_reducible show LS _ (.Assign [.Subscript _ _ _] _ _) (LK _ _ _));refine' SE ?a ?b ?_ ?_ ?_;(case a=>exact nt);(case b=>exact hr.units)) | ((with_reducible show LS _ (.Assign [.Subscript _ (.Tuple _ _ _) _] _ _) _);refine' SF ?a ?_ ?_ ?_;(case a=>exact hr.units)) | ((with_reducible show LS _ (.Assign [.Name _ _] _ _) _);refine' aFy _ ?_ ?_) | ((with_reducible show LS _ (.Assign [.Subscript _ _ _] _ _) (rF _ _ _));refine' SD ?_ ?_ ?_) | ((with_reducible show LS _ (.Assign [.Tuple _ _ _] _ _) _);refine' X5 ?_ ?_ ?r;(case r=>walk_at "t")) | ((with_reducible show LS _ (.Assign [.Subscript _ _ _] _ _) (GW _ _ _));refine' SG ?a ?_ ?_ ?_;(case a=>exact hr.units))) | ((with_reducible show LI _ _ _ _);first | ((with_reducible show LI _ _ _ (iS _));refine' JP ?a ?b ?_;(case a=>exact rfl);(case b=>exact B.range)) | ((with_reducible show LI _ _ _ (BK _));refine' X7 ?_) | ((with_reducible show LI _ _ _ (BJ _));refine' SO ?a ?b ?_;(case a=>exact rfl);(case b=>exact B.zip)) | ((with_reducible show LI _ _ _ (cZ _));refine' X6 ?_)) | ((with_reducible show PG _ _ _);first | ((with_reducible show PG _ (.Name _ _) _);exact QS _ (by assumption)) | ((with_reducible show PG _ (.Tuple _ _ _) _);refine' WN rfl ?_)) | ((with_reducible show PGs _ _ _);first | ((with_reducible show PGs _ (_::_) _);refine' ML ?_ ?_) | ((with_reducible show PGs _ [] _);exact RJ)) | ((with_reducible show LT _ _ _);first | ((with_reducible show LT _ (.Compare _ [_] [_] _) _);refine' NP ?_ ?_ ?_ ?a;(case a=>exact aCa _)) | ((with_reducible show LT _ (.UnaryOp .Not _ _) _);refine' XX ?_) | ((with_reducible show LT _ (.BoolOp .And _ _) _);refine' LW.lt (NM ?_ ?_)) | ((with_reducible show LT _ (.BoolOp .Or _ _) _);refine' LW.lt (aCc ?_ ?_)) | ((with_reducible show LT _ (.Compare _ [_] [_] _) _);refine' NP ?_ ?_ ?_ ?a;(case a=>rfl)) | ((with_reducible show LT _ _ _);refine' NO ?_)) | ((with_reducible show kI _ _ _);first | ((with_reducible show kI _ [_] _);refine' X1 ?_) | ((with_reducible show kI _ [] _);exact X2) | ((with_reducible show kI _ (_::_) _);refine' SJ ?_ ?_)) | ((with_reducible show eL _ _ _);first | ((with_reducible show eL _ _ (bT _ cO));exact XH) | ((with_reducible show eL _ _ (bT _ gX));exact XE) | ((with_reducible show eL _ _ (bT _ oEq));exact aC9 hr.units) | ((with_reducible show eL _ _ (bT _ n6));exact XC) | ((with_reducible show eL _ _ (bT _ oMod));exact XF) | ((with_reducible show eL _ _ (bT _ P9));exact aC7 hr.units) | ((with_reducible show eL _ _ (bT _ oLt));exact aC5 hr.units) | ((with_reducible show eL _ _ (bT _ P8));exact aC4 hr.units) | ((with_reducible show eL _ _ (bT _ xS));exact RX) | ((with_reducible show eL _ _ (bT _ MY));exact XD) | ((with_reducible show eL _ _ (bT _ oLe));exact aC6 hr.units) | ((with_reducible show eL _ _ (bT _ oGe));exact aC8 hr.units) | ((with_reducible show eL _ _ (bT _ XI));exact XG hr.units)) | ((with_reducible show UnR _ _ _);exact VM) | ((with_reducible show LW _ _ _);first | ((with_reducible show LW _ (.BoolOp .And [_] _) _);refine' R8 ?_) | ((with_reducible show LW _ (.BoolOp .And _ _) _);refine' NM ?_ ?_) | ((with_reducible show LW _ (.BoolOp .Or [_] _) _);refine' XW ?_)) | ((with_reducible show LO _ _ _);first | ((with_reducible show LO _ none _);exact SM) | ((with_reducible show LO _ (some _) _);refine' SK ?_)) | ((with_reducible show LTs _ _ _);first | ((with_reducible show LTs _ [] _);exact SA) | ((with_reducible show LTs _ [_] _);refine' R9 ?_)))
set_option hygiene true
section
variable {P:Program}{w:World}{K:aL1}{mg:aL4}{base:Heap}{k:Nat}
theorem xG:aV ["bands","kept","y0","y1","stretches"] ["bands"] (aC iX):=⟨rfl,rfl,rfl,by decide+kernel,rfl,by decide+kernel,by decide+kernel⟩
theorem N3(B:Bl mg):sM P w K mg base k "joined" ["bands","kept","y0","y1","stretches"] iX (LR.oP):=by
 intro f cdv A outer s H E hr;have nd:=xG.nd;show kI _ (_::_) _
 repeat' walk_at "g"
theorem xF:aV ["edges"] ["edges"] (aC iW):=⟨rfl,rfl,rfl,by decide+kernel,rfl,by decide+kernel,by decide+kernel⟩
theorem N1(B:Bl mg):sM P w K mg base k "paired" ["edges"] iW (LR.oO):=by
 intro f cdv A outer s H E hr;have nd:=xF.nd;show kI _ (_::_) _
 repeat' walk_at "g"
theorem oZ:aV ["steps","stretches","more","x0","x1","x","change"] ["steps","stretches","more"] (aC d9):=⟨rfl,rfl,rfl,by decide+kernel,rfl,by decide+kernel,by decide+kernel⟩
theorem CV(B:Bl mg):sM P w K mg base k "add_steps" ["steps","stretches","more","x0","x1","x","change"] d9 (LR.gY):=by
 intro f cdv A outer s H E hr;have nd:=oZ.nd;show kI _ (_::_) _
 repeat' walk_at "g"
theorem uH:aV ["steps","least","edges","deep","x","ahead"] ["steps","least"] (aC gG):=⟨rfl,rfl,rfl,by decide+kernel,rfl,by decide+kernel,by decide+kernel⟩
variable{s0:OA}
theorem JS(B:Bl mg)(DI:Fn P w K mg base k "paired" ["edges"] s0):sM P w K mg base k "covered" ["steps","least","edges","deep","x","ahead"] gG (LR.mG s0):=by
 intro f cdv A outer s H E hr;have nd:=uH.nd;show kI _ (_::_) _
 repeat' walk_at "g"
theorem uG:aV ["bands","least","changes","y0","y1","stretches","cuts","steps","rows","y","more"] ["bands","least"] (aC gF):=⟨rfl,rfl,rfl,by decide+kernel,rfl,by decide+kernel,by decide+kernel⟩
theorem JR(B:Bl mg)(rS:Fn P w K mg base k "add_steps" ["steps","stretches","more"] s0){s1:OA}(yF:Fn P w K mg base k "covered" ["steps","least"] s1){s2:OA}(DJ:Fn P w K mg base k "joined" ["bands"] s2):sM P w K mg base k "stacked" ["bands","least","changes","y0","y1","stretches","cuts","steps","rows","y","more"] gF (LR.mF s0 s1 s2):=by
 intro f cdv A outer s H E hr;have nd:=uG.nd;show kI _ (_::_) _
 repeat' walk_at "g"
theorem xE:aV ["region","low","high","bands","y0","y1","row","wider"] ["region","low","high"] (aC iV):=⟨rfl,rfl,rfl,by decide+kernel,rfl,by decide+kernel,by decide+kernel⟩
theorem N0(B:Bl mg)(yE:FnD P w K mg base k "stacked" ["bands","least"] 1 s0):sM P w K mg base k "spread" ["region","low","high","bands","y0","y1","row","wider"] iV (LR.oN s0):=by
 intro f cdv A outer s H E hr;have nd:=xE.nd;show kI _ (_::_) _
 repeat' walk_at "g"
theorem BU:aV ["region","k"] ["region","k"] (aC lI):=⟨rfl,rfl,rfl,by decide+kernel,rfl,by decide+kernel,by decide+kernel⟩
theorem S3(B:Bl mg)(DH:Fn P w K mg base k "spread" ["region","low","high"] s0):sM P w K mg base k "grown" ["region","k"] lI (LR.sP s0):=by
 intro f cdv A outer s H E hr;have nd:=BU.nd;show kI _ (_::_) _
 repeat' walk_at "g"
theorem rL:aV ["_law_script","_law_at","_law_cell","_law_mix","_law_k"] ["_law_script","_law_at"] (aC fC):=⟨rfl,rfl,rfl,by decide+kernel,rfl,by decide+kernel,by decide+kernel⟩
def nG:WS:=(bZ (aT oMod (aT MY (aT cO (aT cO (aT gX (aB 3) (wC (.int 48271))) (aT oMod (aT fI (aB 0) (aB 4)) (wC (.int 2147483647)))) (aT gX (aB 4) (aB 4))) (wC (.int 5))) (wC (.int 2147483629))) (gN 3))
def oR:WS:=(c5 (kB (aA (aB 2) (aA (aB 3) aD))))
def i9:WS:=(aW (fK (dR (aT oLt (aB 2) (aT MY (wC (.int 10)) (wC (.int 18))))) (bZ (wC (.int 0)) (gN 2)) dE) (oR))
def oS:WS:=(aW (gB (iS (aA (aE r9 (aA (aE fX (aA (aB 0) aD)) (aA (wC (.int 60)) aD))) aD)) (gN 4) (nG)) (i9))
def jA:WS:=(aW (bZ (aT cO (aT cO (aT gX (aT gX (wC (.int 7919)) (aB 1)) (aB 1)) (aT gX (wC (.int 104729)) (aB 1))) (wC (.int 17))) (gN 3)) (oS))
def oU:WS:=(aW (fK (dR (aT oLt (aB 1) (aE fX (aA (aB 0) aD)))) (bZ (aE UB (aA (aT fI (aB 0) (aB 1)) aD)) (gN 2)) dE) (jA))
def jB:WS:=(aW (bZ (wC (.int 0)) (gN 2)) (oU))
theorem FN(B:Bl mg):sM P w K mg base k "_law_bag" ["_law_script","_law_at","_law_cell","_law_mix","_law_k"] fC (jB):=by
 intro f cdv A outer s H E hr;have nd:=rL.nd;show kI _ (_::_) _
 repeat' walk_at "g"
theorem o8:aV ["_law_bag_here","_law_many","_law_digit","_law_number_here","_law_room"] ["_law_bag_here","_law_many"] (aC eB):=⟨rfl,rfl,rfl,by decide+kernel,rfl,by decide+kernel,by decide+kernel⟩
def iQ:WS:=(bZ (aT gX (aB 4) (wC (.int 1073741789))) (gN 4))
def iR:WS:=(aW (bZ (aT cO (aT gX (aB 3) (wC (.int 1073741789))) (aT oMod (aT gX (aT xS (aT fI (aB 0) (wC (.int 1))) (wC (.int 8))) (wC (.int 69621))) (wC (.int 1073741789)))) (gN 3)) (iQ))
def kN:WS:=(aW (rF (aT oMod (aT MY (aT cO (aT gX (aT fI (aB 0) (wC (.int 1))) (wC (.int 48271))) (wC (.int 7919))) (wC (.int 3))) (wC (.int 2147483629))) (aB 0) (wC (.int 1))) (iR))
def iH:WS:=(c5 (aT oMod (aB 3) (aB 1)))
def m6:WS:=(aW (EK (dR (aT oLt (aB 4) (aB 1))) (kN)) (iH))
def m7:WS:=(aW (bZ (wC (.int 1)) (gN 4)) (m6))
def m8:WS:=(aW (bZ (wC (.int 0)) (gN 3)) (m7))
def g7:WS:=(aW (fK (dR (aT P9 (aT fI (aB 0) (wC (.int 0))) (wC (.int 0)))) (aW (bZ (aT oMod (aT fI (aB 0) (wC (.int 0))) (aB 1)) (gN 2)) (aW (rF (aT xS (aT fI (aB 0) (wC (.int 0))) (aB 1)) (aB 0) (wC (.int 0))) (c5 (aB 2)))) dE) (m8))
theorem CY(B:Bl mg):sM P w K mg base k "_law_take" ["_law_bag_here","_law_many","_law_digit","_law_number_here","_law_room"] eB (g7):=by
 intro f cdv A outer s H E hr;have nd:=o8.nd;show kI _ (_::_) _
 repeat' walk_at "g"
theorem lM:aV ["_law_bag_here","_law_sort","_law_some"] ["_law_bag_here","_law_sort","_law_some"] (aC c7):=⟨rfl,rfl,rfl,by decide+kernel,rfl,by decide+kernel,by decide+kernel⟩
theorem wG(B:Bl mg)(cK:Fn P w K mg base k "_law_take" ["_law_bag_here","_law_many"] s0):sM P w K mg base k "_law_number" ["_law_bag_here","_law_sort","_law_some"] c7 (LR.eW s0):=by
 intro f cdv A outer s H E hr;have nd:=lM.nd;show kI _ (_::_) _
 repeat' walk_at "g"
theorem o9:aV ["_law_bag_here","_law_sort","_law_some","_law_one","_law_other"] ["_law_bag_here","_law_sort","_law_some"] (aC eC):=⟨rfl,rfl,rfl,by decide+kernel,rfl,by decide+kernel,by decide+kernel⟩
theorem CZ(B:Bl mg)(nS:Fn P w K mg base k "_law_number" ["_law_bag_here","_law_sort","_law_some"] s0):sM P w K mg base k "_law_side" ["_law_bag_here","_law_sort","_law_some","_law_one","_law_other"] eC (LR.g8 s0):=by
 intro f cdv A outer s H E hr;have nd:=o9.nd;show kI _ (_::_) _
 repeat' walk_at "g"
theorem nH:aV ["_law_bag_here","_law_most","_law_sort","_law_many","_law_some","_law_found","_law_k","_law_left","_law_right","_law_low","_law_high"] ["_law_bag_here","_law_most"] (aC dF):=⟨rfl,rfl,rfl,by decide+kernel,rfl,by decide+kernel,by decide+kernel⟩
theorem zU(B:Bl mg)(cK:Fn P w K mg base k "_law_take" ["_law_bag_here","_law_many"] s0){s1:OA}(rV:Fn P w K mg base k "_law_side" ["_law_bag_here","_law_sort","_law_some"] s1):sM P w K mg base k "_law_rects" ["_law_bag_here","_law_most","_law_sort","_law_many","_law_some","_law_found","_law_k","_law_left","_law_right","_law_low","_law_high"] dF (LR.fR s0 s1):=by
 intro f cdv A outer s H E hr;have nd:=nH.nd;show kI _ (_::_) _
 repeat' walk_at "g"
theorem pC:aV ["_law_shreds","_law_found","_law_start","_law_end"] ["_law_shreds"] (aC eF):=⟨rfl,rfl,rfl,by decide+kernel,rfl,by decide+kernel,by decide+kernel⟩
theorem C5(B:Bl mg):sM P w K mg base k "_law_line" ["_law_shreds","_law_found","_law_start","_law_end"] eF (LR.hJ):=by
 intro f cdv A outer s H E hr;have nd:=pC.nd;show kI _ (_::_) _
 repeat' walk_at "g"
theorem lL:aV ["_law_rects_here","_law_ys","_law_found","_law_low","_law_high","_law_line_here"] ["_law_rects_here"] (aC c6):=⟨rfl,rfl,rfl,by decide+kernel,rfl,by decide+kernel,by decide+kernel⟩
theorem wF(B:Bl mg)(rX:Fn P w K mg base k "_law_line" ["_law_shreds"] s0):sM P w K mg base k "_law_region" ["_law_rects_here","_law_ys","_law_found","_law_low","_law_high","_law_line_here"] c6 (LT.eV s0):=by
 intro f cdv A outer s H E hr;have nd:=lL.nd;show kI _ (_::_) _
 repeat' walk_at "g"
theorem pA:aV ["_law_found","_law_due"] ["_law_found","_law_due"] (aC eD):=⟨rfl,rfl,rfl,by decide+kernel,rfl,by decide+kernel,by decide+kernel⟩
theorem C0(B:Bl mg)(iF:Fn P w K mg base k "_law_same" ["_law_found","_law_due"] s0):sM P w K mg base k "_law_same" ["_law_found","_law_due"] eD (LS.cY s0):=by
 intro f cdv A outer s H E hr;have nd:=pA.nd;show kI _ (_::_) _
 repeat' walk_at "g"
theorem nJ:aV ["_law_some","_law_found","_law_low","_law_high","_law_line_here"] ["_law_some"] (aC dG):=⟨rfl,rfl,rfl,by decide+kernel,rfl,by decide+kernel,by decide+kernel⟩
theorem zV(B:Bl mg):sM P w K mg base k "_law_lined" ["_law_some","_law_found","_law_low","_law_high","_law_line_here"] dG (LS.fS):=by
 intro f cdv A outer s H E hr;have nd:=nJ.nd;show kI _ (_::_) _
 repeat' walk_at "g"
theorem nL:aV ["_law_bag_here","_law_wide_here","_law_high","_law_places","_law_k","_law_x","_law_y","_law_into","_law_by","_law_spot"] ["_law_bag_here","_law_wide_here","_law_high"] (aC dI):=⟨rfl,rfl,rfl,by decide+kernel,rfl,by decide+kernel,by decide+kernel⟩
def hU(s0:OA):WS:=(fK (sE (aB 7)) (LK (wC (.bl true)) (aB 3) (aB 9)) (fK (dR (aT XI (aB 9) (aB 3))) (fB (EL (aB 3) (aB 9))) dE))
def fJ(s0:OA):WS:=(aW (bZ (eP (aA (aE r9 (aA (aT n6 (aB 1) (wC (.int 1))) (aA (aT cO (aB 5) (aT oMod (aB 8) (wC (.int 6)))) aD))) (aA (aE r9 (aA (aT n6 (aB 2) (wC (.int 1))) (aA (aT cO (aB 6) (aT xS (aB 8) (wC (.int 6)))) aD))) aD))) (gN 9)) (hU s0))
def hV(s0:OA):WS:=(gB (iS (aA (aT gX (aT cO (wC (.int 1)) (aE s0 (aA (aB 0) (aA (wC (.int 6)) aD)))) (aT cO (wC (.int 1)) (aE s0 (aA (aB 0) (aA (wC (.int 6)) aD))))) aD)) (gN 8) (fJ s0))
def hX(s0:OA):WS:=(aW (bZ (aT P9 (aE s0 (aA (aB 0) (aA (wC (.int 4)) aD))) (wC (.int 0))) (gN 7)) (hV s0))
def hZ(s0:OA):WS:=(aW (bZ (aE s0 (aA (aB 0) (aA (aB 2) aD))) (gN 6)) (hX s0))
def j5(s0:OA):WS:=(aW (bZ (aE s0 (aA (aB 0) (aA (aB 1) aD))) (gN 5)) (hZ s0))
def lA(s0:OA):WS:=(c5 (aB 3))
def lB(s0:OA):WS:=(aW (gB (iS (aA (aE s0 (aA (aB 0) (aA (wC (.int 9)) aD))) aD)) (gN 4) (j5 s0)) (lA s0))
def fU(s0:OA):WS:=(aW (bZ (yY true) (gN 3)) (lB s0))
theorem zX(B:Bl mg)(cK:Fn P w K mg base k "_law_take" ["_law_bag_here","_law_many"] s0)(nt:NoT K):sM P w K mg base k "_law_board" ["_law_bag_here","_law_wide_here","_law_high","_law_places","_law_k","_law_x","_law_y","_law_into","_law_by","_law_spot"] dI (fU s0):=by
 intro f cdv A outer s H E hr;have nd:=nL.nd;show kI _ (_::_) _
 repeat' walk_at "g"
theorem nK:aV ["_law_places","_law_by","_law_dx","_law_dy","_law_rects_here","_law_x","_law_y"] ["_law_places","_law_by","_law_dx","_law_dy"] (aC dH):=⟨rfl,rfl,rfl,by decide+kernel,rfl,by decide+kernel,by decide+kernel⟩
theorem zW(B:Bl mg)(cT:Fn P w K mg base k "_law_region" ["_law_rects_here"] s0):sM P w K mg base k "_law_drawn" ["_law_places","_law_by","_law_dx","_law_dy","_law_rects_here","_law_x","_law_y"] dH (LP.fT s0):=by
 intro f cdv A outer s H E hr;have nd:=nK.nd;show kI _ (_::_) _
 repeat' walk_at "g"
theorem o7:aV ["_law_some","_law_k"] ["_law_some","_law_k"] (aC eA):=⟨rfl,rfl,rfl,by decide+kernel,rfl,by decide+kernel,by decide+kernel⟩
def gZ(s0 s1:OA):WS:=(c5 (aE s0 (aA (GY ["_law_r"] [1] (cZ (aE s1 (aA (aB 0) aD))) (gN 0) lC (eP (aA (aT n6 (aT fI (aB 0) (wC (.int 0))) (aB 1)) (aA (aT n6 (aT fI (aB 0) (wC (.int 1))) (aB 1)) (aA (aT cO (aT fI (aB 0) (wC (.int 2))) (aB 1)) (aA (aT cO (aT fI (aB 0) (wC (.int 3))) (aB 1)) aD)))))) aD)))
theorem CW(B:Bl mg)(cT:Fn P w K mg base k "_law_region" ["_law_rects_here"] s0){s1:OA}(pV:Fn P w K mg base k "_law_lined" ["_law_some"] s1):sM P w K mg base k "_law_wide" ["_law_some","_law_k"] eA (gZ s0 s1):=by
 intro f cdv A outer s H E hr;have nd:=o7.nd;show kI _ (_::_) _
 repeat' walk_at "g"
theorem pB:aV ["_law_places","_law_k","_law_found","_law_x","_law_y","_law_by"] ["_law_places","_law_k"] (aC eE):=⟨rfl,rfl,rfl,by decide+kernel,rfl,by decide+kernel,by decide+kernel⟩
def kU:WS:=(LL (wC (.bl true)) (aB 2) (aA (aT cO (aT n6 (aB 3) (aB 1)) (aT oMod (aB 5) (aT cO (aT gX (wC (.int 2)) (aB 1)) (wC (.int 1))))) (aA (aT cO (aT n6 (aB 4) (aB 1)) (aT xS (aB 5) (aT cO (aT gX (wC (.int 2)) (aB 1)) (wC (.int 1))))) aD)))
def gA:WS:=(gB (iS (aA (aT gX (aT cO (aT gX (wC (.int 2)) (aB 1)) (wC (.int 1))) (aT cO (aT gX (wC (.int 2)) (aB 1)) (wC (.int 1)))) aD)) (gN 5) (kU))
def nC:WS:=(c5 (aB 2))
def nD:WS:=(aW (gB (BK (aB 0)) (gT 2 (aQ (gN 3) (aQ (gN 4) dZ))) (gA)) (nC))
def hG:WS:=(aW (bZ (yY true) (gN 2)) (nD))
theorem C4(B:Bl mg):sM P w K mg base k "_law_near" ["_law_places","_law_k","_law_found","_law_x","_law_y","_law_by"] eE (hG):=by
 intro f cdv A outer s H E hr;have nd:=pB.nd;show kI _ (_::_) _
 repeat' walk_at "g"
theorem L3:aV ["_law_script","_law_at","_law_bag_here","_law_k","_law_handful","_law_places","_law_some","_law_again","_law_due"] ["_law_script"] (aC t8):=⟨rfl,rfl,rfl,by decide+kernel,rfl,by decide+kernel,by decide+kernel⟩
def BH(s0 s1 s2 d e a b c f g:OA):WS:=(fK (tQ (sE (aE a (aA (aE c (aA (aB 6) (aA (aB 3) aD))) (aA (aE b (aA (aB 6) (aA (aB 3) aD))) aD))))) (c5 (wC (.bl false))) dE)
def tH(s0 s1 s2 d e a f b c g:OA):WS:=(fK (tQ (sE (aE a (aA (aE b (aA (aE c (aA (aB 5) (aA (wC (.int 1)) (aA (wC (.int 0)) (aA (wC (.int 0)) aD))))) (aA (aB 4) aD))) (aA (aB 8) aD))))) (c5 (wC (.bl false))) dE)
def tI(s0 s1 s2 c d e f g a b:OA):WS:=(aW (bZ (aE a (aA (aE b (aA (aB 5) (aA (aB 4) aD))) (aA (wC (.int 1)) (aA (wC (.int 0)) (aA (wC (.int 0)) aD))))) (gN 8)) (tH s0 s1 s2 c d e f g a b))
def nY(s0 s1 s2 a b c d e f g:OA):WS:=(aW (gB (iS (aA (wC (.int 2)) aD)) (gN 7) (BH s0 s1 s2 a b c d e f g)) (tI s0 s1 s2 a b c d e f g))
def tJ(s0 s1 s2 a b c d e f g:OA):WS:=(aW (bZ (aE a (aA (aE b (aA (aB 2) (aA (wC (.int 40)) aD))) aD)) (gN 6)) (nY s0 s1 s2 a b c d e f g))
def tK(s0 s1 s2 a b c d e f g:OA):WS:=(aW (bZ (aE s2 (aA (aB 2) (aA (wC (.int 12)) (aA (wC (.int 12)) aD)))) (gN 5)) (tJ s0 s1 s2 a b c d e f g))
def tM(s0 s1 s2 a b c d e f g:OA):WS:=(aW (bZ (aE s1 (aA (aB 2) (aA (wC (.int 4)) aD))) (gN 4)) (tK s0 s1 s2 a b c d e f g))
def tN(s0 s1 s2 a b c d e f g:OA):WS:=(aW (bZ (aT fI (kB (aA (wC (.int 0)) (aA (aT cO (wC (.int 1)) (aE s1 (aA (aB 2) (aA (wC (.int 4)) aD)))) (aA (aE s1 (aA (aB 2) (aA (wC (.int 101)) aD))) (aA (aE s1 (aA (aB 2) (aA (wC (.int 1001)) aD))) aD))))) (aE s1 (aA (aB 2) (aA (wC (.int 4)) aD)))) (gN 3)) (tM s0 s1 s2 a b c d e f g))
def BI(s0 s1 s2 a b c d e f g:OA):WS:=(aW (bZ (aE s0 (aA (aB 0) (aA (aB 1) aD))) (gN 2)) (tN s0 s1 s2 a b c d e f g))
def GU(s0 s1 s2 a b c d e f g:OA):WS:=(c5 (wC (.bl true)))
def GV(s0 s1 s2 a b c d e f g:OA):WS:=(aW (gB (iS (aA (aE EC (aA (wC (.int 1)) (aA (aE r9 (aA (wC (.int 4)) (aA (aE fX (aA (aB 0) aD)) aD))) aD))) aD)) (gN 1) (BI s0 s1 s2 a b c d e f g)) (GU s0 s1 s2 a b c d e f g))
theorem aCr(B:Bl mg)(vJ:Fn P w K mg base k "_law_bag" ["_law_script","_law_at"] s0){s1:OA}(cK:Fn P w K mg base k "_law_take" ["_law_bag_here","_law_many"] s1){s2:OA}(pX:Fn P w K mg base k "_law_board" ["_law_bag_here","_law_wide_here","_law_high"] s2){s3:OA}(cT:Fn P w K mg base k "_law_region" ["_law_rects_here"] s3){s4:OA}(pU:Fn P w K mg base k "_law_rects" ["_law_bag_here","_law_most"] s4){s5:OA}(iF:Fn P w K mg base k "_law_same" ["_law_found","_law_due"] s5){s6:OA}(rT:Fn P w K mg base k "_law_wide" ["_law_some","_law_k"] s6){s7:OA}(IA:Fn P w K mg base k "grown" ["region","k"] s7){s8:OA}(pW:Fn P w K mg base k "_law_drawn" ["_law_places","_law_by","_law_dx","_law_dy"] s8){s9:OA}(rW:Fn P w K mg base k "_law_near" ["_law_places","_law_k"] s9):sM P w K mg base k "law" ["_law_script","_law_at","_law_bag_here","_law_k","_law_handful","_law_places","_law_some","_law_again","_law_due"] t8 (GV s0 s1 s2 s3 s4 s5 s6 s7 s8 s9):=by
 intro f cdv A outer s H E hr;have nd:=L3.nd;show kI _ (_::_) _
 repeat' walk_at "g"
end
theorem aCt:FO 2 0=some 0:=by decide
theorem aCs:FO 2 1=some 1:=by decide
theorem mC(d e:D)(ds:List D):mY (d::e::ds) 1=some e:=by
 have:=iG (xs:=d::e::ds) (j:=1) (v:=e) rfl;simpa using this
theorem j8{i j:Int}(a: -18446744073709551616<j)(b:j<18446744073709551616):GO i j:= .inr ⟨a,b⟩
theorem U9{i j:Int}(a: -18446744073709551616<i)(b:i<18446744073709551616):GO i j:= .inl ⟨a,b⟩
theorem ZQ{i:Int}{j:Int}(h0:0<=j)(a:j<=1000000)(b: -18446744073709551616<i)(c:i<18446744073709551616):aA5 i j:=⟨h0,a,by lia⟩
abbrev En(mh:MH)(R:DK):d6:={nx:=λ_ a=>Out mh.length .b9 a R,rt:=λd a=>Out mh.length d a R}
theorem Y3(ds:List D)(mh:MH)(R:DK)(ok:i7 mh)(o:iA ds mh R):g7 (En mh R) (aG ["_law_bag_here","_law_many","_law_digit","_law_number_here","_law_room"] ds) mh:=by
 obtain⟨b,a,rfl,z,A,⟨c,m,hb,n,g,h⟩,q⟩:=o;have f:b<mh.length:=(aGt.mp hb).1
 have fin:∀(r k j :Int),0<=r->r<a->0<=k ->0<=j ->j<2147483629->Out mh.length (.int r) (mh.set b (.lst [.int k,.int j])) R:=λr k j p s t u v=>
  cA (q r _ p s ⟨⟨k,j,by simp[f],t,u,v⟩,_,rfl⟩)
 simp[g7,m8,m7,m6,aG,eM hb,uI hb,aCt];by_cases h0:0<c
 ·rw[if_pos h0];exact⟨by lia,⟨by lia,by lia⟩,fin _ _ _ (aJs _ (by lia)) (aJ6 _ (by lia)) (Int.ediv_nonneg (by lia) (by lia)) g h⟩
 ·rw[if_neg h0];refine EJ 2 ?_;by_cases d:1<a
  ·have w:0<=(m*48271+7919)^3 % 2147483629:=aJs _ (by lia);have x:(m*48271+7919)^3 % 2147483629<2147483629:=aJ6 _ (by lia);simp[nX,kN,iR,iQ,iH,d,eM hb,uI hb,aCs,mC];refine⟨j8 (by lia) (by lia),ZQ (by lia) (by lia) (by lia) (by lia),?_⟩;have l:(mh.set b (.lst [.int c,.int ((m*48271+7919)^3 % 2147483629)]))[b]? =some (.lst [.int c,.int ((m*48271+7919)^3 % 2147483629)]):=by simp[f]
   simp only[eM l,mC,cB,L5,L8];refine⟨j8 (by lia) (by lia),⟨by lia,by lia⟩,j8 (by lia) (by lia),by lia,j8 (by lia) (by lia),?_⟩;simp;rw[if_neg (by lia)];exact⟨by lia,fin _ _ _ (aJs _ (by lia)) (aJ6 _ (by lia)) n w x⟩
  ·simp[nX,d,iH];have e:a=1:=by lia
   subst e;refine⟨by lia,?_⟩
   have y:mh.set b (.lst [.int c,.int m])=mh:=by
    apply aK2;intro i;by_cases hi:i=b
    ·subst hi;rw[List.getElem?_set_self f,hb]
    ·rw[List.getElem?_set_ne (Ne.symm hi)]
   have:=fin 0 c m (by lia) (by lia) n g h;rw[y]at this;exact this
variable{ns:List Int}
theorem EB{i:Int}(h0:0<=i)(a:i<ns.length):∃v,mY (ns.map D.int) i=some (.int v):=by
 refine⟨ns[i.toNat]'(by lia),?_⟩;have e:i=((i.toNat:Nat):Int):=by lia
 have:=iG (xs:=ns.map D.int) (j:=i.toNat) (v:= .int (ns[i.toNat]'(by lia))) (by rw[List.getElem?_map,List.getElem?_eq_getElem (by lia)];rfl);rw[<-e]at this;exact this
theorem ZD{mh:MH}{R:DK}{a c m:Int}{k:Option D}(q:∀mh',(∃o,mh' =mh++[o])->wV mh' mh.length->R (.ref mh.length) mh')(b:0<=c)(d:0<=m)(e:m<2147483629):
  i9 (En mh R) [some (.fl (ns.map .int)),some (.int a),some (.int c),some (.int m),k] mh:=by
 have fin:∀c,0<=c->Out mh.length (.ref mh.length) (mh++[.lst [.int c,.int m]]) R:=λc f=>cA (q _ ⟨_,rfl⟩ ⟨c,m,by simp,f,d,e⟩);simp[i9,oR];refine⟨ZQ (by lia) (by lia) (by lia) (by lia),?_⟩;split
 ·exact⟨by rw[sizeLine_eq];lia,fin 0 (by lia)⟩
 ·exact⟨by rw[sizeLine_eq];lia,fin c b⟩
theorem OT{mh:MH}{R:DK}{a c:Int}(s:ns.length<=63)(b:0<=a)(f:a<=100)(q:∀mh',(∃o,mh' =mh++[o])->wV mh' mh.length->R (.ref mh.length) mh')(j:0<=c):
  jA (En mh R) [some (.fl (ns.map .int)),some (.int a),some (.int c),none,none] mh:=by
 have l:7919*a*a<=79190000:=by
  have:a*a<=100*100:=aKq f f b (by lia);have e:7919*a*a=7919*(a*a):=Int.mul_assoc _ _ _
  lia
 have n:0<=7919*a*a:=aKr (by lia) b;simp[jA,oS];refine⟨U9 (by lia) (by lia),j8 (by lia) (by lia),U9 (by lia) (by lia),?_,?_,?_⟩
 ·split <;> lia
 ·split <;> (rw[sizeLine_eq];lia)
 ·refine bJ (λi g mh' =>mh' =mh/\∃m k,g=[some (.fl (ns.map .int)),some (.int a),some (.int c),some (.int m),k]/\0<=m/\m<2147483629) _ (λ_ _ _ _=>trivial) ?_ ?_ ⟨rfl,_,_,rfl,by lia,by lia⟩
  ·rintro i d g mh' N hi ⟨rfl,m,k,rfl,m0,m1⟩ nx;obtain⟨hi,rfl⟩:=pH hi
   have p:i<ns.length:=by
    revert hi;split <;> intro hi <;> lia
   have h:i<60:=by
    revert hi;split <;> intro hi <;> lia
   obtain⟨v,r⟩:=EB (ns:=ns) (i:=0+(i:Int)) (by lia) (by lia);have t:0<=v % 2147483647:=aJs _ (by lia);have u:v % 2147483647<2147483647:=aJ6 _ (by lia);have w:0<=(0+(i:Int))*(0+(i:Int)):=aKr (by lia) (by lia);have x:(0+(i:Int))*(0+(i:Int))<=60*60:=aKq (by lia) (by lia) (by lia) (by lia);simp only[aFe,nG,aBi,aF4,s_c,aBd,List.set_cons_succ,List.set_cons_zero,List.getElem?_cons_succ,List.getElem?_cons_zero,Option.join_some,cB,L5,L8,aBf,r];refine⟨j8 (by lia) (by lia),by lia,j8 (by lia) (by lia),ZQ (by lia) (by lia) (by lia) (by lia),by lia,nx _ _ ⟨rfl,_,_,rfl,aJs _ (by lia),aJ6 _ (by lia)⟩⟩
  ·rintro g mh' ⟨rfl,m,k,rfl,m0,m1⟩;exact ZD q j m0 m1
theorem aD0(ds:List D)(mh:MH)(R:DK)(ok:i7 mh)(e:JB ds mh R):jB (En mh R) (aG ["_law_script","_law_at","_law_cell","_law_mix","_law_k"] ds) mh:=by
 obtain⟨ns,a,rfl,d,b,c,q⟩:=e;simp[jB,oU,aG];split
 ·rename_i hlt;obtain⟨v,f⟩:=EB (ns:=ns) (i:=a) b hlt;simp[f];exact OT d b c q (by split <;> lia)
 ·exact OT d b c q (by lia)
open LR (P2 R4 Bd sD rD bD iC gD aY cV Good wX)
open LS LP
def uM:OA:=λds mh Q=>∃b,ds=[.ref b,.int 12,.int 12]/\wV mh b/\∀kvs P mh',dD mh b mh' ->mh'[mh.length]? =some (.dic true kvs)->Pl 0 12 kvs P->Q (.ref mh.length) mh'
variable{kvs:List (D×D)}{P:List P2}
theorem OR{E:d6}{mh M:MH}{b:Nat}{l f:Option D}{a:Bool}{x y k:Int}(p:0<=x/\x<12)(q:0<=y/\y<12)(r:0<=k)(x1:dD mh b M)(e:M[mh.length]? =some (.dic true kvs))(st:Pl 0 12 kvs P)
  (nx:∀f g c h,dD mh b g ->g[mh.length]? =some (.dic true c)->Pl 0 12 c h ->E.nx [some (.ref b),some (.int 12),some (.int 12),some (.ref mh.length),l,some (.int x),some (.int y),some (.bl a),some (.int k),f] g):
  fJ iA E [some (.ref b),some (.int 12),some (.int 12),some (.ref mh.length),l,some (.int x),some (.int y),some (.bl a),some (.int k),f] M:=by
 have sz:=aHh;have s:=st.len 12 (by lia);simp[fJ];refine⟨⟨by lia,by lia⟩,by lia,?_⟩;generalize m:(if x+k % 6<11 then x+k % 6 else 11)=px;generalize n:(if y+k / 6<11 then y+k / 6 else 11)=py;have t:0<=k / 6:=by lia
 have i:Bx 0 12 (px,py):=by
  unfold Bx;simp only;split at m <;> split at n <;> lia
 simp[hU,iU];split
 ·obtain⟨h,j,_⟩:=st.put (px,py) (.bl true) i;refine⟨_,rfl,⟨_,rfl,mh.length,kvs,[.inl px,.inl py],rfl,e,rfl,by simp,by lia,?_⟩⟩;exact nx _ _ _ h (x1.set (aGy _) _) (bE _ e) j
 ·refine⟨mh.length,true,kvs,rfl,.inl e,⟨[.inl px,.inl py],rfl⟩,?_⟩;simp
  cases o:bF kvs (.tup [.int px,.int py]) with
  | none=>simp;exact nx _ _ _ P x1 e st
  | some d=>
   simp;exact⟨_,rfl,mh.length,rfl,⟨kvs,e⟩,_,rfl,kvs,[.inl px,.inl py],d,e,rfl,o,nx _ _ _ _ (x1.set (aGy _) _) (bE _ e) (st.drop (px,py))⟩
theorem TJ(ds:List D)(mh:MH)(R:DK)(ok:i7 mh)(A:uM ds mh R):fU iA (En mh R) (aG ["_law_bag_here","_law_wide_here","_law_high","_law_places","_law_k","_law_x","_law_y","_law_into","_law_by","_law_spot"] ds) mh:=by
 obtain⟨b,rfl,hb,q⟩:=A;have sz:=aHh;have B:=hb.lt;simp[fU,lB,aG];refine gE ((dD.refl hb).push _) (by lia) (by lia) λr M W X x1 Y C=>?_;simp;refine⟨by lia,by lia,?_⟩;refine bJ (λi c f =>(∃j k l m g a,c=[some (.ref b),some (.int 12),some (.int 12),some (.ref mh.length),j,k,l,m,g,a])/\dD mh b f /\∃kvs P,f[mh.length]? =some (.dic true kvs)/\Pl 0 12 kvs P) _ (λ_ _ _ _=>trivial) ?_ ?_ ⟨⟨_,_,_,_,_,_,rfl⟩,x1,[],[],by rw[C _ (Nat.le_refl _)];simp,⟨rfl,by simp,by simp⟩⟩
 ·rintro i d c f N hi ⟨⟨j,k,l,m,g,a,rfl⟩,n,kvs,P,e,st⟩ nx;simp[j5];refine gE n (by lia) (by lia) λx Z x0 o E l3 F=>?_;simp[hZ];refine gE E (by lia) (by lia) λy M4 y0 p G l4 H=>?_;simp[hX];refine gE G (by lia) (by lia) λu M5 u0 u4 I l5 J=>?_;simp[hV];refine gE I (by lia) (by lia) λv M6 v0 v6 K l6 L=>?_;simp;refine gE K (by lia) (by lia) λw M7 w0 w6 O l7 Q=>?_;simp;refine⟨j8 (by lia) (by lia),?_⟩;have m0:0<=(1+v)*(1+w):=aKr (by lia) (by lia);have m1:(1+v)*(1+w)<=6*6:=aKq (by lia) (by lia) (by lia) (by lia);refine⟨by lia,by lia,?_⟩;refine bJ (λi c f =>(∃g a,c=[some (.ref b),some (.int 12),some (.int 12),some (.ref mh.length),some d,some (.int x),some (.int y),some (.bl (decide (0<u))),g,a])/\dD mh b f /\∃kvs P,f[mh.length]? =some (.dic true kvs)/\Pl 0 12 kvs P) _ (λ_ _ _ _=>trivial) ?_ ?_ ⟨⟨_,_,rfl⟩,O,kvs,P,?_,st⟩
  ·rintro i d2 c S N2 QC ⟨⟨g,a,rfl⟩,s,kvs,P,e,st⟩ t;obtain⟨_,rfl⟩:=pH QC;simp;exact OR ⟨x0,o⟩ ⟨y0,p⟩ (by lia) s e st λa M9 h T U V z=>t _ _ ⟨⟨_,_,rfl⟩,U,h,T,V,z⟩
  ·rintro c S ⟨⟨g,a,rfl⟩,s,kvs,P,e,st⟩;exact nx _ _ ⟨⟨_,_,_,_,_,_,rfl⟩,s,kvs,P,e,st⟩
  ·rw[Q _ (Nat.le_refl _),L _ (Nat.le_refl _),J _ (Nat.le_refl _),H _ (Nat.le_refl _),F _ (Nat.le_refl _)];exact e
 ·rintro c f ⟨⟨j,k,l,m,g,a,rfl⟩,n,kvs,P,e,st⟩;simp[lA];exact cA (q kvs P _ n e st)
open LR (P2 R4 Bd sD rD bD iC gD aY cV Good wX)
def Nr(k:Int)(p q:P2):Prop:=(p.1-k<=q.1/\q.1<=p.1+k)/\p.2-k<=q.2/\q.2<=p.2+k
def BX:OA:=λds mh Q=>∃n kvs P,∃k:Int,ds=[.ref n,.int k]/\0<=k/\k<=3/\DV mh n true kvs/\Pl 0 12 kvs P/\
 ∀j a b mh',DV mh' n true kvs->j≠n->mh'[j]? =some (.dic true a)->Pl (-3) 15 a b ->(∀q,q∈b ↔∃p∈P,Nr k p q)->Q (.ref j) mh'
theorem MX{m k:Int}(h0:0<=k)(c:k<=3)(a:m=2*k+1){p q:P2}:(∃j:Nat,(j:Int)<m*m/\q=(p.1-k+(j:Int) % m,p.2-k+(j:Int) / m))↔Nr k p q:=by
 have b:∀{m k:Int},(m=2*k+1)->(m=1\/m=3\/m=5\/m=7)->((∃j:Nat,(j:Int)<m*m/\q=(p.1-k+(j:Int) % m,p.2-k+(j:Int) / m))↔Nr k p q):=by
  intro m k e a;unfold Nr;constructor
  ·rintro⟨j,d,rfl⟩;simp only;rcases a with rfl | rfl | rfl | rfl <;> lia
  ·intro h;refine⟨((q.1-(p.1-k))+(q.2-(p.2-k))*m).toNat,?_,aKx ?_ ?_⟩ <;> (try simp only) <;> rcases a with rfl | rfl | rfl | rfl <;> lia
 exact b a (by lia)
theorem S9{E:d6}{r:MH}{n j:Nat}{p:P2}{k:Int}{f :List (D×D)}{s :List P2}{h:Option D}(h0:0<=k)(A:k<=3)(F:Bx 0 12 p)(e:r[j]? =some (.dic true f))(st:Pl (-3) 15 f s)
  (nx:∀h a b,Pl (-3) 15 a b ->(∀q,q∈b ↔q∈s \/Nr k p q)->E.nx [some (.ref n),some (.int k),some (.ref j),some (.int p.1),some (.int p.2),h] (r.set j (.dic true a))):
  gA E [some (.ref n),some (.int k),some (.ref j),some (.int p.1),some (.int p.2),h] r:=by
 have sz:=aHh;simp[gA];generalize t:2*k+1=m;have m0:0<=m*m:=aKr (by lia) (by lia);have m1:m*m<=7*7:=aKq (by lia) (by lia) (by lia) (by lia);refine⟨j8 (by lia) (by lia),j8 (by lia) (by lia),by lia,by lia,?_⟩;refine bJ (λi u v =>(∃h,u=[some (.ref n),some (.int k),some (.ref j),some (.int p.1),some (.int p.2),h])/\∃a b,v =r.set j (.dic true a)/\Pl (-3) 15 a b /\∀q,q∈b ↔q∈s \/∃j:Nat,j<i/\q=(p.1-k+(j:Int) % m,p.2-k+(j:Int) / m)) _ (λ_ _ _ _=>trivial) ?_ ?_ ⟨⟨_,rfl⟩,f,s,(lJ e).symm,st,λq=>by simp⟩
 ·rintro i d u v N hi ⟨⟨h,rfl⟩,a,b,rfl,g,l⟩ w;obtain⟨QC,rfl⟩:=pH hi;have H:=g.len 18 (by lia);have B:Nr k p (p.1-k+(i:Int) % m,p.2-k+(i:Int) / m):=(MX h0 A t.symm).mp ⟨i,by lia,rfl⟩;unfold Nr at B;unfold Bx at F;simp only at B;obtain⟨G,x,y⟩:=g.put (p.1-k+(i:Int) % m,p.2-k+(i:Int) / m) (.bl true) (by unfold Bx;simp only;lia);simp[kU,t];refine⟨j8 (by lia) (by lia),by lia,j8 (by lia) (by lia),⟨by lia,by lia⟩,j,a,[.inl _,.inl _],rfl,bE _ e,rfl,by simp;lia,by lia,?_⟩;rw[List.set_set];refine w _ _ ⟨⟨_,rfl⟩,_,G,rfl,x,λq=>?_⟩;rw[y q,l q];constructor
  ·rintro((z | ⟨o,C,z⟩) | z)
   ·exact .inl z
   ·exact .inr ⟨o,by lia,z⟩
   ·exact .inr ⟨i,by lia,z⟩
  ·rintro(z | ⟨o,C,z⟩)
   ·exact .inl (.inl z)
   ·by_cases c:o<i
    ·exact .inl (.inr ⟨o,c,z⟩)
    ·have:o =i:=by lia
     subst this;exact .inr z
 ·rintro u v ⟨⟨h,rfl⟩,a,b,rfl,g,l⟩;refine nx _ a b g λq=>?_;rw[l q,<-MX h0 A t.symm];simp only[Q2];constructor <;> (rintro(z | ⟨j,C,z⟩);exact .inl z;exact .inr ⟨j,by lia,z⟩)
theorem Y7(ds:List D)(mh:MH)(R:DK)(ok:i7 mh)(C:BX ds mh R):hG (En mh R) (aG ["_law_places","_law_k","_law_found","_law_x","_law_y","_law_by"] ds) mh:=by
 obtain⟨n,kvs,P,k,rfl,h0,E,hd,st,q⟩:=C;have G:n<mh.length:=by rcases hd with h | ⟨_,h⟩ <;> exact eS h
 simp[hG,nD,aG];refine IF rfl (t:=true) (kvs:=kvs) (by rcases hd with h | ⟨ob,h⟩;exact .inl (aM h);exact .inr ⟨ob,aM h⟩) λob M F kp ln=>?_;rw[st.key];refine bJ (λi s o =>(∃a b c,s=[some (.ref n),some (.int k),some (.ref mh.length),a,b,c])/\o[n]? =some (.fdc true kvs ob)/\∃f l,o[mh.length]? =some (.dic true f)/\Pl (-3) 15 f l /\∀q,q∈l ↔∃p∈P.take i,Nr k p q) _ (λ_ _ _ h=>h.2.1) ?_ ?_ ⟨⟨_,_,_,rfl⟩,F,[],[],kp _ _ (by lia) (by simp),⟨rfl,by simp,by simp⟩,by simp⟩
 ·rintro i d s o N hi ⟨⟨a,b,c,rfl⟩,u,f,l,e,j,g⟩ nx;obtain⟨p,B,rfl⟩:=dN hi;simp[pD];refine S9 h0 E (st.box p (aH1 B)) e j λH m v w x=>nx _ _ ⟨⟨_,_,_,rfl⟩,get_set u (by lia),m,v,bE _ e,w,λq=>?_⟩;rw[x q,g q,take_snoc B];simp only[List.mem_append,List.mem_singleton];constructor
  ·rintro(⟨y,A,r⟩ | z)
   ·exact⟨y,.inl A,r⟩
   ·exact⟨p,.inr rfl,z⟩
  ·rintro⟨y,A | rfl,r⟩
   ·exact .inl ⟨y,A,r⟩
   ·exact .inr r
 ·rintro s o ⟨⟨a,b,c,rfl⟩,u,f,l,e,j,g⟩;rw[List.take_of_length_le (by simp)]at g;simp[nC];exact cA (q _ f l _ (.inr ⟨ob,u⟩) (by lia) e j g)
def BV:OA:=λds mh Q=>∃(rs:List R4) (k:Int),ds=[gD (aY rs),.int k]/\rs.length<=40/\(∀r∈rs,Good r)/\Q (gD (aY ((aU (aY rs)).map (wX k)))) mh
theorem Y2(ds:List D)(mh:MH)(R:DK)(ok:i7 mh)(f:BV ds mh R):gZ LT.dJ zE (En mh R) (aG ["_law_some","_law_k"] ds) mh:=by
 obtain⟨rs,k,rfl,j,a,q⟩:=f;have sz:=aHh;have FZ:(aU (aY rs)).length<=40*(aY rs).length:=LS.uO λb hb=>by have:=LR.iB b hb;lia
 have l:=LR.mI rs;have m:=LR.tD rs;simp[gZ,aG];refine⟨_,rfl,by lia,?_⟩;have c:=fL mh (.lst ((aU (aY rs)).map rD));have e:cG mh (mh++[.lst ((aU (aY rs)).map rD)]):=cG.refl.push _;generalize mh++[.lst ((aU (aY rs)).map rD)]=M1 at c e⊢;show got (bG M1 (.ref mh.length)) _;rw[bI c];simp only[cB];refine i3 rD (wX k) rD (aU (aY rs)) (bI c) (λr _ N hN=>?_) ?_
 ·simp[jM,rD,mC,A3,T9];exact⟨by lia,by simpa[rD,wX] using hN⟩
 refine⟨_,_,(cV rs).map (· - k)++(cV rs).map (· +k),rfl,fL _ _,by simp;lia,λr g=>?_,by simp;lia,λlo hi _=>?_,(e.push _).out ok (by simp[gD,dB,LR.mJ]) q⟩
 ·obtain⟨r,d,rfl⟩:=aH5.mp g;obtain⟨_,_,_,h,i⟩:=LR.qL a d;exact⟨aHn _ (aH8 h),aHb _ (aH8 i)⟩
 ·have:=LR.n4 ((aU (aY rs)).map (wX k)) lo hi;simp at this
  lia
open LR (P2 R4 Bd sD rD bD iC gD aY cV Good wX)
theorem B9:∀l:List P2,dU (l.map sD)=true/\c8 (l.map sD)<=1
 | []=>by simp[dU,c8]
 | r::l=>by
  have:=B9 l;simp only[List.map_cons,dU,c8,this.1,Bool.and_true];simp only[sD,LS.plain,dU,deep,c8];refine⟨rfl,by lia⟩
theorem CA:∀l:List Bd,(∀b∈l,b.ln.length<=1000000)->dU (l.map bD)=true/\c8 (l.map bD)<=3
 | [],_=>by simp[dU,c8]
 | b::l,h=>by
  have:=CA l λc a=>h c (aGx _ a);have s:=B9 b.ln;have hb:=h b aGw;simp only[List.map_cons,dU,c8,this.1,Bool.and_true];simp only[bD,iC,LS.plain,dU,deep,c8,s.1,Bool.true_and,Bool.and_true];refine⟨by simpa using hb,by lia⟩
variable{rs:List R4}
theorem xN(a:rs.length<=100000):LS.plain (gD (aY rs))=true/\deep (gD (aY rs))<=4:=by
 have c:=LR.mI rs;have:=CA (aY rs) λb hb=>by have:=LR.iB b hb;lia
 simp only[gD,LS.plain,deep,this.1,Bool.true_and];exact⟨by simp;lia,by lia⟩
theorem QN{k x y:Int}(a:∀r∈rs,Good r)(c:0<=k):(∃r∈rs,(wX k r).has x y)↔∃p:P2,(∃r∈rs,r.has p.1 p.2)/\Nr k p (x,y):=by
 unfold Nr;constructor
 ·rintro⟨r,b,h⟩;have g:=a r b;simp only[R4.has,wX,LR.Good]at h g;refine⟨(if x<r.x0 then r.x0 else if x<r.x1 then x else r.x1-1,if y<r.y0 then r.y0 else if y<r.y1 then y else r.y1-1),⟨r,b,?_⟩,?_⟩
  ·simp only[R4.has];refine⟨?_,?_,?_,?_⟩ <;> split <;> (try split) <;> lia
  ·simp only;refine⟨⟨?_,?_⟩,?_,?_⟩ <;> split <;> (try split) <;> lia
 ·rintro⟨p,⟨r,b,h⟩,z⟩;refine⟨r,b,?_⟩;simp only[R4.has,wX]at h z⊢
  lia
theorem ET{x y:Int}:(∃r∈P.map (G5 1 0 0),r.has x y)↔(x,y)∈P:=by
 constructor
 ·rintro⟨r,a,h⟩;obtain⟨p,b,rfl⟩:=aH5.mp a;simp only[G5,R4.has]at h;have:(x,y)=p:=aKx (by simp only;lia) (by simp only;lia);rw[this];exact b
 ·intro h;exact⟨_,aH8 h,by simp only[G5,R4.has];lia⟩
theorem sR:∀r∈P.map (G5 1 0 0),Good r:=λr a=>by
 obtain⟨p,_,rfl⟩:=aH5.mp a;simp only[G5,LR.Good]
 lia
theorem LG{k:Int}(f:0<=k)(b:∀r∈rs,Good r):LR.oJ (aY ((aU (aY rs)).map (wX k)))/\∀x y,LR.b7 (aY ((aU (aY rs)).map (wX k))) x y↔∃r∈aU (aY rs),(wX k r).has x y:=by
 obtain⟨d,e⟩:=LR.lO (rs:=(aU (aY rs)).map (wX k)) λr c=>by
  obtain⟨r,a,rfl⟩:=aH5.mp c;have:=(LR.qL b a).1;simp only[LR.Good,wX]at this⊢
  lia
 refine⟨d,λx y=>(e x y).trans ⟨?_,?_⟩⟩
 ·rintro⟨r,c,h⟩;obtain⟨r,a,rfl⟩:=aH5.mp c;exact⟨r,a,h⟩
 ·rintro⟨r,c,h⟩;exact⟨_,aH8 c,h⟩
theorem NH{P a :List P2}{k:Int}(d:0<=k)(e:∀q,q∈a ↔∃p∈P,Nr k p q):LR.oJ (aY (a.map (G5 1 0 0)))/\∀x y,LR.b7 (aY (a.map (G5 1 0 0))) x y↔∃r∈aU (aY (P.map (G5 1 0 0))),(wX k r).has x y:=by
 obtain⟨f,g⟩:=LR.lO (rs:=a.map (G5 1 0 0)) sR;obtain⟨i,c⟩:=LR.lO (rs:=P.map (G5 1 0 0)) sR;refine⟨f,λx y=>?_⟩;rw[g,ET,QN (λr h=>(LR.qL sR h).1) d,e];constructor
 ·rintro⟨p,b,z⟩;exact⟨p,LR.uP.mp ((c _ _).mpr (ET.mpr b)),z⟩
 ·rintro⟨p,b,z⟩;exact⟨p,ET.mp ((c _ _).mp (LR.uP.mpr b)),z⟩
theorem ZA{E:d6}{q s c t:Option D}{k g:Int}{n:Nat}{M:MH}(z:0<=k)(f:0<=g)(u:g<=3)(v:rs.length<=40)(a:∀r∈rs,Good r)(e:M[n]? =some (.dic true kvs))(st:Pl 0 12 kvs P)
  (nx:∀q s c t l,E.nx [some (.fl (ns.map .int)),q,s,some (.int k),some (.int g),some (.ref n),some (gD (aY rs)),c,t] l):
  nY JB iA uM LT.dJ LR.qJ (pE 6) BV LR.qK uK BX E [some (.fl (ns.map .int)),q,s,some (.int k),some (.int g),some (.ref n),some (gD (aY rs)),c,t] M:=by
 have sz:=aHh;have FZ:(aU (aY rs)).length<=40*(aY rs).length:=LS.uO λb hb=>by have:=LR.iB b hb;lia
 have S:=LR.mI rs;obtain⟨C,T⟩:=xN (rs:=(aU (aY rs)).map (wX k)) (by simp;lia);obtain⟨F,G⟩:=LG z a;simp[nY];refine⟨by lia,?_⟩;refine bJ (λi w l =>(∃c,w=[some (.fl (ns.map .int)),q,s,some (.int k),some (.int g),some (.ref n),some (gD (aY rs)),c,t])/\l =M) _ (λ_ _ _ _=>trivial) ?_ ?_ ⟨⟨_,rfl⟩,rfl⟩
 ·rintro i d w l N hi ⟨⟨c,rfl⟩,rfl⟩ x;simp[BH];refine LR.DE z (by lia) a F G ?_;refine⟨rs,k,rfl,v,a,?_⟩;refine zD C (by lia) ?_;simp[iU];exact x _ _ ⟨⟨_,rfl⟩,rfl⟩
 ·rintro w l ⟨⟨c,rfl⟩,rfl⟩;simp[tI];refine⟨n,kvs,P,g,rfl,f,u,.inl e,st,λj m A M1 y B H o I=>?_⟩;have U:=st.X8 12 (by lia);have J:=o.X8 18 (by lia);refine⟨j,m,A,1,0,0,rfl,.inl H,o.key,by lia,by lia,by lia,λM2 V p=>?_⟩;simp[tH];have K:DV M2 n true kvs:=by rcases y with h | ⟨ob,h⟩;exact .inl (p _ _ (aHv B) h);exact .inr ⟨ob,p _ _ (aHv B) h⟩
  refine⟨n,kvs,P,1,0,0,rfl,K,st.key,by lia,by lia,by lia,λW _ _=>?_⟩;obtain⟨L,O⟩:=NH f I;refine LR.DE f (by simp;lia) sR L O ?_;obtain⟨Q,R⟩:=xN (rs:=A.map (G5 1 0 0)) (by simp;lia);refine zD Q (by lia) ?_;simp[iU];exact nx _ _ _ _ _
theorem aCz(ds:List D)(mh:MH)(R:DK)(ok:i7 mh)(G:wA ds mh R):GV JB iA uM LT.dJ LR.qJ (pE 6) BV LR.qK uK BX (En mh R) (aG ["_law_script","_law_at","_law_bag_here","_law_k","_law_handful","_law_places","_law_some","_law_again","_law_due"] ds) mh:=by
 obtain⟨ns,rfl,H,q⟩:=G;have sz:=aHh;simp[GV,aG];refine⟨by split <;> (try split) <;> lia,by split <;> (try split) <;> lia,?_⟩;refine bJ (λi m _=>∃a b c d e f g h,m=[some (.fl (ns.map .int)),a,b,c,d,e,f,g,h]) _ (λ_ _ _ _=>trivial) ?_ ?_ ⟨_,_,_,_,_,_,_,_,rfl⟩
 ·rintro i d m n N hi ⟨a,b,c,d',e,f,g,h,rfl⟩ nx;obtain⟨j,rfl⟩:=pH hi
  have I:i<8:=by
   revert j;split <;> (try split) <;> intro j <;> lia
  simp[BI];refine T7 H (by lia) (by lia) λJ ho K=>?_;obtain⟨o,rfl⟩:=ho;simp[tN];refine gE (dD.refl K) (by lia) (by lia) λw M1 L M x1 _ _=>?_;simp;refine gE x1 (by lia) (by lia) λA M2 O Q S _ _=>?_;refine gE S (by lia) (by lia) λB T U V C l3 _=>?_;refine⟨by lia,?_⟩;refine gE (C.push _) (by lia) (by lia) λr M4 W X Y _ Z=>?_;have g4:=(Z T.length C.le).trans (fL _ _);rw[eM g4]
  obtain⟨k,p,E⟩:∃k,mY [D.int 0,D.int (1+w),D.int A,D.int B] r=some (.int k)/\0<=k/\k<=1000:=by
   obtain⟨k,p,E⟩:=LR.ix4 (x:=0) (y:=1+w) (z:=A) (u:=B) W X;exact⟨k,p,by lia⟩
  rw[p];simp[tM];refine gE Y (by lia) (by lia) λhf M5 s hf1 t _ _=>?_;simp[tK];refine⟨_,rfl,t.bag,λkvs P M6 x6 e6 st=>?_⟩;have hb:=t.blt;simp[tJ];refine LR.MB (by lia) (by lia) x6.bag λrs M7 F v t7=>?_;have l:∀r∈rs,Good r:=λr hr=>(v r hr).2.2.2.2;refine G9 (fL _ _) (by simp at F;lia) ?_;have e7:(M7++[MO.lst (rs.map rD)])[M5.length]? =some (.dic true kvs):=aM (by rw[t7.other (by have:=t.le;simp at this;lia)];exact e6);exact ZA E.1 s (by lia) (by simpa using F) l e7 st λ_ _ _ _ _=>nx _ _ ⟨_,_,_,_,_,_,_,_,rfl⟩
 ·rintro m n ⟨a,b,c,d,e,f,g,h,rfl⟩;simp[GU];exact cA (q _)
variable{P:List Value->Prop}
theorem aG1(us:List Value)(b:us.length=0)(h:P []):P us:=by
 cases us with
 | nil=>exact h
 | cons a us=>cases b
theorem aCg(us:List Value)(b:us.length=1)(h:∀c,P [c]):P us:=by
 cases us with
 | nil=>cases b
 | cons a us=>exact aG1 (P:=λus=>P (a::us)) us (aKz b) (h a)
theorem aCf(us:List Value)(b:us.length=2)(h:∀c d,P [c,d]):P us:=by
 cases us with
 | nil=>cases b
 | cons a us=>exact aCg (P:=λus=>P (a::us)) us (aKz b) (h a)
theorem aCe(us:List Value)(b:us.length=3)(h:∀c d e,P [c,d,e]):P us:=by
 cases us with
 | nil=>cases b
 | cons a us=>exact aCf (P:=λus=>P (a::us)) us (aKz b) (h a)
theorem aG0(us:List Value)(b:us.length=4)(h:∀c d e f,P [c,d,e,f]):P us:=by
 cases us with
 | nil=>cases b
 | cons a us=>exact aCe (P:=λus=>P (a::us)) us (aKz b) (h a)
variable{x:Str}{st:Stmt}{ps:List Str}
theorem KO(h:∀kV doc pm an cdv ct g,bindArgs (PySem.W.fnOf x x (cQ st) (bX st) (aC st) .none kV doc pm an cdv ct) ⟨[g],[]⟩=pure (ps.zip [g]))(i:ps.length=1:=by rfl):cE x st ps:=λa b c d e f us j=>aCg (P:=λus=>bindArgs _ ⟨us,[]⟩=pure (List.zip _ us)) us (j.trans i) (h a b c d e f)
theorem D8(h:∀kV doc pm an cdv ct g i,bindArgs (PySem.W.fnOf x x (cQ st) (bX st) (aC st) .none kV doc pm an cdv ct) ⟨[g,i],[]⟩=pure (ps.zip [g,i]))(j:ps.length=2:=by rfl):cE x st ps:=λa b c d e f us k=>aCf (P:=λus=>bindArgs _ ⟨us,[]⟩=pure (List.zip _ us)) us (k.trans j) (h a b c d e f)
theorem PU(h:∀kV doc pm an cdv ct g i j,bindArgs (PySem.W.fnOf x x (cQ st) (bX st) (aC st) .none kV doc pm an cdv ct) ⟨[g,i,j],[]⟩=pure (ps.zip [g,i,j]))(k:ps.length=3:=by rfl):cE x st ps:=λa b c d e f us l=>aCe (P:=λus=>bindArgs _ ⟨us,[]⟩=pure (List.zip _ us)) us (l.trans k) (h a b c d e f)
theorem aGi(h:∀kV doc pm an cdv ct g i j k,bindArgs (PySem.W.fnOf x x (cQ st) (bX st) (aC st) .none kV doc pm an cdv ct) ⟨[g,i,j,k],[]⟩=pure (ps.zip [g,i,j,k]))(l:ps.length=4:=by rfl):cE x st ps:=λa b c d e f us m=>aG0 (P:=λus=>bindArgs _ ⟨us,[]⟩=pure (List.zip _ us)) us (m.trans l) (h a b c d e f)
theorem KR:cE "joined" iX ["bands"]:=KO λ_ _ _ _ _ _ _=>rfl
theorem KQ:cE "paired" iW ["edges"]:=KO λ_ _ _ _ _ _ _=>rfl
theorem AW:cE "add_steps" d9 ["steps","stretches","more"]:=PU λ_ _ _ _ _ _ _ _ _=>rfl
theorem GD:cE "covered" gG ["steps","least"]:=D8 λ_ _ _ _ _ _ _ _=>rfl
theorem GC:VB "stacked" gF ["bands","least"]:=λ_ _ _ _ _ _ us _ _ _ _ _ a ho b=>match us,a with | [_],_=>.of_defaults rfl ho b rfl rfl
theorem KP:cE "spread" iV ["region","low","high"]:=PU λ_ _ _ _ _ _ _ _ _=>rfl
theorem PV:cE "grown" lI ["region","k"]:=D8 λ_ _ _ _ _ _ _ _=>rfl
theorem D9:cE "_law_bag" fC ["_law_script","_law_at"]:=D8 λ_ _ _ _ _ _ _ _=>rfl
theorem AY:cE "_law_take" eB ["_law_bag_here","_law_many"]:=D8 λ_ _ _ _ _ _ _ _=>rfl
theorem vW:cE "_law_number" c7 ["_law_bag_here","_law_sort","_law_some"]:=PU λ_ _ _ _ _ _ _ _ _=>rfl
theorem AZ:cE "_law_side" eC ["_law_bag_here","_law_sort","_law_some"]:=PU λ_ _ _ _ _ _ _ _ _=>rfl
theorem wN:cE "_law_rects" dF ["_law_bag_here","_law_most"]:=D8 λ_ _ _ _ _ _ _ _=>rfl
theorem A1:cE "_law_line" eF ["_law_shreds"]:=KO λ_ _ _ _ _ _ _=>rfl
theorem vV:cE "_law_region" c6 ["_law_rects_here"]:=KO λ_ _ _ _ _ _ _=>rfl
theorem qA:cE "_law_same" eD ["_law_found","_law_due"]:=D8 λ_ _ _ _ _ _ _ _=>rfl
theorem wO:cE "_law_lined" dG ["_law_some"]:=KO λ_ _ _ _ _ _ _=>rfl
theorem wR:cE "_law_board" dI ["_law_bag_here","_law_wide_here","_law_high"]:=PU λ_ _ _ _ _ _ _ _ _=>rfl
theorem wQ:cE "_law_drawn" dH ["_law_places","_law_by","_law_dx","_law_dy"]:=aGi λ_ _ _ _ _ _ _ _ _ _=>rfl
theorem AX:cE "_law_wide" eA ["_law_some","_law_k"]:=D8 λ_ _ _ _ _ _ _ _=>rfl
theorem A0:cE "_law_near" eE ["_law_places","_law_k"]:=D8 λ_ _ _ _ _ _ _ _=>rfl
theorem Z7:cE "law" t8 ["_law_script"]:=KO λ_ _ _ _ _ _ _=>rfl
structure Al(w:World)(K:aL1)(mg:aL4):Prop where
 PH:eU K "joined" iX
 PF:eU K "paired" iW
 DW:eU K "add_steps" d9
 KD:eU K "covered" gG
 J8:aA4 K "stacked" gF 1
 PD:eU K "spread" iV
 TQ:eU K "grown" lI
 F7:eU K "_law_bag" fC
 DY:eU K "_law_take" eB
 wJ:eU K "_law_number" c7
 DZ:eU K "_law_side" eC
 AL:eU K "_law_rects" dF
 D1:eU K "_law_line" eF
 wI:eU K "_law_region" c6
 rY:eU K "_law_same" eD
 AM:eU K "_law_lined" dG
 AO:eU K "_law_board" dI
 AN:eU K "_law_drawn" dH
 DX:eU K "_law_wide" eA
 D0:eU K "_law_near" eE
 aD5:eU K "law" t8
 nt:NoT K
section
variable {P:Program}{w:World}{K:aL1}{mg:aL4}{base h:Heap}(KX:K.In h)(G:h.Ns mainGlobals mg)(B:Bl mg)(A:Al w K mg)
include KX G B A
theorem DJ :Fn P w K mg base 1 "joined" ["bands"] (LR.jE):=
 eJ (wB:=LR.oP) (k:=0) A.PH KX G KR xG (by with_reducible exact N3 B) (λds mh R h=>by obtain⟨_,_,rfl,_⟩:=h;rfl) LR.OQ
theorem DI :Fn P w K mg base 1 "paired" ["edges"] (LR.pF):=
 eJ (wB:=LR.oO) (k:=0) A.PF KX G KQ xF (by with_reducible exact N1 B) (λds mh R h=>by obtain⟨_,_,rfl,_⟩:=h;rfl) LR.OO
theorem rS :Fn P w K mg base 1 "add_steps" ["steps","stretches","more"] (LR.EY):=
 eJ (wB:=LR.gY) (k:=0) A.DW KX G AW oZ (by with_reducible exact CV B) (λds mh R h=>by obtain⟨_,_,_,_,_,_,rfl,_⟩:=h;rfl) LR.aD1
theorem yF :Fn P w K mg base 2 "covered" ["steps","least"] (LR.uL):=
 eJ (wB:=LR.mG (LR.pF)) (k:=1) A.KD KX G GD uH (by with_reducible exact JS B ((DI KX G B A).mono (by lia))) (λds mh R h=>by obtain⟨_,_,_,_,rfl,_⟩:=h;rfl) LR.Y9
theorem yE :FnD P w K mg base 3 "stacked" ["bands","least"] 1 (LR.L9):=
 ZK (wB:=LR.mF (LR.EY) (LR.uL) (LR.jE)) (k:=2) A.J8 KX G GC uG (by with_reducible exact JR B ((rS KX G B A).mono (by lia)) ((yF KX G B A).mono (by lia)) ((DJ KX G B A).mono (by lia))) (λds mh R h=>by obtain⟨_,_,_,_,rfl,_⟩:=h;rfl) LR.aCy
theorem DH :Fn P w K mg base 4 "spread" ["region","low","high"] (LR.sT):=
 eJ (wB:=LR.oN (LR.L9)) (k:=3) A.PD KX G KP xE (by with_reducible exact N0 B ((yE KX G B A).mono (by lia))) (λds mh R h=>by obtain⟨_,_,_,_,_,rfl,_⟩:=h;rfl) LR.OL
theorem IA :Fn P w K mg base 5 "grown" ["region","k"] (LR.qK):=
 eJ (wB:=LR.sP (LR.sT)) (k:=4) A.TQ KX G PV BU (by with_reducible exact S3 B ((DH KX G B A).mono (by lia))) (λds mh R h=>by obtain⟨_,_,_,_,rfl,_⟩:=h;rfl) LR.TF
theorem vJ :Fn P w K mg base 1 "_law_bag" ["_law_script","_law_at"] (JB):=
 eJ (wB:=jB) (k:=0) A.F7 KX G D9 rL (by with_reducible exact FN B) (λds mh R h=>by obtain⟨_,_,rfl,_⟩:=h;rfl) aD0
theorem cK :Fn P w K mg base 1 "_law_take" ["_law_bag_here","_law_many"] (iA):=
 eJ (wB:=g7) (k:=0) A.DY KX G AY o8 (by with_reducible exact CY B) (λds mh R h=>by obtain⟨_,_,rfl,_⟩:=h;rfl) Y3
theorem nS :Fn P w K mg base 2 "_law_number" ["_law_bag_here","_law_sort","_law_some"] (LR.pG):=
 eJ (wB:=LR.eW (iA)) (k:=1) A.wJ KX G vW lM (by with_reducible exact wG B ((cK KX G B A).mono (by lia))) (λds mh R h=>by obtain⟨_,_,_,rfl,_⟩:=h;rfl) LR.OP
theorem rV :Fn P w K mg base 3 "_law_side" ["_law_bag_here","_law_sort","_law_some"] (LR.BW):=
 eJ (wB:=LR.g8 (LR.pG)) (k:=2) A.DZ KX G AZ o9 (by with_reducible exact CZ B ((nS KX G B A).mono (by lia))) (λds mh R h=>by obtain⟨_,_,_,rfl,_⟩:=h;rfl) LR.Y4
theorem pU :Fn P w K mg base 4 "_law_rects" ["_law_bag_here","_law_most"] (LR.qJ):=
 eJ (wB:=LR.fR (iA) (LR.BW)) (k:=3) A.AL KX G wN nH (by with_reducible exact zU B ((cK KX G B A).mono (by lia)) ((rV KX G B A).mono (by lia))) (λds mh R h=>by obtain⟨_,_,rfl,_⟩:=h;rfl) LR.S8
theorem rX :Fn P w K mg base 1 "_law_line" ["_law_shreds"] (LR.uJ):=
 eJ (wB:=LR.hJ) (k:=0) A.D1 KX G A1 pC (by with_reducible exact C5 B) (λds mh R h=>by obtain⟨_,_,rfl,_⟩:=h;rfl) LR.Y8
theorem cT :Fn P w K mg base 2 "_law_region" ["_law_rects_here"] (LT.dJ):=
 eJ (wB:=LT.eV (LR.uJ)) (k:=1) A.wI KX G vV lL (by with_reducible exact wF B ((rX KX G B A).mono (by lia))) (λds mh R h=>by obtain⟨_,_,_,rfl,_⟩:=h;rfl) LT.J0
theorem iF :∀n:Nat,Fn P w K mg base (n+1) "_law_same" ["_law_found","_law_due"] (LS.pE n)
 | 0=>(O0 A.rY KX G qA).imp λds mh R h=>by obtain⟨_,⟨_,_,_,h⟩ | ⟨_,_,_,_,_,_,_,h,_⟩⟩:=h <;> omega
 | n+1=>ZL (wB:=LS.cY (LS.pE n)) (k:=n+1) (by lia) A.rY KX G qA pA (by with_reducible exact C0 B (iF n)) (λds mh R h=>by obtain⟨_,⟨_,rfl,_⟩ | ⟨_,_,_,rfl,_⟩⟩:=h <;> rfl) (LS.Y5 n)
theorem pV :Fn P w K mg base 1 "_law_lined" ["_law_some"] (LS.zE):=
 eJ (wB:=LS.fS) (k:=0) A.AM KX G wO nJ (by with_reducible exact zV B) (λds mh R h=>by obtain⟨_,rfl,_⟩:=h;rfl) LS.TB
theorem pX :Fn P w K mg base 2 "_law_board" ["_law_bag_here","_law_wide_here","_law_high"] (uM):=
 eJ (wB:=fU (iA)) (k:=1) A.AO KX G wR nL (by with_reducible exact zX B ((cK KX G B A).mono (by lia)) A.nt) (λds mh R h=>by obtain⟨_,rfl,_⟩:=h;rfl) TJ
theorem pW :Fn P w K mg base 3 "_law_drawn" ["_law_places","_law_by","_law_dx","_law_dy"] (LP.uK):=
 eJ (wB:=LP.fT (LT.dJ)) (k:=2) A.AN KX G wQ nK (by with_reducible exact zW B ((cT KX G B A).mono (by lia))) (λds mh R h=>by obtain⟨_,_,_,_,_,_,rfl,_⟩:=h;rfl) LP.TH
theorem rT :Fn P w K mg base 3 "_law_wide" ["_law_some","_law_k"] (BV):=
 eJ (wB:=gZ (LT.dJ) (LS.zE)) (k:=2) A.DX KX G AX o7 (by with_reducible exact CW B ((cT KX G B A).mono (by lia)) ((pV KX G B A).mono (by lia))) (λds mh R h=>by obtain⟨_,_,rfl,_⟩:=h;rfl) Y2
theorem rW :Fn P w K mg base 1 "_law_near" ["_law_places","_law_k"] (BX):=
 eJ (wB:=hG) (k:=0) A.D0 KX G A0 pB (by with_reducible exact C4 B) (λds mh R h=>by obtain⟨_,_,_,_,rfl,_⟩:=h;rfl) Y7
theorem S1{b:Addr}  (a:mg "law"=some (.ref b)):
  ∃fd:FuncData,(∀(s:Shared) (u:Value),BindsTo s fd ⟨[u],[]⟩ [("_law_script",u)])/\∀base:Heap,iN P w K mg base A8 8 b fd ["_law_script"] (LX K wA):=
 YK (wB:=GV (JB) (iA) (uM) (LT.dJ) (LR.qJ) (LS.pE 6) (BV) (LR.qK) (LP.uK) (BX)) (k:=7) KX G a A.aD5 L3 Z7 (λbase=>by with_reducible exact aCr B ((vJ KX G B A).mono (by lia)) ((cK KX G B A).mono (by lia)) ((pX KX G B A).mono (by lia)) ((cT KX G B A).mono (by lia)) ((pU KX G B A).mono (by lia)) ((iF KX G B A 6).mono (by lia)) ((rT KX G B A).mono (by lia)) ((IA KX G B A).mono (by lia)) ((pW KX G B A).mono (by lia)) ((rW KX G B A).mono (by lia))) aCz
theorem aDu{l:PySem.W.OpenLaw}{b:Addr}  (a:mg "law"=some (.ref b)):
  ∃fd:FuncData,(∀(s:Shared) (u:Value),BindsTo s fd ⟨[u],[]⟩ [("_law_script",u)])/\∀base:Heap,K.In base->base.Ns mainGlobals mg->iN l.prog w K mg base A8 8 b fd ["_law_script"] (LX K wA):=
 let ⟨fd,h1,h2⟩:=S1 KX G B A a
 ⟨fd,h1,λbase _ _=>h2 base⟩
end
end K07
open PySem PySem.W PyProof.Rows
set_option maxRecDepth 100000 in
set_option maxHeartbeats 0 in
theorem PySem.Challenge.cw_maskwright_k07_regions_grown_holds : PySem.Challenge.rw_maskwright_k07_regions_grown.Holds := by
  w_on; refine D3.aDv (q := D3.kQ PySem.Challenge.pw_maskwright_k07_regions_grown [1, 2, 3, 4, 7, 8, 10, 11, 12, 13, 14, 15, 16, 17, 18, 19, 20, 21, 22, 23]) (loose := ["stacked"]) (K := K07.kk) (as := [3, 20, 21, 27, 28, 34, 35, 41, 42, 43, 49, 50, 54, 55, 61, 62, 68, 69, 75, 76, 82, 83, 89, 90, 94, 95, 101, 102, 106, 107, 111, 112, 116, 117, 123, 124, 130, 131, 135, 136, 142, 143, 149, 150]) (by kernel_rfl) (fun _ => rfl) K07.kl (by rfl) (by rfl) (by rfl) (by decide +kernel) ⟨rfl, rfl, rfl, rfl, rfl, by decide +kernel⟩ ?hw ?_; (case hw => w_witness2)
  k_fill
  refine D3.walkD (l := PySem.Challenge.rw_maskwright_k07_regions_grown) (k := 8) (x := "_law_script") rfl rfl ⟨rfl, by decide, by decide⟩ (fun _ _ Y => Y) ?F
  case F =>
    intro w mg fa h KX G hmg
    refine' K07.aDu KX G (D3.bl_mk KX G ?_ ?_ ?_ ?_ ?_ ?_ ?_ ?_ ?_ ?_ ?_ ?_ ?_ ?_ ?_ ?_ ?_ ?_ ?_) ⟨(D3.aE2 ?_ ?_ ?_ ?_), (D3.aE2 ?_ ?_ ?_ ?_), (D3.aE2 ?_ ?_ ?_ ?_), (D3.aE2 ?_ ?_ ?_ ?_), (D3.aE3 ?_ ?_ ?_ ?_ ?_), (D3.aE2 ?_ ?_ ?_ ?_), (D3.aE2 ?_ ?_ ?_ ?_), (D3.aE2 ?_ ?_ ?_ ?_), (D3.aE2 ?_ ?_ ?_ ?_), (D3.aE2 ?_ ?_ ?_ ?_), (D3.aE2 ?_ ?_ ?_ ?_), (D3.aE2 ?_ ?_ ?_ ?_), (D3.aE2 ?_ ?_ ?_ ?_), (D3.aE2 ?_ ?_ ?_ ?_), (D3.aE2 ?_ ?_ ?_ ?_), (D3.aE2 ?_ ?_ ?_ ?_), (D3.aE2 ?_ ?_ ?_ ?_), (D3.aE2 ?_ ?_ ?_ ?_), (D3.aE2 ?_ ?_ ?_ ?_), (D3.aE2 ?_ ?_ ?_ ?_), (D3.aE2 ?_ ?_ ?_ ?_), (D3.XN ?nt)⟩ hmg
    (case nt => rfl)
    all_goals try k_is
