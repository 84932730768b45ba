import PyProof.Rows.All
import Wide.All
import OpenK.AllK
import Wide.FinOn
import Lean
import PyProof.EqAt
import PyProof.EqKinds
import PyProof.TupleCall
import PyProof.NeKinds
import PySem.Challenge.RW_maskwright_k04_regions_mixed
set_option Elab.async false
set_option linter.all false
set_option maxRecDepth 100000
set_option maxHeartbeats 4000000
abbrev aJj:=PySem.W.Frag
set_option compiler.extract_closed false
abbrev aFo:= @PySem.wpAny_bind
abbrev aFp:= @List.getElem?_eq_some_iff
abbrev aFq:= @PySem.wpAny_pure
abbrev aFr:= @PySem.Heap.get?_push_of_some
abbrev aFs:= @List.mem_cons_self
abbrev aFt:= @List.mem_cons_of_mem
abbrev aFu:= @List.getElem?_eq_getElem
abbrev aFv:= @List.mem_append
abbrev aFw:= @Nat.le_refl
abbrev aFx:= @List.mem_cons
abbrev aFy:= @PySem.Heap.get?_push_size
abbrev aFz:= @List.mem_append_right
abbrev aG0:= @List.mem_map
abbrev aG1:= @PyProof.Rows.wpS_bind
abbrev aG2:= @PySem.Heap.lt_size
abbrev aG3:= @List.mem_of_getElem?
abbrev aG4:= @PyProof.Rows.wpS_pure
abbrev aG5:= @List.pairwise_cons
abbrev aG6:= @List.mem_append_left
abbrev aG7:= @List.pairwise_append
abbrev aG8:= @Option.some.inj
abbrev aG9:= @Nat.ne_of_lt
abbrev aGa:= @PySem.wpAny_call_entry
abbrev aGb:= @Nat.lt_of_lt_of_le
abbrev aGc:= @PySem.W.mg_none_of
abbrev aGd:= @List.eq_nil_or_concat
abbrev aGe:= @PySem.sizeLine_eq
abbrev aGf:= @PySem.wpAny_callSpecial?_slot
abbrev aGg:= @PySem.wpAny_newObj_type
abbrev aGh:= @Nat.le_trans
abbrev aGi:= @PySem.wpAny_mono
abbrev aGj:= @PySem.wpAny_holding
abbrev aGk:= @List.mem_iff_getElem?
abbrev aGl:= @PySem.wpAny_setField_rec
abbrev aGm:= @PySem.Heap.get?_update_other
abbrev aGn:= @Option.map_eq_some_iff
abbrev aGo:= @PyProof.Rows.slot_tuple_getitem
abbrev aGp:= @PySem.wpAny_field
abbrev aGq:= @PySem.Heap.get?_update_self
abbrev aGr:= @Ne.symm
abbrev aGs:= @congrArg
abbrev aGt:= @Nat.lt_succ_of_lt
abbrev aGu:= @Int.le_refl
abbrev aGv:= @PySem.mem_of_lookup
abbrev aGw:= @PySem.Heap.SameBut.update
abbrev aGx:= @PySem.wpAny_rule
abbrev aGy:= @PySem.codeAny_builtin
abbrev aGz:= @List.mem_flatMap
abbrev aH0:= @List.getElem?_eq_none_iff
abbrev aH1:= @bind_congr
abbrev aH2:= @Nat.zero_le
abbrev aH3:= @PySem.wpAny_seqItems
abbrev aH4:= @List.of_mem_zip
abbrev aH5:= @PySem.F.slot_zip_next
abbrev aH6:= @PySem.F.slot_dict_keyiterator_next
abbrev aH7:= @List.length_eq_zero_iff
abbrev aH8:= @List.mem_of_mem_take
abbrev aH9:= @PyProof.Rows.callWith_type1
abbrev aHa:= @Nat.lt_irrefl
abbrev aHb:= @PySem.wpAny_attempt
abbrev aHc:= @PyProof.Rows.wpS_forRange
abbrev aHd:= @List.getElem_of_mem
abbrev aHe:= @List.pairwise_iff_getElem
abbrev aHf:= @Nat.lt_succ_self
abbrev aHg:= @PySem.plainId_quiet
abbrev aHh:= @List.getElem?_of_mem
abbrev aHi:= @PySem.wpAny_typeNameOfWhole_keyiter
abbrev aHj:= @List.nodup_cons
abbrev aHk:= @PySem.wpAny_updateSeq
abbrev aHl:= @PySem.wpAny_Call_Name_kw
abbrev aHm:= @PySem.F.slot_tuple_iterator_next
abbrev aHn:= @PyProof.Rows.wpS_mono
abbrev aHo:= @Classical.byContradiction
abbrev aHp:= @decide_eq_false
abbrev aHq:= @PySem.wpAny_passesOwn
abbrev aHr:= @Nat.le_of_lt
abbrev aHs:= @PySem.wpAny_truthy_bool
abbrev aHt:= @PySem.codeAny_mono
abbrev aHu:= @PySem.wpAny_setState_of
abbrev aHv:= @PySem.wpAny_setEntries_of
abbrev aHw:= @List.mem_map_of_mem
abbrev aHx:= @List.getElem_mem
abbrev aHy:= @PySem.wpAny_typeOf
abbrev aHz:= @List.Perm.append_right
abbrev aI0:= @PySem.F.called_set
abbrev aI1:= @Int.emod_lt_of_pos
abbrev aI2:= @PySem.wpAny_standAt
abbrev aI3:= @List.Perm.append_left
abbrev aI4:= @List.perm_append_comm
abbrev aI5:= @List.take_append_drop
abbrev aI6:= @PySem.W.Looks.of_pure
abbrev aI7:= @PySem.wpAny_pyIter_slot
abbrev aI8:= @List.mem_iff_getElem
abbrev aI9:= @PySem.wpAny_fieldsOf
abbrev aIa:= @PySem.wpAny_newTuple
abbrev aIb:= @PySem.Heap.size_push
abbrev aIc:= @List.mem_of_mem_tail
abbrev aIe:= @Nat.ne_of_gt
abbrev aIf:= @Nat.le_of_not_lt
abbrev aIg:= @PySem.wpAny_isInstance
abbrev aIh:= @PySem.Calls.call_function_entry
abbrev aIi:= @PyProof.Rows.F.entry_set_update_loop
abbrev aIj:= @PySem.F.args_tuple_add_2
abbrev aIk:= @List.mem_filter
abbrev aIl:= @Int.emod_nonneg
abbrev aIm:= @PySem.Calls.spliced_cons
abbrev aIn:= @PySem.F.entry_tuple_add
abbrev aIo:= @PySem.wpAny_of_eq
abbrev aIp:= @ite_congr
abbrev aIq:= @PySem.F.slot_tuple_add
abbrev aIr:= @PySem.F.args_zip_next_1
abbrev aIs:= @List.take_of_length_le
abbrev aIt:= @List.ext_getElem?
abbrev aIu:= @List.append_inj_right'
abbrev aIv:= @PySem.F.slot_dict_get
abbrev aIw:= @List.length_filter_le
abbrev aIx:= @List.append_inj_left'
abbrev aIy:= @PySem.wpAny_askSetting
abbrev aIz:= @PySem.F.entry_zip_next
abbrev aJ0:= @PyProof.Rows.wpS_modify
abbrev aJ1:= @PySem.wpAny_execs_nil
abbrev aJ2:= @PySem.codeAny_of_tree
abbrev aJ3:= @PySem.wpAny_specialOf
abbrev aJ4:= @PySem.wpAny_ite_split
abbrev aJ5:= @PySem.F.slot_zip_iter
abbrev aJ6:= @List.map_congr_left
abbrev aJ7:= @PySem.F.plain_extend_loop
abbrev aJ8:= @PySem.wpAny_load
abbrev aJ9:= @Nat.lt_of_le_of_lt
abbrev aJa:= @PySem.tupleKind_room_in1
abbrev aJb:= @Nat.lt_or_eq_of_le
abbrev aJc:= @PySem.wpAny_setField
abbrev aJd:= @List.take_sublist
abbrev aJe:= @Nat.le_succ
abbrev aJf:= @Nat.lt_trichotomy
abbrev aJg:= @PySem.wpAny_newList
abbrev aJh:= @PySem.W.mg_of
abbrev aJi:= @Nat.min_eq_left
abbrev aJk:=PySem.Value->PySem.Shared->Prop
abbrev aJl:=PyProof.Rows.Keyed->PyProof.Rows.Keyed->Bool
abbrev aJm:=PySem.Str->Option PySem.Value
abbrev aJn:=Array PyProof.Rows.Keyed
namespace L2
open PySem PySem.Spec PyProof.Rows
abbrev Key:=Sum Int Str
def xQ:Key->Value->Bool
 | .inl k,v=>Value.isInt k v
 | .inr x,v=>Value.isStrOf x v
def aF4(w:World):Key->Int
 | .inl k=>hashInt k
 | .inr x=>hashStr w x
theorem bS:∀{k:Key} {v:Value},xQ k v=true->(∃i t,k=Sum.inl i/\v=Value.int i t)\/(∃x t,k=Sum.inr x/\v=Value.str x t)
 | .inl i,v,h=>by
  obtain⟨t,e⟩:=Value.isInt_shape (k:=i) (v:=v) h;exact .inl ⟨i,t,rfl,e⟩
 | .inr x,v,h=>by
  obtain⟨t,e⟩:=Value.isStrOf_shape (x:=x) (v:=v) h;exact .inr ⟨x,t,rfl,e⟩
theorem IX(i:Int)(t:Tok):xQ (.inl i) (.int i t)=true:=by simp[xQ,Value.isInt]
theorem IW(x:Str)(t:Tok):xQ (.inr x) (.str x t)=true:=by simp[xQ,Value.isStrOf]
theorem X0(a b:Int):decide ((Sum.inl a:Key)=Sum.inl b)=(a==b):=by
 by_cases e:a=b
 ·subst e;simp
 ·have h:¬(Sum.inl a:Key)=Sum.inl b:=λq=>e (Sum.inl.inj q);rw[decide_eq_false h];exact(beq_eq_false_iff_ne.mpr e).symm
theorem XX(a b:Str):decide ((Sum.inr a:Key)=Sum.inr b)=decide (a=b):=by
 by_cases e:a=b
 ·subst e;simp
 ·have h:¬(Sum.inr a:Key)=Sum.inr b:=λq=>e (Sum.inr.inj q);rw[decide_eq_false h,decide_eq_false e]
theorem XZ(a:Int)(b:Str):decide ((Sum.inl a:Key)=Sum.inr b)=false:=aHp (λq=>nomatch q)
theorem XY(a:Str)(b:Int):decide ((Sum.inr a:Key)=Sum.inl b)=false:=aHp (λq=>nomatch q)
def aW(prog:Program)(w:World):PySem.KeyKind prog w Key where
 is:=xQ
 hash:=aF4 w
 inj:=λv a b ha hb=>by
  rcases bS ha with ⟨i,t,rfl,rfl⟩ | ⟨x,t,rfl,rfl⟩
  ·rcases bS hb with ⟨j,u,rfl,e⟩ | ⟨y,u,rfl,e⟩
   ·injection e with c _;rw[c]
   ·exact nomatch e
  ·rcases bS hb with ⟨j,u,rfl,e⟩ | ⟨y,u,rfl,e⟩
   ·exact nomatch e
   ·injection e with c _;rw[c]
 byValue:=λk v h=>by
  rcases bS h with ⟨i,t,rfl,rfl⟩ | ⟨x,t,rfl,rfl⟩ <;> rfl
 pyHash:=λd h=>by
  rcases bS d with ⟨i,t,rfl,rfl⟩ | ⟨x,t,rfl,rfl⟩
  ·exact wpAny_pyHash_int h
  ·exact wpAny_pyHash_str h
 eqBool:=λf d h=>by
  rcases bS f with ⟨i,t,rfl,rfl⟩ | ⟨x,t,rfl,rfl⟩
  ·rcases bS d with ⟨j,u,rfl,rfl⟩ | ⟨y,u,rfl,rfl⟩
   ·rw[X0]at h;exact wpAny_eqBool_int h
   ·rw[XZ]at h;exact SeqAt.EqAt.int_str i t y u _ _ _ _ h
  ·rcases bS d with ⟨j,u,rfl,rfl⟩ | ⟨y,u,rfl,rfl⟩
   ·rw[XY]at h;exact SeqAt.EqAt.str_int x t j u _ _ _ _ h
   ·rw[XX]at h;exact wpAny_eqBool_str h
 «strs»:=λk x t v h=>by
  rcases bS h with ⟨i,u,rfl,e⟩ | ⟨y,u,rfl,e⟩
  ·exact nomatch e
  ·injection e with c _;subst c;cases v <;> rfl
theorem CM(prog:Program)(w:World)(i:Int)(t:Tok):(aW prog w).is (.inl i) (.int i t)=true:=IX i t
theorem CL(prog:Program)(w:World)(x:Str)(t:Tok):(aW prog w).is (.inr x) (.str x t)=true:=IW x t
inductive V where
 | cL | bl (b:Bool) | int (i:Int) | str (x:Str) | byt (b:Array UInt8) | flt (b:UInt64) | ref (a:Addr) | ty (n:String)
 deriving DecidableEq
def RelV:V->Value->Prop
 | .cL,u=>u=Value.none
 | .bl b,u=>u=Value.bool b
 | .int i,u=>∃t,u=Value.int i t
 | .str x,u=>∃t,u=Value.str x t
 | .byt b,u=>∃t,u=Value.bytes b t
 | .flt b,u=>∃t,u=Value.float b t
 | .ref a,u=>u=Value.ref a
 | .ty n,u=>u=Value.type n
abbrev Vals:List V->List Value->Prop:=Paired RelV
variable{us:List Value}
theorem Vals.length{xs:List V}(r:Vals xs us):xs.length=us.length:=Paired.length r
theorem Vals.get:∀{xs:List V} {us:List Value} {i:Nat} {x:V},Vals xs us->xs[i]? =some x->∃u,us[i]? =some u/\RelV x u
 | _,_,_,_,.nil,e=>by simp at e
 | _,_,0,_,.cons r _,e=>by simp at e;subst e;exact⟨_,rfl,r⟩
 | _,_,i+1,x,.cons _ t,e=>by
  obtain⟨u,a,b⟩:=Vals.get (i:=i) (x:=x) t (by simpa using e);exact⟨u,by simpa using a,b⟩
theorem Vals.set{x:V}{u:Value}(r:RelV x u):∀{xs:List V} {us:List Value} (i:Nat),Vals xs us->Vals (xs.set i x) (us.set i u)
 | _,_,_,.nil=>.nil
 | _,_,0,.cons _ t=>.cons r t
 | _,_,i+1,.cons q t=>.cons q (Vals.set r i t)
theorem Vals.append:∀{xs ys:List V} {us a:List Value},Vals xs us->Vals ys a->Vals (xs++ys) (us++a)
 | _,_,_,_,.nil,s=>s
 | _,_,_,_,.cons r t,s=>.cons r (Vals.append t s)
theorem Vals.take:∀{xs:List V} {us:List Value} (n:Nat),Vals xs us->Vals (xs.take n) (us.take n)
 | _,_,0,_=>.nil
 | _,_,_+1,.nil=>.nil
 | _,_,n+1,.cons r t=>.cons r (Vals.take n t)
theorem Vals.drop:∀{xs:List V} {us:List Value} (n:Nat),Vals xs us->Vals (xs.drop n) (us.drop n)
 | _,_,0,r=>r
 | _,_,_+1,.nil=>.nil
 | _,_,n+1,.cons _ t=>Vals.drop n t
theorem Vals.none_of:∀{xs:List V} {us:List Value} {i:Nat},Vals xs us->xs[i]? =none->us[i]? =none:=λ{xs us i} r e=>by
 have a:=r.length;have b:xs.length<=i:=aH0.mp e;exact aH0.mpr (by lia)
def sH:Option V->Option Value->Prop
 | some v,some u=>RelV v u
 | none,none=>True
 | _,_=>False
def KV{κ:Type}:List (κ×V)->List (κ×Value)->Prop:=Paired λ(p:κ×V) (q:κ×Value)=>p.1=q.1/\RelV p.2 q.2
def kV:Key->V
 | .inl i=>.int i
 | .inr x=>.str x
inductive HO where
 | lst (xs:List V)
 | tup (xs:List V)
 | dK (kvs:List (Key×V)) | dT (kvs:List (List Key×V))
 | set (S:Int->Bool) (n:Nat)
 | ins (C dx:Addr) (fs:List (Str×V))
 | own (x:Addr)
 | xd (fs:List (Str×V))
 | met (f x:Addr)
 | rng (lo hi:Int)
 | frz (o:Obj) (u:HO)
 | tbl (ps:Array Value)
 | ext (φ:Heap->Prop)
abbrev Hp:=Addr->Option HO
def upd(H:Hp)(a:Addr)(o:HO):Hp:=λb=>if b=a then some o else H b
variable{H:Hp}{a:Addr}
theorem bR{o:HO}:upd H a o a=some o:=by unfold upd;rw[if_pos rfl]
variable{b:Addr}
theorem aM{o:HO}(h:b≠a):upd H a o b=H b:=by unfold upd;rw[if_neg h]
theorem aBf{o u:HO}(h:H a=some o)(h' :H b=some u)(d:o≠u):a≠b:=by
 intro e;subst e;rw[h]at h';exact d (aG8 h')
theorem bK{o:HO}(h:H a=some o)(h' :H b=none):a≠b:=by
 intro e;subst e;rw[h]at h';cases h'
theorem y8(h:Heap)(items:Array Value):∀o,(h.push {cls:= .type "tuple",data:= .seq items}).get? h.objs.size=some o->o.dict=none:=λo e=>by rw[Heap.get?_push_size _ rfl]at e;cases e;rfl
section
variable (P:Program)(w:World)
def cW(H:Hp)(h:Heap)(a:Addr):HO->Prop
 | .lst xs=>xs.length<=sizeLine/\∃(aJ:List Value) (n:Nat),Vals xs aJ/\h.get? a=some {cls:= .type "list",data:= .seq aJ.toArray n}
 | .tup xs=>xs.length<=sizeLine/\∃aJ:List Value,Vals xs aJ/\IsTup h a aJ.toArray/\∀o,h.get? a=some o->o.dict=none
 | .dK kvs=>kvs.length<=sizeLine/\(a==sysModules)=false/\∃vs,KV kvs vs/\h.DictOf (aW P w) a vs
 | .dT kvs=>kvs.length<=sizeLine/\(a==sysModules)=false/\∃xs:List (List Key×Addr×Value),
   Paired (λ(p:List Key×V) (q:List Key×Addr×Value)=>p.1=q.1/\H q.2.1=some (.tup (p.1.map kV))/\RelV p.2 q.2.2) kvs xs/\
   ∃o c ep,h.get? a=some o/\o.ExactDict/\o.data= .dict c ep/\c.toList=xs.map (entryOfKey (tupleKind (aW P w)))/\(xs.map (·.1)).Nodup
 | .set S n=>h.SetOf (intKind P w) a S n
 | .ins C dx fs=>H dx=some (.own a)/\fs.length<=1000/\dx≠a/\h.get? a=some (PySem.W.instObj C dx)/\
   ∃b,h.Ns1 dx b/\(∀f,sH (fs.lookup f) (b f))/\PySem.Within b (fs.map (·.1))
 | .own _=>∃o,h.get? a=some o
 | .xd fs=>∃b,h.Ns1 a b/\∀f,sH (fs.lookup f) (b f)
 | .rng lo hi=>∃t u v,h.get? a=some {cls:= .type "range",data:= .fields #[.int lo t,.int hi u,.int 1 v]}
 | .frz o u=>h.get? a=some o/\cW H h a u
 | .tbl ps=>h.get? a=some {cls:= .none,data:= .fields ps}
 | .met f x=>h.get? a=some (PySem.W.methodObj (.ref f) (.ref x))
 | .ext φ=>φ h/\(∃o,h.get? a=some o)/\∀d e:Heap,φ d->(∀o,d.get? a=some o->e.get? a=some o)->φ e
def qJ(H:Hp)(h:Heap):Prop:=∀a o,H a=some o->cW P w H h a o
end
section
variable {P:Program}{w:World}{H H' :Hp}{h h' :Heap}{a:Addr}{o:HO}
theorem cW.lt(x:cW P w H h a o):a<h.objs.size:=by
 cases o with
 | lst xs=>obtain⟨_,_,_,_,e⟩:=x;exact aG2 e
 | tup xs=>obtain⟨_,_,_,p,_⟩:=x;exact p.lt
 | dK kvs=>obtain⟨_,_,_,_,o,_,_,e,_⟩:=x;exact aG2 e
 | dT kvs=>obtain⟨_,_,_,_,o,_,_,e,_⟩:=x;exact aG2 e
 | set S n=>obtain⟨o,_,_,_,e,_⟩:=x;exact aG2 e
 | ins C dx fs=>obtain⟨_,_,_,e,_⟩:=x;exact aG2 e
 | own y=>obtain⟨_,e⟩:=x;exact aG2 e
 | xd fs=>obtain⟨_,⟨_,_,_,e,_⟩,_⟩:=x;exact aG2 e
 | rng lo hi=>obtain⟨_,_,_,e⟩:=x;exact aG2 e
 | frz ob u=>obtain⟨e,_⟩:=x;exact aG2 e
 | tbl ps=>exact aG2 (show h.get? a=some _ from x)
 | met f y=>exact aG2 (show h.get? a=some _ from x)
 | ext φ=>obtain⟨_,⟨_,e⟩,_⟩:=x;exact aG2 e
theorem Paired.WV{α e:Type}{F G:α->e->Prop}:∀{c:List α} {d:List e},Paired F c d->(∀a b,F a b->G a b)->Paired G c d
 | _,_,.nil,_=>.nil
 | _,_,.cons r t,f=>.cons (f _ _ r) (Paired.WV t f)
theorem cW.qS(x:cW P w H h a o)(k:∀b u,(b=a\/H b=some (.own a))->h.get? b=some u->h'.get? b=some u)
  (ho:∀b,H b=some (.own a)->H' b=some (.own a)) (ht:∀b xs,H b=some (.tup xs)->H' b=some (.tup xs)):cW P w H' h' a o:=by
 induction o with
 | lst xs=>obtain⟨z,aJ,n,r,e⟩:=x;exact⟨z,aJ,n,r,k _ _ (.inl rfl) e⟩
 | tup xs=>obtain⟨z,aJ,r,⟨ob,e,c⟩,nd⟩:=x;exact⟨z,aJ,r,⟨ob,k _ _ (.inl rfl) e,c⟩,λo' j =>by rw[k _ _ (.inl rfl) e]at j;cases j;exact nd _ e⟩
 | dK kvs=>obtain⟨z,y,vs,r,ob,g,ep,e,c⟩:=x;exact⟨z,y,vs,r,ob,g,ep,k _ _ (.inl rfl) e,c⟩
 | dT kvs=>
  obtain⟨z,y,xs,r,ob,g,ep,e,c⟩:=x;exact⟨z,y,xs,Paired.WV r λp q z=>⟨z.1,ht _ _ z.2.1,z.2.2⟩,ob,g,ep,k _ _ (.inl rfl) e,c⟩
 | set S n=>obtain⟨ob,g,ep,t,e,c⟩:=x;exact⟨ob,g,ep,t,k _ _ (.inl rfl) e,c⟩
 | ins C dx fs=>
  obtain⟨d,z,ne,e,i,⟨od,g,ep,l,c⟩,r⟩:=x;exact⟨ho _ d,z,ne,k _ _ (.inl rfl) e,i,⟨od,g,ep,k _ _ (.inr d) l,c⟩,r⟩
 | own y=>obtain⟨ob,e⟩:=x;exact⟨ob,k _ _ (.inl rfl) e⟩
 | xd fs=>obtain⟨i,⟨od,g,ep,e,c⟩,r⟩:=x;exact⟨i,⟨od,g,ep,k _ _ (.inl rfl) e,c⟩,r⟩
 | rng lo hi=>obtain⟨t,u,v,e⟩:=x;exact⟨t,u,v,k _ _ (.inl rfl) e⟩
 | frz ob u ih=>obtain⟨e,q⟩:=x;exact⟨k _ _ (.inl rfl) e,ih q⟩
 | tbl ps=>
  have e:h.get? a=some {cls:= .none,data:= .fields ps}:=x;show h'.get? a=some {cls:= .none,data:= .fields ps};exact k a _ (.inl rfl) e
 | met f y=>
  have e:h.get? a=some (PySem.W.methodObj (.ref f) (.ref y)):=x;show h'.get? a=some (PySem.W.methodObj (.ref f) (.ref y));exact k a _ (.inl rfl) e
 | ext φ=>obtain⟨p,⟨o,e⟩,st⟩:=x;exact⟨st _ _ p λo q=>k _ _ (.inl rfl) q,⟨o,k _ _ (.inl rfl) e⟩,st⟩
theorem qJ.lt(x:qJ P w H h)(e:H a=some o):a<h.objs.size:=(x a o e).lt
theorem qJ.fresh(x:qJ P w H h)(e:h.objs.size<=a):H a=none:=by
 cases q:H a with
 | none=>rfl
 | some u=>exact absurd (aGb (x.lt q) e) (aHa _)
theorem qJ.kept(x:qJ P w H h)(k:∀b u,h.get? b=some u->h'.get? b=some u):qJ P w H h' :=λa o e=>
 (x a o e).qS (λb u _ q=>k b u q) (λ_ q=>q) λ_ _ q=>q
theorem qJ.laid(x:qJ P w H h)(k:∀b u,h.get? b=some u->h'.get? b=some u)(f:h.objs.size<=a)(new:cW P w (upd H a o) h' a o):qJ P w (upd H a o) h' :=λb u e=>by
 have d:=x.fresh f;by_cases hb:b=a
 ·subst hb;rw[bR]at e;cases e;exact new
 ·rw[aM hb]at e;exact(x b u e).qS (λc v _ q=>k c v q) (λc q=>by rw[aM (bK q d)];exact q) λc xs q=>by rw[aM (bK q d)];exact q
end
def Rd(H:Hp)(a:Addr)(u:HO):Prop:=H a=some u\/∃o,H a=some (.frz o u)
variable{P:Program}{w:World}{h:Heap}
theorem Rd.ok{u:HO}(r:Rd H a u)(x:qJ P w H h):cW P w H h a u:=by
 rcases r with r | ⟨o,r⟩
 ·exact x a u r
 ·obtain⟨_,q⟩:=x a _ r;exact q
def JZ:Option HO->Prop
 | some (.lst _)=>True
 | some (.dK _)=>True
 | some (.dT _)=>True
 | some (.set _ _)=>True
 | some (.ins _ _ _)=>True
 | some (.ext _)=>True
 | _=>False
section
variable {P:Program}{w:World}{H:Hp}{h h' :Heap}{x e:Addr}{o' :HO}
theorem qJ.write(ok:qJ P w H h)(g:JZ (H x))(he:e=x\/H e=some (.own x))(k:∀b u,b≠e->h.get? b=some u->h'.get? b=some u)(i:∃u,h'.get? e=some u)
  (new:cW P w (upd H x o') h' x o'):qJ P w (upd H x o') h' :=λb u q=>by
 have d:∀c y,H c=some (.own y)->c≠x:=λc y r z=>by subst z;rw[r]at g;exact g
 have f:∀c xs,H c=some (.tup xs)->c≠x:=λc xs r z=>by subst z;rw[r]at g;exact g
 by_cases hb:b=x
 ·subst hb;rw[bR]at q;cases q;exact new
 ·rw[aM hb]at q;by_cases a:b=e
  ·have j :H b=some (.own x):=by
    rcases he with z | z
    ·exact absurd (a.trans z) hb
    ·rw[a];exact z
   rw[q]at j;cases j;obtain⟨v,l⟩:=i;exact⟨v,by rw[a];exact l⟩
  ·refine(ok b u q).qS (λc v hc r=>k c v ?_ r) (λc r=>by rw[aM (d c b r)];exact r) λc xs r=>by rw[aM (f c xs r)];exact r
   rcases hc with rfl | hc
   ·exact a
   ·rintro rfl;rcases he with z | z
    ·exact d c b hc z
    ·rw[hc]at z;cases z;exact hb rfl
end
structure Un(fs ex:List Addr)(H H' :Hp)(h h' :Heap):Prop where
 keep:∀b o,h.get? b=some o->H b=none->b∉fs->b∉ex->h'.get? b=some o
 slot:∀b o,h.get? b=some o->H b=none->b∈fs->b∉ex->∃sl,h'.get? b=some {o with slots:=sl}
 free:∀b o,h.get? b=some o->H b=none->b∉ex->H' b=none
 there:∀b o,h.get? b=some o->b∉ex->∃o',h'.get? b=some o'
 BO:∀b xs,H b=some (.tup xs)->H' b=some (.tup xs)
 AE:∀b o u,H b=some (.frz o u)->H' b=some (.frz o u)
 BQ:∀b ps,H b=some (.tbl ps)->∃more,H' b=some (.tbl (ps++more))
section
variable {fs fs' ex ex' :List Addr}{H H1 H2:Hp}{h h1 h2 h' :Heap}{a x e:Addr}{o:HO}
theorem Un.any(u:Un fs ex H H1 h h1){ob:Obj}(q:h.get? b=some ob)(n:H b=none)(a:b∉ex):∃sl,h1.get? b=some {ob with slots:=sl}:=by
 by_cases hb:b∈fs
 ·exact u.slot b ob q n hb a
 ·exact⟨ob.slots,u.keep b ob q n hb a⟩
theorem Un.kept(k:∀b u,h.get? b=some u->h'.get? b=some u):Un fs ex H H h h' :=
 ⟨λb ob q _ _ _=>k b ob q,λb ob q _ _ _=>⟨ob.slots,k b ob q⟩,λ_ _ _ n _=>n,λb ob q _=>⟨ob,k b ob q⟩,λ_ _ q=>q,λ_ _ _ q=>q,λ_ ps q=>⟨#[],by rw[q];simp⟩⟩
theorem Un.refl:Un fs ex H H h h:=Un.kept λ_ _ q=>q
theorem Un.laid(k:∀b u,h.get? b=some u->h'.get? b=some u)(d:h.objs.size<=a)(c:H a=none):Un fs ex H (upd H a o) h h' where
 keep:=λb u q _ _ _=>k b u q
 slot:=λb u q _ _ _=>⟨u.slots,k b u q⟩
 free:=λb u q n _=>by rw[aM (Nat.ne_of_lt (Nat.lt_of_lt_of_le (Heap.lt_size q) d))];exact n
 there:=λb u q _=>⟨u,k b u q⟩
 BO:=λb xs q=>by rw[aM (bK q c)];exact q
 AE:=λb u xs q=>by rw[aM (bK q c)];exact q
 BQ:=λb ps q=>⟨#[],by rw[aM (bK q c),q];simp⟩
theorem Un.write(c:JZ (H x))(he:e=x\/H e=some (.own x))(k:∀b u,b≠e->h.get? b=some u->h'.get? b=some u)(d:∃u,h'.get? e=some u):Un fs ex H (upd H x o) h h' :=by
 have g:∀b,H b=none->b≠x:=λb n z=>by subst z;rw[n]at c;exact c
 have hb:∀b,H b=none->b≠e:=λb n z=>by
  subst z;rcases he with r | r
  ·exact g b n r
  ·rw[n]at r;cases r
 have f:∀b u,H b=some u->¬JZ (some u)->b≠x:=λb u q i z=>by subst z;rw[q]at c;exact i c
 refine⟨λb u q n _ _=>k b u (hb b n) q,λb u q n _ _=>⟨u.slots,k b u (hb b n) q⟩,λb u q n _=>by rw[aM (g b n)];exact n,λb u q _=>?_,
  λb xs q=>by rw[aM (f b _ q λz=>z)];exact q,λb u xs q=>by rw[aM (f b _ q λz=>z)];exact q,λb ps q=>⟨#[],by rw[aM (f b _ q λz=>z),q];simp⟩⟩
 by_cases a:b=e
 ·subst a;exact d
 ·exact⟨u,k b u a q⟩
end
def trk(h:Heap)(H:Hp):List Addr:=(List.range h.objs.size).filter λa=>(H a).isSome
def AB(h:Heap)(H:Hp):Heap:=PySem.W.hideAll h (trk h H)
theorem JC(h:Heap)(H:Hp):(AB h H).objs.size=h.objs.size:=PySem.W.hideAll_size _ _
variable{o:Obj}
theorem NI(e:h.get? b=some o)(n:H b=none):(AB h H).get? b=some o:=
 PySem.W.hideAll_get _ e λa=>by
  have q:(H b).isSome=true:=(aIk.mp a).2;rw[n]at q;simp at q
theorem Q7(e:(AB h H).get? b=some o):h.get? b=some o/\H b=none:=by
 have a :h.get? b=some o:=PySem.W.of_hideAll (trk h H) e;refine⟨a,?_⟩
 cases q:H b with
 | none=>rfl
 | some x=>
  have c:b∈trk h H:=aIk.mpr ⟨List.mem_range.mpr (aG2 a),by simp[q]⟩;have z:(AB h H).get? b=none:=PySem.W.hideAll_none (trk h H) c;rw[z]at e;cases e
structure Mod(K:aJj)(mg:aJm)(base:Heap):Prop where
 kin:K.In base
 glob:base.Ns mainGlobals mg
 blt:∃mb,base.Ns builtinsNs mb/\∀x:Str,x≠ "__name__"->mb x=bootBuiltins x
 nolimit:base.NoLimit
structure Cx where
 prog:Program
 w:World
 K:aJj
 mg:aJm
 base:Heap
 A:Around
 N:List Str
 s₀:Shared
 H₀:Hp
 env:Env
 outer:List Env
 stack:List Env
 ex:List Addr
 fn:Str->Bool
 calm:Bool
 pn:List (Addr×Obj)
 xe:aJk
def NU(l:List Env):List Addr:=l.filterMap (·.frame)
abbrev Cx.fs(X:Cx):List Addr:=NU X.outer
def Vis(sc:Scope)(x:Str):Prop:=sc.names.lookup x=some .local\/sc.names.lookup x=some .cell\/sc.names.lookup x=some .free
def Loc(sc:Scope)(x:Str):Prop:=sc.names.lookup x=some .local\/sc.names.lookup x=some .cell
def Look(env:Env)(h:Heap)(m:aJm)(x:Str)(u:Value):Prop:=
 (env.kindOf x=some .local/\m x=some u)\/((env.kindOf x=some .cell\/env.kindOf x=some .free)/\∃c,env.cells.lookup x=some c/\h.IsCell c (some u))
structure Cx.Ok(X:Cx):Prop where
 mod:Mod X.K X.mg X.base
 kind:X.env.scope.kind= .function
 glob:X.env.globals=mainGlobals
 blt:X.env.builtins=builtinsNs
 above:X.s₀.heap.objs.size<=X.env.locals
 inj:∀x y c,X.env.cells.lookup x=some c->X.env.cells.lookup y=some c->x=y
 has:∀x,(X.env.kindOf x=some .cell\/X.env.kindOf x=some .free)->∃c,X.env.cells.lookup x=some c
 cab:∀x c,X.fn x=true->X.env.cells.lookup x=some c->X.s₀.heap.objs.size<=c
 hd:X.calm=true->X.A.handled=none
 frames:X.A.frames=some X.stack
 stk:X.stack=X.outer\/(X.stack=X.env::X.outer/\X.env.frame=some X.env.locals)
 exf:∀b∈X.ex,b≠X.env.locals/\∀x c,X.env.cells.lookup x=some c->c≠b
 bs:∀b o,X.base.get? b=some o->X.s₀.heap.get? b=some o/\X.H₀ b=none
 S6:X.base.objs.size<=X.s₀.heap.objs.size
 L8:∀b o,X.base.get? b=some o->b∉X.ex
 NZ:∀b∈X.ex,b∉X.fs
 vG:X.s₀.heap.FunFrames X.base X.outer
 ZQ:∀b∈X.fs,X.H₀ b=none
structure Inv(X:Cx)(pins:List (Addr×Obj))(σ:List (Option V))(H:Hp)(s:Shared):Prop where
 ok:X.Ok
 os:s.os=X.s₀.os
 bare:AllBare s.gens
 base:Un X.fs X.ex X.H₀ H X.s₀.heap s.heap
 loc:∃m,s.heap.Ns X.env.locals m/\∀(i:Nat) (x:Str) (v:V),X.N[i]? =some x->σ[i]? =some (some v)->Vis X.env.scope x->∃u,RelV v u/\Look X.env s.heap m x u
 cell:∀x c,X.env.cells.lookup x=some c->∃v,s.heap.IsCell c v
 free:H X.env.locals=none
 l7:∀x c,X.env.cells.lookup x=some c->H c=none
 pin:∀p∈X.pn++pins,s.heap.get? p.1=some p.2/\H p.1=none/\p.1≠X.env.locals/\p.1∉X.fs/\∀v,p.2.data≠ .cell v
 bY:qJ X.prog X.w H s.heap
 len:σ.length=X.N.length
section
variable {X:Cx}{pins:List (Addr×Obj)}{σ:List (Option V)}{H H' :Hp}{s:Shared}{h' :Heap}
theorem Cx.Ok.aEs(ok:X.Ok)(e:X.base.get? b=some o):b∉X.fs:=λhb=>by
 have:=(ok.vG.mem hb).1;rw[e]at this;cases this
theorem Inv.bs(I:Inv X pins σ H s):∀b o,X.base.get? b=some o->s.heap.get? b=some o/\H b=none:=λb o e=>
 ⟨I.base.keep b o (I.ok.bs b o e).1 (I.ok.bs b o e).2 (I.ok.aEs e) (I.ok.L8 b o e),I.base.free b o (I.ok.bs b o e).1 (I.ok.bs b o e).2 (I.ok.L8 b o e)⟩
theorem Inv.bk(I:Inv X pins σ H s):∀b o,X.base.get? b=some o->s.heap.get? b=some o:=λb o e=>(I.bs b o e).1
theorem Inv.mod(I:Inv X pins σ H s):Mod X.K X.mg X.base:=I.ok.mod
theorem Inv.X1(I:Inv X pins σ H s):X.K.In s.heap:=I.ok.mod.kin.keeps I.bk
theorem Inv.fr(I:Inv X pins σ H s):∃m,Fr X.base X.env.locals s.heap m:=
 let ⟨m,hn,_⟩:=I.loc
 ⟨m,hn,I.bk,aGh I.ok.S6 I.ok.above⟩
theorem Inv.lt(I:Inv X pins σ H s):X.env.locals<s.heap.objs.size:=let ⟨_,hn,_⟩:=I.loc;hn.lt
theorem Inv.sz(I:Inv X pins σ H s):X.s₀.heap.objs.size<=s.heap.objs.size:=aGh I.ok.above (aHr I.lt)
theorem Inv.aEr(I:Inv X pins σ H s)(h:s.heap.objs.size<=a):a∉X.fs:=λhb=>by
 obtain⟨_,o,ho,_⟩:=I.ok.vG.mem hb;exact absurd (aGb (aG2 ho) (aGh I.sz h)) (aHa _)
theorem Inv.SY(I:Inv X pins σ H s):∀x c,X.env.cells.lookup x=some c->c≠X.env.locals:=λx c e z=>by
 obtain⟨v,o,ho,hd⟩:=I.cell x c e;obtain⟨m,⟨o',d,ep,a,b,_⟩,_⟩:=I.loc;rw[z,a]at ho;cases ho;rw[b]at hd;cases hd
theorem Inv.vG(I:Inv X pins σ H s):s.heap.FunFrames X.base X.outer:=by
 have all:∀(l:List Env),(∀b∈NU l,b∈X.fs)->X.s₀.heap.FunFrames X.base l->s.heap.FunFrames X.base l:=by
  intro l
  induction l with
  | nil=>intro _ _;trivial
  | cons env r ih=>
   intro d f;obtain⟨g,⟨L,o,a,h,ho,hd⟩,i⟩:=f;have c:L∈X.fs:=d L (by unfold NU;rw[List.filterMap_cons,a];exact aFs);obtain⟨sl,e⟩:=I.base.slot L o ho (I.ok.ZQ L c) c λz=>I.ok.NZ L z c;exact⟨g,⟨L,_,a,h,e,hd⟩,ih (λb hb=>d b (by unfold NU;rw[List.filterMap_cons,a];exact aFt _ hb)) i⟩
 exact all X.outer (λ_ hb=>hb) I.ok.vG
theorem Inv.stack(I:Inv X pins σ H s):s.heap.FunFrames X.base X.stack:=by
 rcases I.ok.stk with e | ⟨e,a⟩
 ·rw[e];exact I.vG
 ·rw[e];obtain⟨m,b,_⟩:=I.loc;refine .cons (by rw[I.ok.kind];decide) a b ?_ I.vG;exact Heap.get?_none_of_le (aGh I.ok.S6 I.ok.above)
theorem Inv.EK(I:Inv X pins σ H s):∀b∈NU X.stack,b∈X.env.locals::X.fs:=λb hb=>by
 rcases I.ok.stk with e | ⟨e,a⟩
 ·rw[e]at hb;exact aFt _ hb
 ·rw[e]at hb;unfold NU at hb;rw[List.filterMap_cons,a]at hb;exact hb
theorem Inv.GL(I:Inv X pins σ H s):∀b∈NU X.stack,H b=none:=λb hb=>by
 rcases aFx.mp (I.EK b hb) with e | hb
 ·rw[e];exact I.free
 ·obtain⟨_,o,ho,_⟩:=I.ok.vG.mem hb;exact I.base.free b o ho (I.ok.ZQ b hb) λz=>I.ok.NZ b z hb
variable{g':Array GenState}{t':Nat}{ch:List Addr}
theorem Inv.step{d' :Drawn}(I:Inv X pins σ H s)
  (f:∀b∈ch,(b∈X.ex\/X.s₀.heap.objs.size<=b)/\b≠X.env.locals/\(∀x c,X.env.cells.lookup x=some c->c≠b)/\∀p∈X.pn++pins,p.1≠b)
  (keep:∀b o,b≠X.env.locals->b∉X.fs->b∉ch->s.heap.get? b=some o->H b=none->h'.get? b=some o)
  (slot:∀b o,b≠X.env.locals->b∈X.fs->b∉ch->s.heap.get? b=some o->H b=none->∃sl,h'.get? b=some {o with slots:=sl}) (free:∀b o,b∉ch->s.heap.get? b=some o->H b=none->H' b=none)
  (there:∀b o,b∉ch->s.heap.get? b=some o->∃o',h'.get? b=some o')
  (BO:∀b xs,H b=some (.tup xs)->H' b=some (.tup xs)) (AE:∀b o u,H b=some (.frz o u)->H' b=some (.frz o u)) (BQ:∀b ps,H b=some (.tbl ps)->∃more,H' b=some (.tbl (ps++more)))
  (ns:∀m,s.heap.Ns X.env.locals m->h'.Ns X.env.locals m) (bY:qJ X.prog X.w H' h') (hg:AllBare g'):
  Inv X pins σ H' {s with heap:=h',gens:=g',drawn:=d',toks:=t'}:=by
 have y:∀b o,X.s₀.heap.get? b=some o->b≠X.env.locals:=λb o e=>aG9 (aGb (aG2 e) I.ok.above)
 have j:∀b o,X.s₀.heap.get? b=some o->b∉X.ex->b∉ch:=λb o e a hb=>by
  rcases(f b hb).1 with z | z
  ·exact a z
  ·exact absurd (aGb (aG2 e) z) (aHa _)
 have g:∀x c,X.env.cells.lookup x=some c->∀v,s.heap.IsCell c v->h'.IsCell c v:=λx c e v B=>by
  obtain⟨o,ho,hd⟩:=B;have h:c∉ch:=λz=>(f c z).2.2.1 x c e rfl;by_cases D:c∈X.fs
  ·obtain⟨sl,q⟩:=slot c o (I.SY x c e) D h ho (I.l7 x c e);exact⟨_,q,hd⟩
  ·exact⟨o,keep c o (I.SY x c e) D h ho (I.l7 x c e),hd⟩
 refine⟨I.ok,I.os,hg,⟨λb o e n hb a=>?_,λb o e n hb a=>?_,λb o e n a=>?_,λb o e a=>?_,λb xs e=>BO b xs (I.base.BO b xs e),λb o xs e=>AE b o xs (I.base.AE b o xs e),λb ps e=>?_⟩,?_,λx c e=>?_,?_,λx c e=>?_,λp E=>?_,bY,I.len⟩
 ·exact keep b o (y b o e) hb (j b o e a) (I.base.keep b o e n hb a) (I.base.free b o e n a)
 ·obtain⟨sl,t⟩:=I.base.slot b o e n hb a;obtain⟨C,A⟩:=slot b _ (y b o e) hb (j b o e a) t (I.base.free b o e n a);exact⟨C,A⟩
 ·obtain⟨o',t⟩:=I.base.there b o e a;exact free b o' (j b o e a) t (I.base.free b o e n a)
 ·obtain⟨o',t⟩:=I.base.there b o e a;exact there b o' (j b o e a) t
 ·obtain⟨m1,t⟩:=I.base.BQ b ps e;obtain⟨m2,A⟩:=BQ b _ t;exact⟨m1++m2,by rw[A,Array.append_assoc]⟩
 ·obtain⟨m,G,J⟩:=I.loc;refine⟨m,ns m G,λi x v t A K=>?_⟩;obtain⟨u,r,l⟩:=J i x v t A K;refine⟨u,r,?_⟩;rcases l with l | ⟨k,c,e,z⟩
  ·exact .inl l
  ·exact .inr ⟨k,c,e,g x c e _ z⟩
 ·obtain⟨v,z⟩:=I.cell x c e;exact⟨v,g x c e v z⟩
 ·obtain⟨m,⟨o,_,_,ho,_⟩,_⟩:=I.loc;exact free _ o (λz=>(f _ z).2.1 rfl) ho I.free
 ·obtain⟨v,o,ho,hd⟩:=I.cell x c e;exact free c o (λz=>(f c z).2.2.1 x c e rfl) ho (I.l7 x c e)
 ·obtain⟨e,n,ne,F,d⟩:=I.pin p E;have h:p.1∉ch:=λz=>(f p.1 z).2.2.2 p E rfl;exact⟨keep p.1 p.2 ne F h e n,free p.1 p.2 h e n,ne,F,d⟩
theorem Inv.un(I:Inv X pins σ H s)(u:Un X.fs [] H H' s.heap h')(bY:qJ X.prog X.w H' h'):Inv X pins σ H' {s with heap:=h',toks:=t'}:=by
 obtain⟨m,⟨o,i,ep,ho,r⟩,_⟩:=id I.loc;obtain⟨sl,f⟩:=u.any ho I.free (by simp)
 exact I.step (g' :=s.gens) (d' :=s.drawn) (ch:=[]) (λ_ z=>nomatch z) (λb o _ hb _ e n=>u.keep b o e n hb (by simp)) (λb o _ hb _ e n=>u.slot b o e n hb (by simp)) (λb o _ e n=>u.free b o e n (by simp)) (λb o _ e=>u.there b o e (by simp)) u.BO u.AE u.BQ (λj g=>by
  obtain⟨o',c,d,a,h⟩:=g;rw[ho]at a;cases a
  exact⟨_,c,d,f,h⟩) bY I.bare
theorem Inv.call{d' :Drawn}(I:Inv X pins σ H s)(u:Un (NU X.stack) ch H H' s.heap h')(bY:qJ X.prog X.w H' h')(hg:AllBare g')
  (d:∀b∈ch,(b∈X.ex\/X.s₀.heap.objs.size<=b)/\b≠X.env.locals/\(∀x c,X.env.cells.lookup x=some c->c≠b)/\∀p∈X.pn++pins,p.1≠b):
  Inv X pins σ H' {s with heap:=h',gens:=g',drawn:=d',toks:=t'}:=by
 obtain⟨m,⟨o,l,ep,ho,r⟩,_⟩:=id I.loc;obtain⟨sl,g⟩:=u.any ho I.free λz=>(d _ z).2.1 rfl
 exact I.step (ch:=ch) d (λb o g hb a e n=>u.keep b o e n (λz=>(aFx.mp (I.EK b z)).elim g hb) a) (λb o _ _ a e n=>u.any e n a) (λb o a e n=>u.free b o e n a) (λb o a e=>u.there b o e a) u.BO u.AE u.BQ (λq j=>by
  obtain⟨o',h,i,f,k⟩:=j;rw[ho]at f;cases f
  exact⟨_,h,i,g,k⟩) bY hg
theorem Inv.turned{it:Addr}(I:Inv X pins σ H s)(k:∀b o,b≠it->s.heap.get? b=some o->h'.get? b=some o)(g:H it=none)(f:it≠X.env.locals)
  (h:it∈X.ex\/X.s₀.heap.objs.size<=it) (i:∀x c,X.env.cells.lookup x=some c->c≠it) (j:∀p∈X.pn++pins,p.1≠it):Inv X pins σ H {s with heap:=h',toks:=t'}:=by
 have d:∀b u,H b=some u->b≠it:=λb u e z=>by rw[z,g]at e;cases e
 refine I.step (g' :=s.gens) (d' :=s.drawn) (ch:=[it]) (λb hb=>?_) (λb o _ _ a e _=>k b o (λz=>a (by simp[z])) e) (λb o _ _ a e _=>⟨o.slots,k b o (λz=>a (by simp[z])) e⟩) (λ_ _ _ _ n=>n)
  (λb o a e=>⟨o,k b o (λz=>a (by simp[z])) e⟩) (λ_ _ e=>e) (λ_ _ _ e=>e) (λb ps e=>⟨#[],by rw[e];simp⟩) (λm l=>?_) (λb u e=>?_) I.bare
 ·have e:b=it:=by simpa using hb
  subst e;exact⟨h,f,i,j⟩
 ·obtain⟨o,t,ep,ho,r⟩:=l;exact⟨o,t,ep,k _ o (aGr f) ho,r⟩
 ·refine(I.bY b u e).qS (λc v a q=>k c v ?_ q) (λ_ q=>q) λ_ _ q=>q;rcases a with z | z
  ·rw[z];exact d b u e
  ·exact d c _ z
theorem Inv.tok(I:Inv X pins σ H s)(t:Nat):Inv X pins σ H {s with toks:=t}:=I.un (h' :=s.heap) (t' :=t) Un.refl I.bY
theorem Inv.kept(I:Inv X pins σ H s)(k:∀b u,s.heap.get? b=some u->h'.get? b=some u):Inv X pins σ H {s with heap:=h',toks:=t'}:=I.un (Un.kept k) (I.bY.kept k)
theorem Inv.laid{o:HO}(I:Inv X pins σ H s)(k:∀b u,s.heap.get? b=some u->h'.get? b=some u)(c:s.heap.objs.size<=a)(new:cW X.prog X.w (upd H a o) h' a o):
  Inv X pins σ (upd H a o) {s with heap:=h',toks:=t'}:=I.un (Un.laid k c (I.bY.fresh c)) (I.bY.laid k c new)
theorem Inv.write{x e:Addr}{o:HO}(I:Inv X pins σ H s)(c:JZ (H x))(he:e=x\/H e=some (.own x))(k:∀b u,b≠e->s.heap.get? b=some u->h'.get? b=some u)(a:∃u,h'.get? e=some u)
  (new:cW X.prog X.w (upd H x o) h' x o):Inv X pins σ (upd H x o) {s with heap:=h',toks:=t'}:=I.un (Un.write c he k a) (I.bY.write c he k a new)
theorem Inv.weak{a :List (Option V)}(I:Inv X pins σ H s)(b:a.length=σ.length)(w:∀(i:Nat) v,a[i]? =some (some v)->σ[i]? =some (some v)):Inv X pins a H s:=
 ⟨I.ok,I.os,I.bare,I.base,let ⟨m,hn,hl'⟩:=I.loc;⟨m,hn,λi x v c d e=>hl' i x v c (w i v d) e⟩,I.cell,I.free,I.l7,I.pin,I.bY,b.trans I.len⟩
theorem Inv.GY{a :List (Addr×Obj)}(I:Inv X pins σ H s)(h:∀p∈a,s.heap.get? p.1=some p.2/\H p.1=none/\p.1≠X.env.locals/\p.1∉X.fs/\∀v,p.2.data≠ .cell v):Inv X a σ H s:=
 ⟨I.ok,I.os,I.bare,I.base,I.loc,I.cell,I.free,I.l7,λp b=>(aFv.mp b).elim (λz=>I.pin p (aG6 _ z)) (h p),I.bY,I.len⟩
theorem CJ{N:List Str}(hN:N.Nodup){i j:Nat}{x:Str}(a:N[i]? =some x)(b:N[j]? =some x):i=j:=by
 obtain⟨e,c⟩:=aFp.mp a;obtain⟨f,d⟩:=aFp.mp b;exact(List.getElem_inj hN).mp (c.trans d.symm)
variable{Q:Unit->Shared->Prop}
theorem HS{M:Model}{A:Around}{E:aJk}{i:Nat}{x:Str}{v:V}{u:Value}(I:Inv X pins σ H s)(hN:X.N.Nodup)(hi:X.N[i]? =some x)(t:Loc X.env.scope x)(r:RelV v u)
  (h:∀T,Inv X pins (σ.set i (some v)) H T ->(∃a,Heap.SameBut a s.heap T.heap/\(a=X.env.locals\/X.env.cells.lookup x=some a))->Q () T) (hf:X.fn x=true\/X.env.scope.names.lookup x=some .local:=by first | exact .inl rfl | exact .inr rfl | assumption):wpAny M A (storeName X.env x u) Q E s:=by
 obtain⟨m,U,hl⟩:=id I.loc;have J:(X.env.scope.kind== .class || (X.env.scope.kind== .module && X.env.locals !=X.env.globals))=false:=by rw[I.ok.kind];rfl
 have D:i<σ.length:=by rw[I.len];exact(aFp.mp hi).1
 have SY:=I.SY
 have g:∀{a:Addr} {h' :Heap},(∃o,s.heap.get? a=some o/\H a=none)->Heap.SameBut a s.heap h' ->qJ X.prog X.w H h' :=λ{a h'} ha f b ob e=>by
  obtain⟨_,_,B⟩:=ha;refine(I.bY b ob e).qS (λc R hc q=>(f.2 c ?_).trans q) (λ_ q=>q) λ_ _ q=>q;rintro rfl;rcases hc with rfl | hc
  ·rw[B]at e;cases e
  ·rw[B]at hc;cases hc
 rcases t with hk | hk
 ·refine wpAny_storeName_local hk U (λh' W f=>?_) J;obtain⟨oL,_,_,Y,_⟩:=id U;refine h _ ⟨I.ok,I.os,I.bare,⟨λb o e n hb t=>?_,λb o e n hb t=>?_,I.base.free,λb o e t=>?_,I.base.BO,I.base.AE,I.base.BQ⟩,⟨_,W,λj y Z l C e3=>?_⟩,λy c e=>?_,I.free,I.l7,λp hp=>?_,g ⟨oL,Y,I.free⟩ f,by simpa using I.len⟩ ⟨_,f,.inl rfl⟩
  ·exact(f.2 b (aG9 (aGb (aG2 e) I.ok.above))).trans (I.base.keep b o e n hb t)
  ·obtain⟨sl,l⟩:=I.base.slot b o e n hb t;exact⟨sl,(f.2 b (aG9 (aGb (aG2 e) I.ok.above))).trans l⟩
  ·obtain⟨o',l⟩:=I.base.there b o e t;exact⟨o',(f.2 b (aG9 (aGb (aG2 e) I.ok.above))).trans l⟩
  ·by_cases F:j=i
   ·subst F;rw[hi]at l;cases l;rw[List.getElem?_set_self D]at C;cases C;exact⟨u,r,.inl ⟨hk,by simp⟩⟩
   ·rw[List.getElem?_set_ne (Ne.symm F)]at C;obtain⟨u',r',q⟩:=hl j y Z l C e3;refine⟨u',r',?_⟩
    rcases q with ⟨k,e⟩ | ⟨k,c,e,z⟩
    ·refine .inl ⟨k,?_⟩;have:y≠x:=λe=>F (CJ hN l (e▸hi));simp[this,e]
    ·exact .inr ⟨k,c,e,z.sameBut f (SY y c e)⟩
  ·obtain⟨R,z⟩:=I.cell y c e;exact⟨R,z.sameBut f (SY y c e)⟩
  ·obtain⟨e,n,ne,nf,d⟩:=I.pin p hp;exact⟨(f.2 p.1 ne).trans e,n,ne,nf,d⟩
 ·have G:X.fn x=true:=by
   rcases hf with z | z
   ·exact z
   ·rw[z]at hk;cases hk
  obtain⟨c,hc⟩:=I.ok.has x (.inl hk);obtain⟨R,z⟩:=I.cell x c hc;refine wpAny_storeName_cell I.ok.kind hk hc z (λh' K f=>?_);obtain⟨oc,L,O⟩:=id z;refine h {s with heap:=h'} ⟨I.ok,I.os,I.bare,⟨λb o e n hb t=>?_,λb o e n hb t=>?_,I.base.free,λb o e t=>?_,I.base.BO,I.base.AE,I.base.BQ⟩,⟨m,U.sameBut f (aGr (SY x c hc)),λj y Z l C e3=>?_⟩,λy S e=>?_,I.free,I.l7,λp hp=>?_,g ⟨oc,L,I.l7 x c hc⟩ f,by simpa using I.len⟩ ⟨c,f,.inr hc⟩
  ·exact(f.2 b (aG9 (aGb (aG2 e) (I.ok.cab x c G hc)))).trans (I.base.keep b o e n hb t)
  ·obtain⟨sl,l⟩:=I.base.slot b o e n hb t;exact⟨sl,(f.2 b (aG9 (aGb (aG2 e) (I.ok.cab x c G hc)))).trans l⟩
  ·obtain⟨o',l⟩:=I.base.there b o e t;exact⟨o',(f.2 b (aG9 (aGb (aG2 e) (I.ok.cab x c G hc)))).trans l⟩
  ·by_cases F:j=i
   ·subst F;rw[hi]at l;cases l;rw[List.getElem?_set_self D]at C;cases C;exact⟨u,r,.inr ⟨.inl hk,c,hc,K⟩⟩
   ·rw[List.getElem?_set_ne (Ne.symm F)]at C;obtain⟨u',r',q⟩:=hl j y Z l C e3;refine⟨u',r',?_⟩;rcases q with q | ⟨k,S,e,z'⟩
    ·exact .inl q
    ·refine .inr ⟨k,S,e,z'.sameBut f ?_⟩;rintro rfl;exact F (CJ hN l (I.ok.inj _ _ _ e hc▸hi))
  ·by_cases P:S =c
   ·subst P;exact⟨_,K⟩
   ·obtain⟨w2,z2⟩:=I.cell y S e;exact⟨w2,z2.sameBut f P⟩
  ·obtain⟨e,n,ne,nf,d⟩:=I.pin p hp;refine⟨(f.2 p.1 ?_).trans e,n,ne,nf,d⟩;intro q;rw[q,L]at e;have q' :oc=p.2:=aG8 e;exact d R (by rw[<-q'];exact O)
theorem tW{M:Model}{A:Around}{E:aJk}{i:Nat}{x:Str}{v:V}{u:Value}(I:Inv X pins σ H s)(hN:X.N.Nodup)(hi:X.N[i]? =some x)(b:Loc X.env.scope x)(r:RelV v u)
  (h:∀a,Inv X pins (σ.set i (some v)) H a ->Q () a) (c:X.fn x=true\/X.env.scope.names.lookup x=some .local:=by first | exact .inl rfl | exact .inr rfl | assumption):wpAny M A (storeName X.env x u) Q E s:=
 HS I hN hi b r (λa d _=>h a d) c
theorem Inv.aCf{a :Shared}(I:Inv X pins σ H s)(ho:a.os=s.os)(u:Un (NU X.stack) ch H H' s.heap a.heap)(bY:qJ X.prog X.w H' a.heap)(hg:AllBare a.gens)
  (d:∀b∈ch,(b∈X.ex\/X.s₀.heap.objs.size<=b)/\b≠X.env.locals/\(∀x c,X.env.cells.lookup x=some c->c≠b)/\∀p∈X.pn++pins,p.1≠b):Inv X pins σ H' a :=by
 obtain⟨h',g',d',t',o'⟩:=a;have e:o' =s.os:=ho;subst e;exact I.call (g' :=g') (t' :=t') (d' :=d') u bY hg d
end
abbrev XK:=Value->Option Addr->Hp->Prop
abbrev St:=List (Option V)
abbrev VK:=V->Hp->Prop
abbrev TE:=St->Hp->VK->Prop
abbrev TT:=St->Hp->(Bool->Hp->Prop)->Prop
abbrev TA:=St->Hp->(List V->Hp->Prop)->Prop
structure Ends where
 nx:St->Hp->Prop
 rt:VK
 bk:St->Hp->Prop:=λ_ _=>False
 ct:St->Hp->Prop:=λ_ _=>False
abbrev TS:=Ends->St->Hp->Prop
def EP(X:Cx)(pins:List (Addr×Obj))(σ:St)(Q:VK)(u:Value)(a :Shared):Prop:=∃v H',Inv X pins σ H' a /\RelV v u/\Q v H'
def TP(X:Cx)(pins:List (Addr×Obj))(σ:St)(Q:Bool->Hp->Prop)(b:Bool)(a :Shared):Prop:=∃H',Inv X pins σ H' a /\Q b H'
def AP(X:Cx)(pins:List (Addr×Obj))(σ:St)(Q:List V->Hp->Prop)(us:List Value)(a :Shared):Prop:=∃vs H',Inv X pins σ H' a /\Vals vs us/\Q vs H'
def SP(X:Cx)(pins:List (Addr×Obj))(D:Ends)(f:Flow)(b :Shared):Prop:=
 match f with
 | .next=>∃a H',Inv X pins a H' b /\D.nx a H'
 | .brk=>∃a H',Inv X pins a H' b /\D.bk a H'
 | .cont=>∃a H',Inv X pins a H' b /\D.ct a H'
 | .ret u=>∃v a H',Inv X pins a H' b /\RelV v u/\D.rt v H'
def PE(X:Cx)(e:Expr)(t:TE):Prop:=
 ∀(pins:List (Addr×Obj)) (s:Shared) (σ:St) (H:Hp) (Q:VK),Inv X pins σ H s->t σ H Q->wpAny (model X.prog X.w) X.A (eval e X.env) (EP X pins σ Q) X.xe s
def PT(X:Cx)(e:Expr)(t:TT):Prop:=
 ∀(pins:List (Addr×Obj)) (s:Shared) (σ:St) (H:Hp) (Q:Bool->Hp->Prop),Inv X pins σ H s->t σ H Q->wpAny (model X.prog X.w) X.A (isTrue e X.env (eval e X.env)) (TP X pins σ Q) X.xe s
def PW(X:Cx)(e:Expr)(t:TT):Prop:=
 ∀(a:Sem Value) (pins:List (Addr×Obj)) (s:Shared) (σ:St) (H:Hp) (Q:Bool->Hp->Prop),Inv X pins σ H s->t σ H Q->wpAny (model X.prog X.w) X.A (isTrue e X.env a) (TP X pins σ Q) X.xe s
variable{e:Expr}
theorem PW.pt{X:Cx}{t:TT}(h:PW X e t):PT X e t:=h _
def PA(X:Cx)(a:List Expr)(t:TA):Prop:=
 ∀(pos:Pos) (pins:List (Addr×Obj)) (s:Shared) (σ:St) (H:Hp) (Q:List V->Hp->Prop),Inv X pins σ H s->t σ H Q->wpAny (model X.prog X.w) X.A (spliced (backTo pos (starEach a X.env))) (AP X pins σ Q) X.xe s
def PS(X:Cx)(st:Stmt)(t:TS):Prop:=
 ∀(pins:List (Addr×Obj)) (s:Shared) (σ:St) (H:Hp) (D:Ends),Inv X pins σ H s->t D σ H->wpAny (model X.prog X.w) X.A (exec st X.env) (SP X pins D) X.xe s
def A4(X:Cx)(st:List Stmt)(t:TS):Prop:=
 ∀(pins:List (Addr×Obj)) (s:Shared) (σ:St) (H:Hp) (D:Ends),Inv X pins σ H s->t D σ H->wpAny (model X.prog X.w) X.A (execs st X.env) (SP X pins D) X.xe s
variable{A:Around}{E:aJk}{s:Shared}
theorem cA{α:Type}{t:Sem α}{Q b :α->Shared->Prop}{M:Model}(h:wpAny M A t Q E s)(c:∀a s,Q a s->b a s):wpAny M A t b E s:=aGi h c λ_ _ x=>x
section
variable {X:Cx}
def aDi(i:Nat):TE:=λσ H Q=>∃v,σ[i]? =some (some v)/\Q v H
def tC(v:V):TE:=λ_ H Q=>Q v H
variable{x:Str}{pos:Pos}
theorem VU{i:Nat}(hN:X.N[i]? =some x)(f:Vis X.env.scope x)(hd:(x==("__debug__":Str))=false:=by decide)(b:(x==("__classdict__":Str))=false:=by decide):PE X (.Name x pos) (aDi i):=by
 intro pins s σ H Q I h;obtain⟨v,e,h⟩:=h;obtain⟨m,g,j⟩:=I.loc;obtain⟨u,r,l⟩:=j i x v hN e f
 have fin:EP X pins σ Q u s:=⟨v,H,I,r,h⟩
 rcases l with ⟨hk,k⟩ | ⟨hk,c,d,a⟩
 ·exact wpAny_Name (wpAny_loadName_local I.ok.kind hk g k fin) hd
 ·rcases hk with hk | hk
  ·exact wpAny_Name (wpAny_loadName_cell I.ok.kind hk d a fin) hd
  ·exact wpAny_Name (wpAny_loadName_free I.ok.kind hk d a fin b) hd
theorem V0{i j pos}:PE X (.Constant (.int i) j pos) (tC (.int i)):=λ_ _ _ H _ I h=>wpAny_Constant_int ⟨.int i,H,I.tok _,⟨_,rfl⟩,h⟩
theorem aB1{b j pos}:PE X (.Constant (.bool b) j pos) (tC (.bl b)):=λ_ _ _ H _ I h=>Constant_bool ⟨.bl b,H,I,rfl,h⟩
def Gl(X:Cx)(x:Str):Prop:=X.env.kindOf x=some .globalImplicit
variable{pins:List (Addr×Obj)}{u:Value}
theorem G5{σ:St}{Q:aJk}(I:Inv X pins σ H s)(hg:Gl X x)(a:X.mg x=some u)(h:Q u s)
  (hd:(x==("__debug__":Str))=false:=by decide):wpAny (model X.prog X.w) X.A (eval (.Name x pos) X.env) Q E s:=
 Calls.Name_function_global I.ok.kind hg (Calls.loadGlobal_global (by rw[I.ok.glob];exact I.mod.glob.keeps I.bk) a h) hd
theorem oF{σ:St}{Q:aJk}(I:Inv X pins σ H s)(hg:Gl X x)(a:X.mg x=none)(b:bootBuiltins x=some u)(h:Q u s)
  (c:x≠ "__name__":=by decide) (hd:(x==("__debug__":Str))=false:=by decide):wpAny (model X.prog X.w) X.A (eval (.Name x pos) X.env) Q E s:=by
 obtain⟨mb,d,e⟩:=I.mod.blt;exact Calls.Name_function_global I.ok.kind hg (Calls.loadGlobal_builtin (by rw[I.ok.glob];exact I.mod.glob.keeps I.bk) a (by rw[I.ok.blt];exact d.keeps I.bk) ((e x c).trans b) h) hd
theorem QV{v:V}(hg:Gl X x)(a:X.mg x=some u)(r:RelV v u)(hd:(x==("__debug__":Str))=false:=by decide):PE X (.Name x pos) (tC v):=
 λ_ _ _ H _ I h=>G5 I hg a ⟨v,H,I,r,h⟩ hd
theorem QY{v:V}(hg:Gl X x)(a:X.mg x=none)(b:bootBuiltins x=some u)(r:RelV v u)(c:x≠ "__name__":=by decide)(hd:(x==("__debug__":Str))=false:=by decide):PE X (.Name x pos) (tC v):=
 λ_ _ _ H _ I h=>oF I hg a b ⟨v,H,I,r,h⟩ c hd
variable {a b:Expr}{ta tb:TE}{pos:Pos}
theorem MA(b:Expr){a:CmpOp}(h:a≠ .In)(c:a≠ .NotIn):behindInMarks a b=false:=by
 have d:(a==CmpOp.In)=false:=by cases a <;> first | rfl | exact absurd rfl h
 have e:(a==CmpOp.NotIn)=false:=by cases a <;> first | rfl | exact absurd rfl c
 cases b <;> simp[behindInMarks,d,e]
variable {tA tB' :TT}{rest:List Expr}
def aDu(t u:TT):TT:=λσ H Q=>t σ H λc a=>if c=true then u σ a Q else Q false a
def tOr(t u:TT):TT:=λσ H Q=>t σ H λc a=>if c=true then Q true a else u σ a Q
def aDn(t:TT):TT:=λσ H Q=>t σ H λc a=>Q (!c) a
theorem QG(ha:PT X a tA):PW X (.BoolOp .And [a] pos) tA:=by
 intro b pins s σ H Q I h;refine isTrue_and (cA (ha pins s σ H Q I h) λc s1 e=>?_)
 cases c with
 | true=>exact isTrue_and_nil e
 | false=>exact e
theorem VJ(ha:PT X a tA):PW X (.BoolOp .Or [a] pos) tA:=by
 intro b pins s σ H Q I h;refine isTrue_or (cA (ha pins s σ H Q I h) λc s1 e=>?_)
 cases c with
 | false=>exact isTrue_or_nil e
 | true=>exact e
theorem VL(ha:PT X a tA)(hb:PW X (.BoolOp .And (b::rest) pos) tB'):PW X (.BoolOp .And (a::b::rest) pos) (aDu tA tB'):=by
 intro i pins s σ H Q I h;refine isTrue_and (cA (ha pins s σ H _ I h) λc s1 d=>?_);obtain⟨e,f,g⟩:=d
 cases c with
 | true=>exact hb i pins s1 σ e Q f g
 | false=>exact⟨e,f,g⟩
theorem aAt(ha:PT X a tA)(hb:PW X (.BoolOp .Or (b::rest) pos) tB'):PW X (.BoolOp .Or (a::b::rest) pos) (tOr tA tB'):=by
 intro i pins s σ H Q I h;refine isTrue_or (cA (ha pins s σ H _ I h) λc s1 d=>?_);obtain⟨e,f,g⟩:=d
 cases c with
 | true=>exact⟨e,f,g⟩
 | false=>exact hb i pins s1 σ e Q f g
theorem VM(ha:PT X a tA):PT X (.UnaryOp .Not a pos) (aDn tA):=by
 intro pins s σ H Q I h;exact isTrue_not (ha pins s σ H (λc b=>Q (!c) b) I h)
def aAd(ta tb:TE):TE:=λσ H Q=>ta σ H λx a=>∃c,x= .bl c/\if c=true then tb σ a Q else Q (.bl false) a
def aA7(ta:TE):TE:=λσ H Q=>ta σ H λx a=>∃c,x= .bl c/\Q (.bl (!c)) a
theorem VW{op}{t:TE}(h:PE X a t):PE X (.BoolOp op [a] pos) t:=λpins s σ H Q I b=>BoolOp_one (h pins s σ H Q I b)
theorem V1(ha:PE X a ta)(hb:PE X (.BoolOp .And (b::rest) pos) tb):PE X (.BoolOp .And (a::b::rest) pos) (aAd ta tb):=by
 intro pins s σ H Q I h;refine BoolOp_and (cA (ha pins s σ H _ I h) λv s1 e=>?_);obtain⟨x,f,g,i,d⟩:=e;obtain⟨c,rfl,d⟩:=d;cases i;refine aHs ?_
 cases c with
 | true=>exact hb pins s1 σ f Q g d
 | false=>exact⟨.bl false,f,g,rfl,d⟩
theorem VX(ha:PE X a ta):PE X (.UnaryOp .Not a pos) (aA7 ta):=by
 intro pins s σ H Q I h;refine UnaryOp_ (cA (ha pins s σ H _ I h) λv s1 b=>?_);obtain⟨x,e,f,g,d⟩:=b;obtain⟨c,rfl,d⟩:=d;cases g;exact not_of (aHs ⟨.bl (!c),e,f,rfl,d⟩)
def tIf(t:TT)(ta tb:TE):TE:=λσ H Q=>t σ H λc a=>if c=true then ta σ a Q else tb σ a Q
theorem L1{c:Expr}(j:PT X c tA)(ha:PE X a ta)(hb:PE X b tb):PE X (.IfExp c a b pos) (tIf tA ta tb):=by
 intro pins s σ H Q I h;refine wpAny_IfExp (cA (j pins s σ H _ I h) λd s1 e=>?_);obtain⟨f,g,i⟩:=e
 cases d with
 | true=>exact ha pins s1 σ f Q g i
 | false=>exact hb pins s1 σ f Q g i
end
def oV(K:aJj)(H:Hp)(a:Addr)(xs:List V):Prop:=
 Rd H a (.lst xs)\/
  ∃(o:Obj) (aJ:Array Value) (n:Nat),K.lookup a=some o/\o.cls= .type "list"/\o.dict=none/\o.data= .seq aJ n/\aJ.size<=sizeLine/\Vals xs aJ.toList
def oU(K:aJj)(H:Hp)(a:Addr)(xs:List V):Prop:=
 Rd H a (.tup xs)\/
  ∃(o:Obj) (aJ:Array Value) (n:Nat),K.lookup a=some o/\o.cls= .type "tuple"/\o.dict=none/\o.data= .seq aJ n/\aJ.size<=sizeLine/\Vals xs aJ.toList
def aFf:Value->Option V
 | .none=>some .cL
 | .bool b=>some (.bl b)
 | .int i _=>some (.int i)
 | .str x _=>some (.str x)
 | .bytes b _=>some (.byt b)
 | .float b _=>some (.flt b)
 | .ref a=>some (.ref a)
 | .type n=>some (.ty n)
 | _=>none
variable{u:Value}
theorem RelV.abs{x:V}(r:RelV x u):aFf u=some x:=by
 cases x with
 | cL=>cases r;rfl
 | bl _=>cases r;rfl
 | int _=>obtain⟨t,rfl⟩:=r;rfl
 | str _=>obtain⟨t,rfl⟩:=r;rfl
 | byt _=>obtain⟨t,rfl⟩:=r;rfl
 | flt _=>obtain⟨t,rfl⟩:=r;rfl
 | ref _=>cases r;rfl
 | ty _=>cases r;rfl
theorem RelV.inj{x y:V}(r:RelV x u)(q:RelV y u):x=y:=aG8 (r.abs.symm.trans q.abs)
theorem Vals.inj:∀{xs ys:List V} {us:List Value},Vals xs us->Vals ys us->xs=ys
 | _,_,_,.nil,.nil=>rfl
 | _,_,_,.cons r t,.cons r' t' =>by rw[r.inj r',Vals.inj t t']
section
variable {X:Cx}{pins:List (Addr×Obj)}{σ:St}{H:Hp}{s:Shared}{a:Addr}{xs ys:List V}
theorem oV.of{K:aJj}(h:H a=some (.lst xs)):oV K H a xs:= .inl (.inl h)
theorem oU.of{K:aJj}(h:H a=some (.tup xs)):oU K H a xs:= .inl (.inl h)
theorem Inv.list(I:Inv X pins σ H s)(h:oV X.K H a xs):∃aJ:List Value,Vals xs aJ/\PlainL s.heap a aJ.toArray/\xs.length<=sizeLine:=by
 rcases h with h | ⟨o,aJ,n,b,c,hd,d,hz,r⟩
 ·obtain⟨z,aJ,n,r,e⟩:=h.ok I.bY;exact⟨aJ,r,⟨_,n,e,rfl,rfl,rfl⟩,z⟩
 ·refine⟨aJ.toList,r,⟨o,n,I.X1 a o b,c,hd,by simpa using d⟩,?_⟩;have e:=r.length;simp only[Array.length_toList]at e
  lia
theorem Inv.tuple(I:Inv X pins σ H s)(h:oU X.K H a xs):∃aJ:List Value,Vals xs aJ/\IsTup s.heap a aJ.toArray/\xs.length<=sizeLine:=by
 rcases h with h | ⟨o,aJ,n,b,c,_,d,hz,r⟩
 ·obtain⟨z,aJ,r,p,_⟩:=h.ok I.bY;exact⟨aJ,r,p,z⟩
 ·refine⟨aJ.toList,r,⟨o,I.X1 a o b,c,n,by simpa using d⟩,?_⟩;have e:=r.length;simp only[Array.length_toList]at e
  lia
theorem Inv.UY(I:Inv X pins σ H s)(h:oU X.K H a xs):∃ob,s.heap.get? a=some ob/\ob.cls= .type "tuple"/\ob.dict=none:=by
 rcases h with h | ⟨o,aJ,n,b,d,hd,f,hz,r⟩
 ·obtain⟨z,aJ,r,⟨o,e,c,_⟩,nd⟩:=h.ok I.bY;exact⟨o,e,c,nd o e⟩
 ·exact⟨o,I.X1 a o b,d,hd⟩
theorem Inv.CU(I:Inv X pins σ H s)(h:oV X.K H a xs)(h' :oV X.K H a ys):xs=ys:=by
 obtain⟨aJ,r,⟨o,n,e,_,_,d⟩,_⟩:=I.list h;obtain⟨its',c,⟨o',g,b,_,_,d'⟩,_⟩:=I.list h';rw[e]at b;cases b;rw[d]at d';injection d' with f _;have:aJ=its' :=by simpa using aGs Array.toList f
 subst this;exact r.inj c
theorem Inv.w9(I:Inv X pins σ H s)(h:oU X.K H a xs)(h' :oU X.K H a ys):xs=ys:=by
 obtain⟨aJ,r,⟨o,e,_,n,d⟩,_⟩:=I.tuple h;obtain⟨its',c,⟨o',b,_,g,d'⟩,_⟩:=I.tuple h';rw[e]at b;cases b;rw[d]at d';injection d' with f _;have:aJ=its' :=by simpa using aGs Array.toList f
 subst this;exact r.inj c
end
abbrev Cx.v7(X:Cx)(E:aJk):Cx:={X with xe:=E}
abbrev Cx.Q9(X:Cx):Cx:=X.v7 λ_ _=>False
theorem Cx.Ok.v7{X:Cx}(ok:X.Ok)(E:aJk):(X.v7 E).Ok:=
 ⟨ok.mod,ok.kind,ok.glob,ok.blt,ok.above,ok.inj,ok.has,ok.cab,ok.hd,ok.frames,ok.stk,ok.exf,ok.bs,ok.S6,ok.L8,ok.NZ,ok.vG,ok.ZQ⟩
theorem Cx.Ok.lN{X:Cx}(ok:(X.v7 E).Ok):X.Ok:=
 ⟨ok.mod,ok.kind,ok.glob,ok.blt,ok.above,ok.inj,ok.has,ok.cab,ok.hd,ok.frames,ok.stk,ok.exf,ok.bs,ok.S6,ok.L8,ok.NZ,ok.vG,ok.ZQ⟩
section
variable {X:Cx}{pins:List (Addr×Obj)}{σ:St}{H:Hp}{s:Shared}{E:aJk}
theorem Inv.v7(I:Inv X pins σ H s)(E:aJk):Inv (X.v7 E) pins σ H s:=⟨I.ok.v7 E,I.os,I.bare,I.base,I.loc,I.cell,I.free,I.l7,I.pin,I.bY,I.len⟩
theorem Inv.lN(I:Inv (X.v7 E) pins σ H s):Inv X pins σ H s:=⟨I.ok.lN,I.os,I.bare,I.base,I.loc,I.cell,I.free,I.l7,I.pin,I.bY,I.len⟩
theorem SP.lN{D:Ends}{f:Flow}{b :Shared}(h:SP (X.v7 E) pins D f b):SP X pins D f b :=by
 cases f with
 | next=>obtain⟨a,H',I,q⟩:=h;exact⟨a,H',I.lN,q⟩
 | brk=>obtain⟨a,H',I,q⟩:=h;exact⟨a,H',I.lN,q⟩
 | cont=>obtain⟨a,H',I,q⟩:=h;exact⟨a,H',I.lN,q⟩
 | ret u=>obtain⟨v,a,H',I,r,q⟩:=h;exact⟨v,a,H',I.lN,r,q⟩
theorem A4.Q9{st:List Stmt}{t:TS}(h:A4 X.Q9 st t):A4 X st t:=λpins s σ H D I a=>
 aGi (h pins s σ H D (I.v7 _) a) (λ_ _ q=>q.lN) λ_ _ z=>False.elim z
end
section
variable {X:Cx}{st:Stmt}{rest:List Stmt}{t u:TS}{e:Expr}{te:TE}{pos:Pos}
def aA8:TS:=λD σ H=>D.nx σ H
def aDl(t u:TS):TS:=λD σ H=>t {D with nx:=u D} σ H
theorem QN:A4 X [] aA8:=λ_ _ σ H _ I h=>aJ1 ⟨σ,H,I,h⟩
theorem LN(b:PS X st t)(c:A4 X rest u):A4 X (st::rest) (aDl t u):=by
 intro pins s σ H D I h;refine wpAny_execs_cons (cA (b pins s σ H {D with nx:=u D} I h) λf s1 q=>?_)
 cases f with
 | next=>
  obtain⟨a,H',d,q⟩:=q;exact c pins s1 a H' D d q
 | ret v=>exact q
 | brk=>exact q
 | cont=>exact q
theorem QM(a:PS X st t):A4 X [st] t:=by
 intro pins s σ H D I h;refine wpAny_execs_cons (cA (a pins s σ H D I h) λf s1 q=>?_)
 cases f with
 | next=>exact aJ1 q
 | ret v=>exact q
 | brk=>exact q
 | cont=>exact q
def aAa:TS:=λD σ H=>D.ct σ H
theorem CA:PS X (.Continue pos) aAa:=λ_ _ σ H _ I h=>wpAny_Continue ⟨σ,H,I,h⟩
theorem Inv.quiet{pins:List (Addr×Obj)}{σ:St}(I:Inv X pins σ H s):interactive X.env=false:=by simp[interactive,I.ok.kind]
def aA9(te:TE):TS:=λD σ H=>te σ H λ_ a=>D.nx σ a
theorem QO(he:PE X e te)(b:swapsWith e none pos.line X.env=pure false:=by rfl):PS X (.Expr e pos) (aA9 te):=by
 intro pins s σ H D I h;exact wpAny_Expr_any (cA (he pins s σ H _ I h) λv s1 a=>by obtain⟨x,c,d,g,f⟩:=a;exact⟨σ,c,d,f⟩) I.quiet b
def aDm(te:TE):TS:=λD σ H=>te σ H D.rt
theorem VO(he:PE X e te):PS X (.Return (some e) pos) (aDm te):=by
 intro pins s σ H D I h;exact wpAny_Return_some (cA (he pins s σ H _ I h) λv s1 a=>by obtain⟨x,b,c,d,f⟩:=a;exact⟨x,σ,b,c,d,f⟩)
def aDr(c:TT)(t u:TS):TS:=λD σ H=>c σ H λb a=>if b=true then t D σ a else u D σ a
theorem aAu{c:Expr}{a b:List Stmt}{f:TT}(k:PT X c f)(ha:A4 X a t)(hb:A4 X b u):PS X (.If c a b pos) (aDr f t u):=by
 intro pins s σ H D I h;refine wpAny_If (cA (k pins s σ H _ I h) λd s1 e=>?_);obtain⟨g,i,j⟩:=e
 cases d with
 | true=>exact ha pins s1 σ g D i j
 | false=>exact hb pins s1 σ g D i j
end
abbrev TG:=V->St->Hp->(St->Hp->Prop)->Prop
abbrev OW:=List V->St->Hp->(St->Hp->Prop)->Prop
def PG(X:Cx)(a:Expr)(t:TG):Prop:=
 ∀(pins:List (Addr×Obj)) (s:Shared) (σ:St) (H:Hp) (v:V) (u:Value) (Q:St->Hp->Prop),Inv X pins σ H s->RelV v u->t v σ H Q->
  wpAny (model X.prog X.w) X.A (assign a X.env u) (λ_ c =>∃b H',Inv X pins b H' c /\Q b H') X.xe s
def ZI(X:Cx)(ts:List Expr)(t:OW):Prop:=
 ∀(pins:List (Addr×Obj)) (s:Shared) (σ:St) (H:Hp) (vs:List V) (us:List Value) (Q:St->Hp->Prop),Inv X pins σ H s->Vals vs us->t vs σ H Q->
  wpAny (model X.prog X.w) X.A (assignInOrder ((assignEach ts X.env).map (·.2)) us) (λ_ b =>∃a H',Inv X pins a H' b /\Q a H') X.xe s
abbrev ZG:=V->V->V->Hp->(Hp->Prop)->Prop
def aCj(X:Cx)(t:ZG):Prop:=
 ∀(pins:List (Addr×Obj)) (s:Shared) (σ:St) (H:Hp) (o i v:V) (a b u:Value) (Q:Hp->Prop),Inv X pins σ H s->RelV o a->RelV i b->RelV v u->t o i v H Q->
  wpAny (model X.prog X.w) X.A (setItem a b u) (λ_ c =>∃H',Inv X pins σ H' c /\Q H') X.xe s
abbrev TIp:=V->V->Hp->VK->Prop
def PIp(X:Cx)(a:Operator)(t:TIp):Prop:=
 ∀(pins:List (Addr×Obj)) (s:Shared) (σ:St) (H:Hp) (x y:V) (v u:Value) (Q:VK),Inv X pins σ H s->RelV x v->RelV y u->t x y H Q->
  wpAny (model X.prog X.w) X.A (inplaceOp a v u) (EP X pins σ Q) X.xe s
section
variable {X:Cx}{pos:Pos}
def xX(i:Nat):TG:=λv σ H Q=>Q (σ.set i (some v)) H
theorem QT{i:Nat}{x:Str}(hN:X.N.Nodup)(hi:X.N[i]? =some x)(a:Loc X.env.scope x)(b:X.fn x=true\/X.env.scope.names.lookup x=some .local:=by first | exact .inl rfl | exact .inr rfl | assumption):PG X (.Name x pos) (xX i):=by
 intro pins s σ H v u Q I r h;exact wpAny_assign_Name (tW I hN hi a r (λd c =>⟨_,H,c,h⟩) b)
def aC8:OW:=λvs σ H Q=>vs=[]/\Q σ H
def UE(t:TG)(u:OW):OW:=λvs σ H Q=>∃v r,vs=v::r/\t v σ H λa H' =>u r a H' Q
theorem QS:ZI X [] aC8:=by
 intro pins s σ H vs us Q I r h;obtain⟨e,h⟩:=h;subst e;cases r;exact assignInOrder_nil ⟨σ,H,I,h⟩
theorem LZ{b:List Expr}{t:TG}{u:OW}(d:PG X e t)(f:ZI X b u)
  (g:(assignEach (e::b) X.env).map (·.2)=assign e X.env::(assignEach b X.env).map (·.2):=by rfl):ZI X (e::b) (UE t u):=by
 intro pins s σ H vs us Q I r h;obtain⟨v,n,i,h⟩:=h;subst i
 cases r with
 | cons r j=>
  rw[g];refine assignInOrder_cons (cA (d pins s σ H _ _ _ I r h) λ_ s1 a=>?_);obtain⟨c,k,l,m⟩:=a;exact f pins s1 c k _ _ Q l j m
def aC7(K:aJj)(n:Nat)(t:OW):TG:=λv σ H Q=>∃a xs,v= .ref a/\oU K H a xs/\xs.length=n/\t xs σ H Q
theorem VR{c:List Expr}{k:Nat}{t:OW}{n:Nat}(i:X.calm=true)(h:ZI X c t)
  (j:(assignEach c X.env).length=n:=by rfl) (d:(assignEach c X.env).findIdx? (·.1)=none:=by rfl):PG X (.Tuple c k pos) (aC7 X.K n t):=by
 intro pins s σ H v u Q I r f;obtain⟨a,xs,l,m,p,f⟩:=f;subst l;cases r;obtain⟨aJ,g,ht,hz⟩:=I.tuple m;refine assign_Tuple_tuple (I.ok.hd i) ht (by simp[j,<-p,g.length]) d λh' q=>?_;have w:Inv X pins σ H {s with heap:=h'}:=I.kept (t' :=s.toks) λb o e=>q b o (aG9 (aG2 e)) e;exact h pins _ σ H xs _ Q w (by simpa using g) f
def aF7(to a:TE)(t:ZG):TG:=λv σ H Q=>to σ H λo b=>a σ b λi c=>t o i v c λd=>Q σ d
theorem VS{o i:Expr}{to f:TE}{t:ZG}(ho:PE X o to)(hi:PE X i f)(g:aCj X t)
  (ha:∀v,assign (.Subscript o i pos) X.env v=(do
   let a<-holding [v] (eval o X.env)
   let b<-holding [v,a] (eval i X.env)
   standAt pos
   holding [v,a,b] (setItem a b v)
   release [v,a,b] []):=by intro _;rfl):PG X (.Subscript o i pos) (aF7 to f t):=by
 intro pins s σ H v u Q I r h;rw[ha];refine aFo (aGj (cA (ho pins s σ H _ I h) λa s1 c=>?_));obtain⟨x,j,k,l,m⟩:=c;refine aFo (aGj (cA (hi pins s1 σ j _ k m) λb s2 d=>?_));obtain⟨y,n,p,q,w⟩:=d;refine aFo (aI2 (aFo (aGj (cA (g pins s2 σ n x y v a b u _ p l q r w) λ_ C e=>?_))));obtain⟨z,A,B⟩:=e;exact wpAny_release ⟨σ,z,A,B⟩
def U9(te:TE)(g:TG):TS:=λD σ H=>te σ H λx a=>g x σ a D.nx
theorem LQ{tg e:Expr}{te:TE}{g:TG}(he:PE X e te)(hg:PG X tg g)(a:swapsWithSole [tg] e pos.line X.env=pure false:=by rfl)(b:swappedStores [tg] e X.env=pure none:=by rfl)
  (c:(assignEach [tg] X.env).map (·.2)=[assign tg X.env]:=by rfl):PS X (.Assign [tg] e pos) (U9 te g):=by
 intro pins s σ H D I h;refine wpAny_Assign_stores (cA (he pins s σ H _ I h) λv s1 ⟨x,d,f,i,j⟩=>?_) a b;rw[c];exact cA (hg pins s1 σ d x v _ f i j) λ_ s2 q=>q
theorem VN{i:Nat}{x:Str}{te:TE}{a :Pos}(hN:X.N.Nodup)(hi:X.N[i]? =some x)(b:Loc X.env.scope x)(he:PE X e te)(c:swapsWith e (some (.Name x a)) pos.line X.env=pure false:=by rfl)(d:X.fn x=true\/X.env.scope.names.lookup x=some .local:=by first | exact .inl rfl | exact .inr rfl | assumption):
  PS X (.Assign [.Name x a] e pos) (U9 te (xX i)):=by
 intro pins s σ H D I h;refine wpAny_Assign_Name (cA (he pins s σ H _ I h) λv s1 ⟨y,f,g,j,k⟩=>?_) c;exact tW g hN hi b j (λs2 l=>⟨_,f,l,k⟩) d
def aDt(i:Nat)(te:TE)(a:TIp):TS:=λD σ H=>∃x,σ[i]? =some (some x)/\te σ H λy b=>a x y b λz c=>D.nx (σ.set i (some z)) c
theorem VQ{i:Nat}{x:Str}{te:TE}{n:Operator}{q:TIp}{b :Pos}(hN:X.N.Nodup)(hi:X.N[i]? =some x)(o:Loc X.env.scope x)(he:PE X e te)(ho:PIp X n q)(t:X.fn x=true\/X.env.scope.names.lookup x=some .local:=by first | exact .inl rfl | exact .inr rfl | assumption):
  PS X (.AugAssign (.Name x b) n e pos) (aDt i te q):=by
 intro pins s σ H D I h;obtain⟨v,B,h⟩:=h;obtain⟨m,C,E⟩:=I.loc;have p:Vis X.env.scope x:=by rcases o with k | k;exact .inl k;exact .inr (.inl k)
 obtain⟨u,r,l⟩:=E i x v hi B p;refine wpAny_AugAssign_Name ?_
 have go:wpAny (model X.prog X.w) X.A (eval e X.env) (λw d=>wpAny (model X.prog X.w) X.A (inplaceOp n u w) (λr f=>wpAny (model X.prog X.w) X.A (storeName X.env x r) (λ_=>SP X pins D .next) X.xe f) X.xe d) X.xe s:=by
  refine cA (he pins s σ H _ I h) λw s1 g=>?_;obtain⟨y,F,G,J,K⟩:=g;refine cA (ho pins s1 σ F v y u w _ G r J K) λz s2 j=>?_;obtain⟨T,L,M,O,P⟩:=j;exact tW M hN hi o O (λU Q=>⟨_,L,Q,P⟩) t
 rcases l with ⟨hk,R⟩ | ⟨hk,c,S,a⟩
 ·exact wpAny_loadName_local I.ok.kind hk C R go
 ·rcases hk with hk | hk
  ·exact wpAny_loadName_cell I.ok.kind hk S a go
  ·rcases o with k | k
   ·have:X.env.scope.names.lookup x=some .free:=hk;rw[k]at this;cases this
   ·have:X.env.scope.names.lookup x=some .free:=hk;rw[k]at this;cases this
end
section
variable {X:Cx}{pos:Pos}
def U4(c:TT)(tb:TS):TS:=λD σ H=>∃W:Nat->St->Hp->Prop,(∃m,W m σ H)/\∀m σ H,W m σ H->
 c σ H λb d=>if b=true then ∃N:St->Hp->Prop,(∀a H',N a H' ->∃e,e<m/\W e a H')/\tb {D with nx:=N,ct:=N,bk:=D.nx} σ d else D.nx σ d
theorem LP{c:Expr}{body:List Stmt}{t:TT}{tb:TS}(u:PassesOwn (model X.prog X.w) X.A X.env X.xe)(B:PT X c t)(hb:A4 X body tb):PS X (.While c body [] pos) (U4 t tb):=by
 intro pins s σ H D I h;obtain⟨W,⟨m0,C⟩,e⟩:=h;refine wpAny_While (codeAny_whileLoop (λn E =>∃g H',Inv X pins g H' E /\W n g H') ?_ m0 ⟨σ,H,I,C⟩);rintro n s1 ⟨d,x,F,G⟩;refine aHq u (cA (B pins s1 d x _ F (e n d x G)) λb s2 i=>?_);obtain⟨y,z,k⟩:=i
 cases b with
 | true=>
  obtain⟨N,hN,k⟩:=k;rw[if_pos rfl];refine aHq u (cA (hb pins s2 d y _ z k) λf J l=>?_)
  cases f with
  | next=>
   obtain⟨a,j,m,o⟩:=l;obtain⟨p,q,r⟩:=hN a j o;exact⟨p,q,a,j,m,r⟩
  | cont=>
   obtain⟨a,j,m,o⟩:=l;obtain⟨p,q,r⟩:=hN a j o;exact⟨p,q,a,j,m,r⟩
  | brk=>exact l
  | ret v=>exact l
 | false=>
  rw[if_neg Bool.false_ne_true];exact aJ1 ⟨d,y,z,k⟩
end
structure It where
 go:Nat->Hp->Prop
 ZL:Nat->Hp->V->Hp->Prop
 stop:Nat->Hp->Prop
def nC(X:Cx)(pins:List (Addr×Obj))(H:Hp)(b:Addr):Prop:=
 H b=none/\b≠X.env.locals/\b∉X.fs/\(b∈X.ex\/X.s₀.heap.objs.size<=b)/\(∀x c,X.env.cells.lookup x=some c->c≠b)/\∀p∈X.pn++pins,p.1≠b
variable{pins:List (Addr×Obj)}{σ:St}
theorem Inv.NV{X:Cx}{H H' :Hp}(I:Inv X pins σ H s)(hb:s.heap.objs.size<=b)(a:H' b=none):nC X pins H' b:=by
 refine⟨a,aIe (aGb I.lt hb),I.aEr hb,.inr (aGh I.sz hb),λx c e z=>?_,λp d z=>?_⟩
 ·obtain⟨v,q⟩:=I.cell x c e;exact absurd (aGb q.lt (by rw[z];exact hb)) (aHa _)
 ·exact absurd (aGb (aG2 (I.pin p d).1) (by rw[z];exact hb)) (aHa _)
structure Turn(P:Program)(w:World)(K:aJj)(tg:Expr)(J:It)(fp:List Addr)(it:Addr)(tn:Nat->Heap->Prop):Prop where
 mem:it∈fp
 obj:∀i h,tn i h->∀b∈fp,∃o,h.get? b=some o/\∀v,o.data≠ .cell v
 keep:∀i h h',tn i h->(∀b∈fp,∀o,h.get? b=some o->h'.get? b=some o)->tn i h'
 item:∀(X:Cx),X.prog=P->X.w=w->X.K=K->X.calm=true->∀(i:Nat) (pins:List (Addr×Obj)) (s:Shared) (σ:St) (H:Hp) (E:aJk),Inv X pins σ H s->(∀b∈fp,nC X pins H b)->tn i s.heap->J.go i H->
  wpAny (model P w) X.A (pyNext (.ref it)) (λr s1=>∃u,r=some u/\
   wpAny (model P w) X.A (letOwnedTupleGo tg (.ref it) u) (λ_ s2=>∃x H',Inv X pins σ H' s2/\RelV x u/\J.ZL i H x H' /\tn (i+1) s2.heap/\∀b∈fp,H' b=none) E s1) E s
 done:∀(X:Cx),X.prog=P->X.w=w->X.K=K->X.calm=true->∀(i:Nat) (pins:List (Addr×Obj)) (s:Shared) (σ:St) (H:Hp) (E:aJk),Inv X pins σ H s->(∀b∈fp,nC X pins H b)->tn i s.heap->J.stop i H->
  wpAny (model P w) X.A (pyNext (.ref it)) (λr s1=>r=none/\Inv X pins σ H s1) E s
 self:∀(A:Around) (i:Nat) (s:Shared) (Q:aJk) (E:aJk),tn i s.heap->Q (.ref it) s->wpAny (model P w) A (pyIter (.ref it)) Q E s
abbrev TI:=St->Hp->(It->Hp->Prop)->Prop
def PIE(X:Cx)(pins:List (Addr×Obj))(σ:St)(tg:Expr)(R:It->Hp->Prop)(a:Value)(s2:Shared):Prop:=
 ∃(it:Addr) (fp:List Addr) (tn:Nat->Heap->Prop) (J:It) (H' :Hp),a= .ref it/\Inv X pins σ H' s2/\Turn X.prog X.w X.K tg J fp it tn/\tn 0 s2.heap/\(∀b∈fp,nC X pins H' b)/\R J H'
def PI(X:Cx)(tg iter:Expr)(wi:TI):Prop:=
 ∀(pins:List (Addr×Obj)) (s:Shared) (σ:St) (H:Hp) (R:It->Hp->Prop),Inv X pins σ H s->wi σ H R->
  wpAny (model X.prog X.w) X.A (eval iter X.env) (λv s1=>wpAny (model X.prog X.w) X.A (pyIter v) (PIE X pins σ tg R) X.xe s1) X.xe s
variable{tg:Expr}
theorem NS{M:Model}{it:Addr}{n:String}{vs:Array Value}{Q:Unit->Shared->Prop}(ho:s.heap.get? it=some o)(b:o.cls= .type n)(hd:o.data= .fields vs)
    (c:["enumerate","zip","dict_itemiterator","dict_reverseitemiterator","odict_iterator","itertools.zip_longest","itertools.pairwise"].contains n=false) (a:Q () s):wpAny M A (letOwnedTupleGo tg (.ref it) u) Q E s:=by
  unfold letOwnedTupleGo
  cases tg <;> first
    | exact aFq a
    | (cases u <;> first
        | exact aFq a
        | (refine aFo (aJ8 ho ?_)
           rw[b,hd];show wpAny M A (if (["enumerate","zip","dict_itemiterator","dict_reverseitemiterator","odict_iterator","itertools.zip_longest","itertools.pairwise"].contains n && vs[0]? ==some (rawInt _))=true then _ else _) Q E s;rw[if_neg (by intro h;rw[c,Bool.false_and]at h;cases h)]
           exact aFq a))
def Itl(K:aJj)(a:Addr):It:=
 ⟨λi H=>∃xs x,oV K H a xs/\xs[i]? =some x,λi H x H' =>H' =H/\∀xs,oV K H a xs->xs[i]? =some x,λi H=>∃xs,oV K H a xs/\xs.length<=i⟩
def Itt(K:aJj)(a:Addr):It:=
 ⟨λi H=>∃xs x,oU K H a xs/\xs[i]? =some x,λi H x H' =>H' =H/\∀xs,oU K H a xs->xs[i]? =some x,λi H=>∃xs,oU K H a xs/\xs.length<=i⟩
def Itr(lo:Int)(n:Nat):It:=⟨λi _=>i<n,λi H x H' =>H' =H/\x= .int (lo+i),λi _=>n<=i⟩
variable{K:aJj}
theorem HR(a it:Addr):Turn P w K tg (Itl K a) [it] it (λi h=>h.IsListIter it a i) where
 mem:=by simp
 obj:=λi h st b hb=>by
  have e:b=it:=by simpa using hb
  subst e;obtain⟨o,e,c,d⟩:=st;exact⟨o,e,λv z=>by rw[d]at z;cases z⟩
 keep:=λi h h' st k=>st.at λo e=>k it (by simp) o e
 item:=by
  intro X l m n C i pins s σ H E I g st hg;subst l m n;obtain⟨xs,x,j,q⟩:=hg;obtain⟨aJ,r,p,hz⟩:=I.list j;obtain⟨u,D,F⟩:=r.get q;obtain⟨f0,t,G,y,A,B⟩:=g it (by simp);refine wpAny_pyNext_list_item st p.isList (x:=u) (by simpa using D) λh' f sb=>?_;have J:Inv X pins σ H {s with heap:=h'}:=I.turned (t' :=s.toks) (λb o hb e=>(sb.2 b hb).trans e) f0 t y A B;obtain⟨o,e,c,d⟩:=id f;exact⟨u,rfl,NS (s:={s with heap:=h'}) e c d (by decide) ⟨x,H,J,F,⟨rfl,λys L=>by rw[I.CU L j];exact q⟩,f,λb hb=>(g b hb).1⟩⟩
 done:=by
  intro X l m n C i pins s σ H E I g st hg;subst l m n;obtain⟨xs,j,q⟩:=hg;obtain⟨aJ,r,p,hz⟩:=I.list j;obtain⟨f0,t,G,y,A,B⟩:=g it (by simp);have N:=r.length
  exact wpAny_pyNext_list_end (I.ok.hd C) st p.isList (by simp;lia) λh' M=>⟨rfl,I.turned (t' :=s.toks) (λb o hb e=>M b o hb e) f0 t y A B⟩
 self:=λ_ _ _ _ _ st h=>wpAny_pyIter_listiter st h
theorem EH(a it:Addr):Turn P w K tg (Itt K a) [it] it (λi h=>h.IsTupleIter it a i) where
 mem:=by simp
 obj:=λi h st b hb=>by
  have e:b=it:=by simpa using hb
  subst e;obtain⟨o,e,c,d⟩:=st;exact⟨o,e,λv z=>by rw[d]at z;cases z⟩
 keep:=λi h h' st k=>st.at λo e=>k it (by simp) o e
 item:=by
  intro X l m n C i pins s σ H E I g st hg;subst l m n;obtain⟨xs,x,j,q⟩:=hg;obtain⟨aJ,r,p,hz⟩:=I.tuple j;obtain⟨u,D,F⟩:=r.get q;obtain⟨f0,t,G,y,A,B⟩:=g it (by simp);refine wpAny_pyNext_tuple_item st (show s.heap.IsTuple a aJ.toArray from p) (x:=u) (by simpa using D) λh' f sb=>?_;have J:Inv X pins σ H {s with heap:=h'}:=I.turned (t' :=s.toks) (λb o hb e=>(sb.2 b hb).trans e) f0 t y A B;obtain⟨o,e,c,d⟩:=id f;exact⟨u,rfl,NS (s:={s with heap:=h'}) e c d (by decide) ⟨x,H,J,F,⟨rfl,λys L=>by rw[I.w9 L j];exact q⟩,f,λb hb=>(g b hb).1⟩⟩
 done:=by
  intro X l m n C i pins s σ H E I g st hg;subst l m n;obtain⟨xs,j,q⟩:=hg;obtain⟨aJ,r,p,hz⟩:=I.tuple j;obtain⟨f0,t,G,y,A,B⟩:=g it (by simp);have N:=r.length
  exact wpAny_pyNext_tuple_end (I.ok.hd C) st (show s.heap.IsTuple a aJ.toArray from p) (by simp;lia) λh' M=>⟨rfl,I.turned (t' :=s.toks) (λb o hb e=>M b o hb e) f0 t y A B⟩
 self:=λ_ _ _ _ _ st h=>wpAny_pyIter_tupleiter st h
theorem EI(it:Addr)(lo:Int)(n:Nat):Turn P w K tg (Itr lo n) [it] it (λi h=>IsRangeIter h it (lo+(i:Nat)*1) ((n:Int)-(i:Nat)) 1) where
 mem:=by simp
 obj:=λi h st b hb=>by
  have e:b=it:=by simpa using hb
  subst e
  exact⟨_,st,λv z=>by
   have u :Data.fields _=Data.cell v:=z
   cases u⟩
 keep:=λi h h' st k=>k it (by simp) _ st
 item:=by
  intro X d f g j i pins s σ H E I c st hg;subst d f g;obtain⟨f0,l,x,m,p,q⟩:=c it (by simp);have W:=Walks.range (prog:=X.prog) (w:=X.w) (I.ok.hd j) it lo 1 n;refine W.item i s _ _ hg st λv h' r y a kk=>?_;obtain⟨t,rfl⟩:=y;have A:Inv X pins σ H {s with heap:=h',toks:=r}:=I.turned (λb o hb e=>kk b o (by simpa using hb) e) f0 l m p q;refine⟨_,rfl,NS (s:={s with heap:=h',toks:=r}) (n:= "range_iterator") a rfl rfl (by decide) ⟨.int (lo+i),H,A,⟨t,?_⟩,⟨rfl,rfl⟩,a,λb hb=>(c b hb).1⟩⟩;rw[Int.mul_one]
 done:=by
  intro X d f g j i pins s σ H E I c st hg;subst d f g;obtain⟨f0,l,x,m,p,q⟩:=c it (by simp)
  exact wpAny_pyNext_range_end (I.ok.hd j) st (by have:n<=i:=hg;lia) λh' B=>⟨rfl,I.turned (t' :=s.toks) (λb o hb e=>B b o hb e) f0 l m p q⟩
 self:=λ_ _ _ _ _ st h=>wpAny_pyIter_rangeiter st h
section
variable {X:Cx}{tg:Expr}
theorem LJ{R:It->Hp->Prop}{lo hi:Int}{t u v:Tok}{a:Nat}(I:Inv X pins σ H s)(d: -(2^62)<=lo)(f:lo<2^62)(g: -(2^62)<=hi)(h:hi<2^62)
  (q:R (Itr lo (hi-lo).toNat) H):wpAny (model X.prog X.w) X.A (pyIter (.ref s.heap.objs.size)) (PIE X pins σ tg R) E {s with heap:=s.heap.push {cls:= .type "range",data:= .fields #[.int lo t,.int hi u,.int 1 v]},toks:=a}:=by
 refine wpAny_pyIter_range (IsRange.new ..) (small_one d f g h) ?_;have c:Inv X pins σ H {s with heap:=s.heap.push {cls:= .type "range",data:= .fields #[.int lo t,.int hi u,.int 1 v]},toks:=a}:=I.kept λb o e=>aFr _ e
 refine⟨(s.heap.push {cls:= .type "range",data:= .fields #[.int lo t,.int hi u,.int 1 v]}).objs.size,[(s.heap.push {cls:= .type "range",data:= .fields #[.int lo t,.int hi u,.int 1 v]}).objs.size],_,_,H,rfl,
  c.kept (t' :=a) λb o e=>aFr _ e,EI _ lo (hi-lo).toNat,?_,λb hb=>?_,q⟩
 ·have i:lo+((0:Nat):Int)*1=lo:=by simp
  have j:(((hi-lo).toNat:Nat):Int)-((0:Nat):Int)=Builtin.Range.rangeSize lo hi 1:=by rw[rangeSize_one];split <;> lia
  show IsRangeIter _ _ (lo+((0:Nat):Int)*1) ((((hi-lo).toNat:Nat):Int)-((0:Nat):Int)) 1;rw[i,j];exact aFy _ rfl
 ·have e:b=(s.heap.push {cls:= .type "range",data:= .fields #[.int lo t,.int hi u,.int 1 v]}).objs.size:=by simpa using hb
  subst e;exact c.NV (aFw _) (c.bY.fresh (aFw _))
def aC1(a:TA):TI:=λσ H R=>a σ H λvs b=>∃j:Int,vs=[.int j]/\ -(2^62)<=j/\j<2^62/\R (Itr 0 j.toNat) b
theorem IG{a:Expr}{c:TA}{p pos:Pos}(hg:Gl X "range")(d:X.mg "range"=none)(ha:PA X [a] c)(f:starEach [a] X.env=[(false,eval a X.env)]:=by rfl):PI X tg (.Call (.Name "range" p) [a] [] pos) (aC1 c):=by
 intro pins s σ H R I h;refine Call_ (oF I hg d boot_range (aH9 (cA (ha pos pins s σ H _ I h) λus s1 ⟨vs,m,g,i,b⟩=>?_) f rfl));obtain⟨j,e,b,k,q⟩:=b;subst e
 cases i with
 | cons r l=>
  cases l;obtain⟨t,rfl⟩:=r;exact call_range_1 (LJ g (by lia) (by lia) b k (by simpa using q))
def aDs(wi:TI)(g:TG)(tb:TS):TS:=λD σ H=>wi σ H λJ d=>∃W:Nat->Nat->St->Hp->Prop,(∃m,W 0 m σ d)/\∀i m σ H,W i m σ H->
 (J.stop i H/\D.nx σ H)\/(J.go i H/\∃N:St->Hp->Prop,(∀a H',N a H' ->∃c,c<m/\W (i+1) c a H')/\∀x H',J.ZL i H x H' ->g x σ H' λb e=>tb {D with nx:=N,ct:=N,bk:=D.nx} b e)
def qV(fp:List Addr)(h:Heap):List (Addr×Obj):=fp.filterMap λb=>(h.get? b).map λo=>(b,o)
variable{fp:List Addr}
theorem fC(hb:b∈fp)(e:h.get? b=some o):(b,o)∈qV fp h:=List.mem_filterMap.mpr ⟨b,hb,by rw[e];rfl⟩
theorem IL{p:Addr×Obj}(a:p∈qV fp h):p.1∈fp/\h.get? p.1=some p.2:=by
 obtain⟨b,hb,e⟩:=List.mem_filterMap.mp a
 cases q:h.get? b with
 | none=>rw[q]at e;cases e
 | some o=>
  rw[q]at e;have c :(b,o)=p:=aG8 e;subst c;exact⟨hb,q⟩
theorem Inv.pinned(I:Inv X pins σ H s)(c:∀b∈fp,nC X pins H b)(ho:∀b∈fp,∃o,s.heap.get? b=some o/\∀v,o.data≠ .cell v):Inv X (pins++qV fp s.heap) σ H s:=
 I.GY λp f=>(aFv.mp f).elim (λz=>I.pin p (aFz _ z)) λz=>by
  obtain⟨hb,e⟩:=IL z;obtain⟨f0,g,h,_⟩:=c p.1 hb;obtain⟨o,a,d⟩:=ho p.1 hb;rw[e]at a;cases a;exact⟨e,f0,g,h,d⟩
theorem Inv.lO{pins a:List (Addr×Obj)}(I:Inv X (pins++a) σ H s):Inv X pins σ H s:=I.GY λp b=>I.pin p (aFz _ (aG6 _ b))
theorem VP{iter:Expr}{body:List Stmt}{wi:TI}{g:TG}{tb:TS}{pos:Pos}(y:PassesOwn (model X.prog X.w) X.A X.env X.xe)(V:X.calm=true)(hi:PI X tg iter wi)(hg:PG X tg g)(hb:A4 X body tb)
  (hs:∀x,foldedSetIterable iter X.env x=pure x:=by intro _;rfl):PS X (.For tg iter body [] pos) (aDs wi g tb):=by
 intro pins s σ H D I h;refine wpAny_For (cA (hi pins s σ H _ I h) λv s1 h1=>cA h1 λitv s2 h2=>?_) hs;obtain⟨it,fp,tn,J,H2,e,I2,T,O,Y,W,⟨m0,w0⟩,z⟩:=h2;subst e
 have c:∀{H' :Hp},(∀b∈fp,H' b=none)->∀b∈fp,nC X pins H' b:=λhn b hb=>⟨hn b hb,(Y b hb).2⟩
 refine codeAny_forLoop_any (λn Z =>∃i j H',Inv X pins j H' Z /\tn i Z.heap/\(∀b∈fp,H' b=none)/\W i n j H') ?_ m0 ⟨0,σ,H2,I2,O,λb hb=>(Y b hb).1,w0⟩;rintro n s3 ⟨i,k,M,I3,B,C,w3⟩
 rcases z i n k M w3 with ⟨stop,qn⟩ | ⟨go,N,hN,step⟩
 ·refine aHq y (cA (T.done X rfl rfl rfl V i pins s3 k M X.xe I3 (c C) B stop) λr s4 E=>?_);obtain⟨P,I4⟩:=E;subst P;exact aJ1 ⟨k,M,I4,qn⟩
 ·refine aHq y (cA (T.item X rfl rfl rfl V i pins s3 k M X.xe I3 (c C) B go) λr s4 F=>?_);obtain⟨u,P,h4⟩:=F;subst P;refine aHq y (cA h4 λ_ s5 G=>?_);obtain⟨x,H5,I5,r5,y5,t,Q⟩:=G;have R :=I5.pinned (c Q) (T.obj _ _ t);refine aHq y (cA (hg _ s5 k H5 x u _ R r5 (step x H5 y5)) λ_ s6 K=>?_);obtain⟨S,H6,I6,q6⟩:=K;refine aHq y (cA (hb _ s6 S H6 _ I6 q6) λf U q=>?_)
  have again:∀{a:St} {l:Hp},Inv X (pins++qV fp s5.heap) a l U->N a l->∃m,m<n/\∃i j H',Inv X pins j H' U/\tn i U.heap/\(∀b∈fp,H' b=none)/\W i m j H' :=λ{a l} p L=>by
   obtain⟨m',hm,w7⟩:=hN a l L;refine⟨m',hm,i+1,a,l,p.lO,T.keep _ _ _ t λb hb o e=>(p.pin (b,o) (aFz _ (aFz _ (fC hb e)))).1,λb hb=>?_,w7⟩;obtain⟨o,e,d⟩:=T.obj _ _ t b hb;exact(p.pin (b,o) (aFz _ (aFz _ (fC hb e)))).2.1
  cases f with
  | next=>obtain⟨a,l,p,L⟩:=q;exact again p L
  | cont=>obtain⟨a,l,p,L⟩:=q;exact again p L
  | brk=>obtain⟨a,l,p,q⟩:=q;exact⟨a,l,p.lO,q⟩
  | ret v=>obtain⟨x7,a,l,p,r7,q⟩:=q;exact⟨x7,a,l,p.lO,r7,q⟩
end
abbrev R2:=V->V->Hp->VK->Prop
def dO(X:Cx)(f:Value->Value->Sem Value)(r:R2):Prop:=
 ∀(pins:List (Addr×Obj)) (s:Shared) (σ:St) (H:Hp) (x y:V) (v u:Value) (Q:VK),Inv X pins σ H s->RelV x v->RelV y u->r x y H Q->
  wpAny (model X.prog X.w) X.A (f v u) (EP X pins σ Q) X.xe s
def ZT(X:Cx)(f:Value->Sem Value)(r:V->Hp->VK->Prop):Prop:=
 ∀(pins:List (Addr×Obj)) (s:Shared) (σ:St) (H:Hp) (x:V) (v:Value) (Q:VK),Inv X pins σ H s->RelV x v->r x H Q->
  wpAny (model X.prog X.w) X.A (f v) (EP X pins σ Q) X.xe s
def cX(X:Cx)(f:Value)(r:List V->Hp->VK->Prop):Prop:=
 ∀(pins:List (Addr×Obj)) (s:Shared) (σ:St) (H:Hp) (xs:List V) (us:List Value) (Q:VK),Inv X pins σ H s->Vals xs us->r xs H Q->
  wpAny (model X.prog X.w) X.A (call f us) (EP X pins σ Q) X.xe s
def aFg(X:Cx)(r:V->Hp->(Bool->Hp->Prop)->Prop):Prop:=
 ∀(pins:List (Addr×Obj)) (s:Shared) (σ:St) (H:Hp) (x:V) (v:Value) (Q:Bool->Hp->Prop),Inv X pins σ H s->RelV x v->r x H Q->
  wpAny (model X.prog X.w) X.A (truthy v) (TP X pins σ Q) X.xe s
def tOp(r:R2)(a tb:TE):TE:=λσ H Q=>a σ H λx b=>tb σ b λy c=>r x y c Q
def tUn(r:V->Hp->VK->Prop)(a:TE):TE:=λσ H Q=>a σ H λx b=>r x b Q
def rI(C:Int->Int->Prop)(g:Int->Int->V):R2:=λx y H Q=>∃i j,x= .int i/\y= .int j/\C i j/\Q (g i j) H
def OT(g:Int->Int->V):R2:=λx y H Q=>∃i j,x= .int i/\y= .int j/\Q (g i j) H
def rU(g:Int->V):V->Hp->VK->Prop:=λx H Q=>∃i,x= .int i/\Q (g i) H
section
variable {X:Cx}{a b c:Expr}{ta tb tc:TE}{pos:Pos}
variable{f:Value->Value->Sem Value}
theorem Y9(ha:PE X a ta)(hb:PE X b tb){R:V->V->Hp->Prop}(I:Inv X pins σ H s)
  (h:ta σ H λx j=>tb σ j λy c=>R x y c) {Q:aJk} 
  (k:∀v u s2 x y c,Inv X pins σ c s2->RelV x v->RelV y u->R x y c->wpAny (model X.prog X.w) X.A (f v u) Q X.xe s2):
  wpAny (model X.prog X.w) X.A (eval a X.env) (λv d=>wpAny (model X.prog X.w) X.A (eval b X.env) (λu e=>wpAny (model X.prog X.w) X.A (f v u) Q X.xe e) X.xe d) X.xe s:=by
 refine cA (ha pins s σ H _ I h) λv s1 g=>?_;obtain⟨x,j,l,m,n⟩:=g;refine cA (hb pins s1 σ j _ l n) λu s2 i=>?_;obtain⟨y,c,o,p,q⟩:=i;exact k v u s2 x y c o m p q
theorem aAx{c:Operator}{r:R2}(ho:dO X (binaryOp c) r)(ha:PE X a ta)(hb:PE X b tb):PE X (.BinOp a c b pos) (tOp r ta tb):=by
 intro pins s σ H Q I h;exact wpAny_BinOp (Y9 ha hb I h λv u s2 x y d e f g q=>ho pins s2 σ d x y v u Q e f g q)
theorem aAw{c:UnaryOp}{r:V->Hp->VK->Prop}(ho:ZT X (unaryOp c) r)(ha:PE X a ta):PE X (.UnaryOp c a pos) (tUn r ta):=by
 intro pins s σ H Q I h;exact UnaryOp_ (cA (ha pins s σ H _ I h) λv s1 b=>by obtain⟨x,d,e,f,g⟩:=b;exact ho pins s1 σ d x v Q e f g)
variable{g:Int->Int->Int}
theorem opI{C:Int->Int->Prop}
  (rule:∀(i j:Int) (t u:Tok) (s:Shared) (Q:aJk) (E:aJk),C i j->Q (.int (g i j) s.toks) {s with toks:=s.toks+1}->wpAny (model X.prog X.w) X.A (f (.int i t) (.int j u)) Q E s):
  dO X f (rI C λi j=>.int (g i j)):=by
 intro pins s σ H x y v u Q I a b h;obtain⟨i,j,rfl,rfl,c,q⟩:=h;obtain⟨t,rfl⟩:=a;obtain⟨t',rfl⟩:=b;exact rule i j t t' s _ _ c ⟨.int (g i j),H,I.tok _,⟨_,rfl⟩,q⟩
theorem WB
  (rule:∀(i j:Int) (t u:Tok) (s:Shared) (Q:aJk) (E:aJk),Q (.int (g i j) s.toks) {s with toks:=s.toks+1}->wpAny (model X.prog X.w) X.A (f (.int i t) (.int j u)) Q E s):
  dO X f (OT λi j=>.int (g i j)):=by
 intro pins s σ H x y v u Q I a b h;obtain⟨i,j,rfl,rfl,q⟩:=h;obtain⟨t,rfl⟩:=a;obtain⟨t',rfl⟩:=b;exact rule i j t t' s _ _ ⟨.int (g i j),H,I.tok _,⟨_,rfl⟩,q⟩
theorem Q4{g:Int->Int->Bool}
  (rule:∀(i j:Int) (t u:Tok) (s:Shared) (Q:aJk) (E:aJk),Q (.bool (g i j)) s->wpAny (model X.prog X.w) X.A (f (.int i t) (.int j u)) Q E s):
  dO X f (OT λi j=>.bl (g i j)):=by
 intro pins s σ H x y v u Q I a b h;obtain⟨i,j,rfl,rfl,q⟩:=h;obtain⟨t,rfl⟩:=a;obtain⟨t',rfl⟩:=b;exact rule i j t t' s _ _ ⟨.bl (g i j),H,I,rfl,q⟩
def aCl(i j:Int):Prop:=0<j/\j<1073741824
def ZK(i j:Int):Prop:=0<=j/\j<=1000000/\i.natAbs<2^64
def J3(i j:Int):Prop:=(-(2^64)<i/\i<2^64)\/(-(2^64)<j/\j<2^64)
theorem J3.ok{i j:Int}(h:J3 i j):IntMulOk i j:=by
 rcases h with ⟨a,b⟩ | ⟨a,b⟩
 ·exact .of_left (intBits_le_64 a b)
 ·exact .of_right (intBits_le_64 a b)
theorem V9:dO X (binaryOp .Add) (OT λi j=>.int (i+j)):=WB λ_ _ _ _ _ _ _ q=>add_int q
theorem V4:dO X (binaryOp .Sub) (OT λi j=>.int (i-j)):=WB λ_ _ _ _ _ _ _ q=>sub_int q
theorem V6:dO X (binaryOp .Mult) (rI J3 λi j=>.int (i*j)):=opI λ_ _ _ _ _ _ _ a q=>mul_int q a.ok
theorem Q2:dO X (binaryOp .FloorDiv) (rI aCl λi j=>.int (i / j)):=opI λi j _ _ _ _ _ a q=>by
 have b:(0:Int)<j:=a.1;have c:j<1073741824:=a.2;exact floordiv_int (by lia) (by rw[Int.fdiv_eq_ediv_of_nonneg i (by lia)];exact q) (.inl (PyProof.noPylong_small (by lia)))
theorem V7:dO X (binaryOp .Mod) (rI (λ_ j=>0<j) λi j=>.int (i % j)):=opI λi j _ _ _ _ _ a q=>by
 have b:(0:Int)<j:=a;exact mod_int' (by lia) (by rw[Int.fmod_eq_emod_of_nonneg i (by lia)];exact q)
theorem V5:dO X (binaryOp .Pow) (rI ZK λi j=>.int (i^j.toNat)):=opI λ_ _ _ _ _ _ _ a q=>pow_int_small a.1 a.2.1 a.2.2 q
theorem SH:dO X (inplaceOp .Add) (OT λi j=>.int (i+j)):=WB λ_ _ _ _ _ _ _ q=>iadd_int q
theorem unI{f:Value->Sem Value}{g:Int->Int}
  (rule:∀(i:Int) (t:Tok) (s:Shared) (Q:aJk) (E:aJk),Q (.int (g i) s.toks) {s with toks:=s.toks+1}->wpAny (model X.prog X.w) X.A (f (.int i t)) Q E s):
  ZT X f (rU λi=>.int (g i)):=by
 intro pins s σ H x v Q I a h;obtain⟨i,rfl,q⟩:=h;obtain⟨t,rfl⟩:=a;exact rule i t s _ _ ⟨.int (g i),H,I.tok _,⟨_,rfl⟩,q⟩
theorem UU:ZT X (unaryOp .USub) (rU λi=>.int (-i)):=unI λ_ _ _ _ _ q=>neg_int q
end
section
variable {X:Cx}{a b c:Expr}{ta tb tc:TE}{pos:Pos}
theorem NX{Q:VK}{k a :Bool}(I:Inv X pins σ H s)(q:Q (.bl k) H)(e:k=a):EP X pins σ Q (.bool a) s:=by
 subst e;exact⟨.bl k,H,I,rfl,q⟩
theorem aB3:dO X (compareOp .Lt) (OT λi j=>.bl (decide (i<j))):=Q4 λ_ _ _ _ _ _ _ q=>lt_int q
theorem aB4:dO X (compareOp .LtE) (OT λi j=>.bl (decide (i<=j))):=Q4 λ_ _ _ _ _ _ _ q=>le_int q
theorem aB5:dO X (compareOp .Gt) (OT λi j=>.bl (decide (j<i))):=Q4 λ_ _ _ _ _ _ _ q=>gt_int q
theorem aB6:dO X (compareOp .GtE) (OT λi j=>.bl (decide (j<=i))):=Q4 λ_ _ _ _ _ _ _ q=>ge_int q
theorem IJ:dO X (compareOp .Lt) (λx y H Q=>∃i j,x= .str i/\y= .str j/\Q (.bl (decide (i.cps.toList<j.cps.toList))) H):=by
 intro pins s σ H x y v u Q I a b h;obtain⟨i,j,rfl,rfl,q⟩:=h;obtain⟨t,rfl⟩:=a;obtain⟨t',rfl⟩:=b;exact lt_str (NX I q rfl)
theorem IK:dO X (compareOp .In) (λx y H Q=>∃i j,x= .str i/\y= .str j/\Q (.bl (!(Builtin.Str.occurrences j i 0 j.length 1).isEmpty)) H):=by
 intro pins s σ H x y v u Q I a b h;obtain⟨i,j,rfl,rfl,q⟩:=h;obtain⟨t,rfl⟩:=a;obtain⟨t',rfl⟩:=b;exact in_str (NX I q rfl)
variable{op:CmpOp}
theorem QW{r:R2}(ho:dO X (compareOp op) r)(ha:PE X a ta)(hb:PE X b tb)(c:behindInMarks op b=false):PE X (.Compare a [op] [b] pos) (tOp r ta tb):=by
 intro pins s σ H Q I h;exact wpAny_Compare1 (Y9 ha hb I h λv u s2 x y d e f g q=>ho pins s2 σ d x y v u Q e f g q) c
def KS(t:TE):TT:=λσ H Q=>t σ H λx H' =>∃k,x= .bl k/\Q k H'
theorem QL{r:R2}(ho:dO X (compareOp op) r)(ha:PE X a ta)(hb:PE X b tb)(d:behindInMarks op b=false):PT X (.Compare a [op] [b] pos) (KS (tOp r ta tb)):=by
 intro pins s σ H Q I h
 refine wpAny_isTrue_Compare1 (cA (ha pins s σ H _ I h) λv s1 ⟨x,f,g,i,j⟩=>cA (hb pins s1 σ f _ g j) λu s2 ⟨y,l,m,n,o⟩=>
  cA (ho pins s2 σ l x y v u _ m i n o) λc A ⟨z,p,q,t,k,e,w⟩=>?_) d
 subst e;cases t;exact aHs ⟨p,q,w⟩
def KW(r b :R2)(ta tb tc:TE):TE:=λσ H Q=>ta σ H λx c=>tb σ c λy d=>r x y d λz a=>∃k,z= .bl k/\
 (if k=true then tc σ a λe f=>b y e f Q else Q (.bl false) a)
theorem LM{op f :CmpOp}{r j :R2}(ho:dO X (compareOp op) r)(i :dO X (compareOp f) j)(ha:PE X a ta)(hb:PE X b tb)(p:PE X c tc)
  (q:lastMarks [op,f] [b,c]=false:=by with_unfolding_all rfl):PT X (.Compare a [op,f] [b,c] pos) (KS (KW r j ta tb tc)):=by
 intro pins s σ H Q I h
 refine isTrue_chain (cA (ha pins s σ H _ I h) λv s1 ⟨x,t,w,A,B⟩=>test_link (cA (hb pins s1 σ t _ w B) λu s2 ⟨y,C,D,l,E⟩=>
  cA (ho pins s2 σ C x y v u _ D A l E) λd F ⟨z,m,n,G,k,e,o⟩=>?_)) q
 subst e;cases G;refine aHs ?_
 cases k with
 | false=>
  obtain⟨Z,J,K⟩:=o;cases J;exact ite_ff ⟨m,n,K⟩
 | true=>
  refine ite_tt (test_last (cA (p pins F σ m _ n o) λL M ⟨N,O,P,R,S⟩=>cA (i pins M σ O y N u L _ P l R S) λd' s5 g=>?_));obtain⟨z2,T,U,V,k2,W,Y⟩:=g;subst W;cases V;exact aHs ⟨T,U,Y⟩
def ZE(K:aJj)(x:V)(H:Hp)(k:Bool):Prop:=
 match x with
 | .cL=>k=false
 | .bl b=>k=b
 | .int i=>k=(i !=0)
 | .str y=>y.length<=sizeLine/\k=((y.length:Int) !=0)
 | .byt y=>y.size<=sizeLine/\k=((y.size:Int) !=0)
 | .ref p=>(∃xs,oV K H p xs/\k= !xs.isEmpty)\/(∃xs,oU K H p xs/\k= !xs.isEmpty)\/∃kvs,H p=some (.dK kvs)/\k= !kvs.isEmpty
 | _=>False
theorem FI{κ:Type}{kvs:List (κ×V)}{vs:List (κ×Value)}(r:KV kvs vs):(!vs.isEmpty)= !kvs.isEmpty:=by
 cases r <;> rfl
theorem vE{xs:List V}{aJ:List Value}(r:Vals xs aJ):(!aJ.toArray.isEmpty)= !xs.isEmpty:=by
 cases r <;> simp
theorem lX:(sizeLine:Nat)<2^63:=by rw[sizeLine_eq];decide
theorem UZ:aFg X (λx H Q=>∃k,ZE X.K x H k/\Q k H):=by
 intro pins s σ H x v Q I d h;obtain⟨k,e,q⟩:=h;have n:=lX;have o:sizeLine=16777216:=aGe
 cases x with
 | cL=>
  cases d;have a :k=false:=e;subst a;exact truthy_none ⟨H,I,q⟩
 | bl b=>
  cases d;have a :k=b:=e;subst a;exact aHs ⟨H,I,q⟩
 | int i=>
  obtain⟨t,rfl⟩:=d;have a :k=(i !=0):=e;subst a;exact PySem.P.truthy_int ⟨H,I,q⟩
 | str y=>
  obtain⟨t,rfl⟩:=d;obtain⟨j,a⟩:y.length<=sizeLine/\k=((y.length:Int) !=0):=e;subst a;exact PySem.P.truthy_str (by lia) ⟨H,I.tok _,q⟩
 | byt y=>
  obtain⟨t,rfl⟩:=d;obtain⟨j,a⟩:y.size<=sizeLine/\k=((y.size:Int) !=0):=e;subst a;exact PySem.W.truthy_bytes (by lia) ⟨H,I.tok _,q⟩
 | ref p=>
  cases d;have a :(∃xs,oV X.K H p xs/\k= !xs.isEmpty)\/(∃xs,oU X.K H p xs/\k= !xs.isEmpty)\/∃kvs,H p=some (.dK kvs)/\k= !kvs.isEmpty:=e
  rcases a with ⟨xs,f,a⟩ | ⟨xs,f,a⟩ | ⟨kvs,f,a⟩
  ·subst a;obtain⟨aJ,r,g,hz⟩:=I.list f;have c:=r.length;exact wpAny_truthy_list g.isList (by simp only[List.size_toArray];lia) ⟨H,I.tok _,by rw[vE r];exact q⟩
  ·subst a;obtain⟨aJ,r,g,hz⟩:=I.tuple f;have c:=r.length;exact truthy_tuple g (by simp only[List.size_toArray];lia) ⟨H,I.tok _,by rw[vE r];exact q⟩
  ·subst a;obtain⟨hz,l,vs,r,m⟩:kvs.length<=sizeLine/\(p==sysModules)=false/\∃vs,KV kvs vs/\s.heap.DictOf (aW X.prog X.w) p vs:=I.bY p _ f;have c:kvs.length=vs.length:=Paired.length r;exact wpAny_truthy_dict l m (by lia) ⟨H,I.tok _,by rw[FI r];exact q⟩
 | _=>exact(show False from e).elim
theorem LL(ha:PE X a ta)(he:∀b,isTrue a X.env b=(do let v<-b;standAt a.pos;holding [v] (truthy v))):
  PT X a (λσ H Q=>ta σ H λx H' =>∃k,ZE X.K x H' k/\Q k H'):=by
 intro pins s σ H Q I h;exact isTrue_plain (cA (ha pins s σ H _ I h) λv s1 c=>by obtain⟨x,d,e,f,g⟩:=c;exact UZ pins s1 σ d x v Q e f g) (he _)
theorem E1:dO X (binaryOp .Add) (λx y H Q=>∃i j,x= .str i/\y= .str j/\i.length+j.length<=sizeLine/\Q (.str (i++j)) H):=by
 intro pins s σ H x y v u Q I a b h;obtain⟨i,j,rfl,rfl,hz,q⟩:=h;obtain⟨t,rfl⟩:=a;obtain⟨t',rfl⟩:=b;exact add_str (λt' c=>⟨.str (i++j),H,I.tok _,⟨_,rfl⟩,q⟩) hz
theorem DB:dO X (inplaceOp .Add) (λx y H Q=>∃i j,x= .str i/\y= .str j/\i.length+j.length<=sizeLine/\Q (.str (i++j)) H):=by
 intro pins s σ H x y v u Q I a b h;obtain⟨i,j,rfl,rfl,hz,q⟩:=h;obtain⟨t,rfl⟩:=a;obtain⟨t',rfl⟩:=b;exact iadd_str (λt' c=>⟨.str (i++j),H,I.tok _,⟨_,rfl⟩,q⟩) hz
theorem vals1{x:V}(r:Vals [x] us):∃u,us=[u]/\RelV x u:=by
 cases r with
 | cons a b=>cases b;exact⟨_,rfl,a⟩
theorem vals2{x y:V}(r:Vals [x,y] us):∃u a,us=[u,a]/\RelV x u/\RelV y a :=by
 cases r with
 | cons b c=>
  cases c with
  | cons d e=>cases e;exact⟨_,_,rfl,b,d⟩
theorem OE:cX X (.builtin "abs") (λxs H Q=>∃i,xs=[.int i]/\Q (.int (if i<0 then -i else i)) H):=by
 intro pins s σ H xs us Q I r h;obtain⟨i,rfl,q⟩:=h;obtain⟨u,rfl,t,rfl⟩:=vals1 r
 exact call_abs_int λu a=>⟨.int (if i<0 then -i else i),H,I.tok _,⟨_,rfl⟩,q⟩
theorem JS(b:X.calm=true):cX X (.builtin "max") (λxs H Q=>∃i j,xs=[.int i,.int j]/\Q (.int (if j > i then j else i)) H):=by
 intro pins s σ H xs us Q I r h;obtain⟨i,j,rfl,q⟩:=h;obtain⟨u,c,rfl,⟨t,rfl⟩,⟨t',rfl⟩⟩:=vals2 r
 refine max_two_ints (I.ok.hd b) λh' d k=>⟨_,H,I.kept k,?_,q⟩
 by_cases a:j > i
 ·rw[if_pos a,if_pos a];exact⟨_,rfl⟩
 ·rw[if_neg a,if_neg a];exact⟨_,rfl⟩
theorem JR(b:X.calm=true):cX X (.builtin "min") (λxs H Q=>∃i j,xs=[.int i,.int j]/\Q (.int (if j<i then j else i)) H):=by
 intro pins s σ H xs us Q I r h;obtain⟨i,j,rfl,q⟩:=h;obtain⟨u,c,rfl,⟨t,rfl⟩,⟨t',rfl⟩⟩:=vals2 r
 refine min_two_ints (I.ok.hd b) λh' d k=>⟨_,H,I.kept k,?_,q⟩
 by_cases a:j<i
 ·rw[if_pos a,if_pos a];exact⟨_,rfl⟩
 ·rw[if_neg a,if_neg a];exact⟨_,rfl⟩
end
theorem sH.some_of{v:V}{o:Option Value}(r:sH (some v) o):∃u,o=some u/\RelV v u:=by
 cases o with
 | none=>exact(show False from r).elim
 | some u=>exact⟨u,rfl,r⟩
structure gC(k:Nat)(A:Around):Prop where
 hd:A.handled=none
 dp:A.depth+3*k+5<recursionLimit
 un:A.units+16*k+200<cLine
theorem gC.mono{j k:Nat}(r:gC k A)(h:j<=k):gC j A:=⟨r.hd,by have:=r.dp;lia,by have:=r.un;lia⟩
theorem gC.deeper{k:Nat}(r:gC (k+1) A)(env:Env):gC k (A.deeper env):=
 ⟨r.hd,by have:=r.dp;show A.depth+1+3*k+5<_;lia,by have:=r.un;show A.units+3+16*k+200<_;lia⟩
theorem gC.depth{k:Nat}(r:gC k A):A.depth<recursionLimit:=by have:=r.dp;lia
theorem gC.units{k:Nat}(r:gC k A):A.units+64<cLine:=by have:=r.un;lia
def U5:TA:=λ_ H Q=>Q [] H
def KU(a:TE)(tr:TA):TA:=λσ H Q=>a σ H λx b=>tr σ b λxs c=>Q (x::xs) c
section
variable {X:Cx}{e:Expr}{es:List Expr}{te:TE}{t:TA}{pos:Pos}
theorem zG:PA X [] U5:=λ_ _ _ _ H Q I h=>Calls.spliced_nil ⟨[],H,I,.nil,h⟩
theorem sS(ha:PE X e te)(c:PA X es t)(d:starEach (e::es) X.env=(false,eval e X.env)::starEach es X.env:=by rfl):PA X (e::es) (KU te t):=by
 intro pos pins s σ H Q I h;rw[d];show wpAny _ _ (spliced ((false,eval e X.env)::backTo pos (starEach es X.env))) _ _ s;refine aIm (cA (ha pins s σ H _ I h) λu s1 a=>?_);obtain⟨x,f,g,i,j⟩:=a;exact cA (c pos pins s1 σ f _ g j) λus s2 b=>by obtain⟨xs,k,l,m,n⟩:=b;exact⟨x::xs,k,l,.cons i m,n⟩
def aDj(t:TA):TE:=λσ H Q=>t σ H λxs a=>xs.length<=sizeLine/\∀p,a p=none->Q (.ref p) (upd a p (.tup xs))
def aDo(t:TA):TE:=λσ H Q=>t σ H λxs a=>xs.length<=sizeLine/\∀p,a p=none->Q (.ref p) (upd a p (.lst xs))
theorem VV{x1}(h:PA X es t):PE X (.Tuple es x1 pos) (aDj t):=by
 intro pins s σ H Q I d;refine wpAny_Tuple_spliced (cA (h pos pins s σ H _ I d) λus s1 ⟨xs,a,c,r,z,q⟩=>⟨by rw[<-r.length];exact z,?_⟩);have f:a s1.heap.objs.size=none:=c.bY.fresh (aFw _);refine⟨.ref s1.heap.objs.size,upd a s1.heap.objs.size (.tup xs),c.laid (t' :=s1.toks) (λb u e=>aFr _ e) (aFw _) ?_,rfl,q _ f⟩;exact⟨z,us,r,⟨_,aFy _ rfl,rfl,_,rfl⟩,y8 _ _⟩
theorem VY(h:PA X es t):PE X (.List es pos) (aDo t):=by
 intro pins s σ H Q I d;refine wpAny_List_spliced (cA (h pos pins s σ H _ I d) λus s1 ⟨xs,a,c,r,z,q⟩=>⟨by rw[<-r.length];exact z,?_⟩);have f:a s1.heap.objs.size=none:=c.bY.fresh (aFw _);refine⟨.ref s1.heap.objs.size,upd a s1.heap.objs.size (.lst xs),c.laid (t' :=s1.toks) (λb u e=>aFr _ e) (aFw _) ?_,rfl,q _ f⟩;exact⟨z,us,0,r,aFy _ rfl⟩
end
abbrev Sp:=List V->Hp->VK->XK->Prop
abbrev J6:=List Env->Hp->Shared->XK->aJk
structure TN(P:Program)(w:World)(K:aJj)(mg:aJm)(base:Heap)(A:Around)(outer:List Env)(s:Shared)(H:Hp):Prop where
 frames:A.frames=some outer
 mod:Mod K mg base
 bs:∀b o,base.get? b=some o->s.heap.get? b=some o/\H b=none
 S6:base.objs.size<=s.heap.objs.size
 vG:s.heap.FunFrames base outer
 ZQ:∀b∈NU outer,H b=none
 bY:qJ P w H s.heap
 bare:AllBare s.gens
def CE(outer:List Env)(P:Program)(w:World)(H:Hp)(s:Shared)(Q:VK)(u:Value)(a :Shared):Prop:=
 ∃v H',a.os=s.os/\AllBare a.gens/\Un (NU outer) [] H H' s.heap a.heap/\qJ P w H' a.heap/\RelV v u/\Q v H'
def CR(CX:J6)(outer:List Env)(P:Program)(w:World)(H:Hp)(s:Shared)(Q:VK)(E:XK)(r:Result)(a :Shared):Prop:=
 match r with
 | .ok (.ret u)=>CE outer P w H s Q u a
 | .ok _=>False
 | .error e=>CX outer H s E e a
structure jN(P:Program)(w:World)(K:aJj)(mg:aJm)(base:Heap)(CX:J6)(k:Nat)(f:Addr)(fd:FuncData)(ps:List Str)(sp:Sp):Prop where
 len:∀vs H Q E,sp vs H Q E->vs.length=ps.length
 run:∀(A:Around) (outer:List Env) (s:Shared) (H:Hp) (args:Args) (us:List Value) (vs:List V) (Q:VK) (E:XK),gC k A->TN P w K mg base A outer s H->BindsTo s fd args (ps.zip us)->Vals vs us->sp vs H Q E->
  codeAny (model P w) A (.call (.ref f) args) (CR CX outer P w H s Q E) s
variable{mg:aJm}{base:Heap}{f:Addr}{fd:FuncData}{ps:List Str}
theorem jN.mono{CX:J6}{j k:Nat}{sp:Sp}(F:jN P w K mg base CX j f fd ps sp)(h:j<=k):
  jN P w K mg base CX k f fd ps sp:=⟨F.len,λA outer s H args us vs Q E a=>F.run A outer s H args us vs Q E (a.mono h)⟩
theorem jN.imp{CX:J6}{k:Nat}{sp a :Sp}(F:jN P w K mg base CX k f fd ps sp)
  (h:∀vs H Q E,a vs H Q E->sp vs H Q E):jN P w K mg base CX k f fd ps a :=
 ⟨λvs H Q E q=>F.len vs H Q E (h _ _ _ _ q),λA outer s H args us vs Q E b he hb c d=>F.run A outer s H args us vs Q E b he hb c (h _ _ _ _ d)⟩
section
variable {X:Cx}{pins:List (Addr×Obj)}{σ:St}{H:Hp}{s s' :Shared}
theorem Inv.aFa(I:Inv X pins σ H s):TN X.prog X.w X.K X.mg X.base X.A X.stack s H:=
 ⟨I.ok.frames,I.ok.mod,I.bs,aGh I.ok.S6 I.sz,I.stack,I.GL,I.bY,I.bare⟩
theorem Inv.after{Q:VK}(I:Inv X pins σ H s)(h:CE X.stack X.prog X.w H s Q u s'):EP X pins σ Q u s' :=by
 obtain⟨v,H',os,bare,un,bY,r,q⟩:=h;obtain⟨c,g,d,t,a⟩:=s';obtain rfl:a =s.os:=os;exact⟨v,H',I.call (h' :=c) (g' :=g) (d' :=d) (t' :=t) (ch:=[]) un bY bare (λb z=>absurd z (by simp)),r,q⟩
end
def aAb(sp:Sp)(a:List V)(E:XK)(t:TA):TE:=λσ H Q=>t σ H λvs b=>sp (vs++a) b Q E
def Binds(K:aJj)(fd:FuncData)(ps:List Str)(ds:List Value):Prop:=
 ∀(s:Shared) (us:List Value),K.In s.heap->(us++ds).length=ps.length->BindsTo s fd ⟨us,[]⟩ (ps.zip (us++ds))
theorem Binds.all(h:∀us:List Value,us.length=ps.length->bindArgs fd ⟨us,[]⟩=pure (ps.zip us)):Binds K fd ps []:=λs us _ a=>by
 rw[List.append_nil]at a⊢;exact .of_eq (h us a)
def Passes(CX:J6)(X:Cx)(E:XK):Prop:=∀(pins:List (Addr×Obj)) (σ:St) (H:Hp) (s:Shared) (e:Value) (a :Shared),Inv X pins σ H s->CX X.stack H s E e a ->X.xe e a
section
variable {X:Cx}{CX:J6}{k:Nat}{f C:Addr}{fd:FuncData}{ps:List Str}{sp:Sp}{dvs:List V}{ds:List Value}{E:XK}{x m:Str}{p pos apos:Pos}{e o:Expr}{es:List Expr}{ta:TE}{t:TA}
theorem VG{Q:VK}{vs:List V}(F:jN X.prog X.w X.K X.mg X.base CX k f fd ps sp)(c:gC k X.A)(hb:Binds X.K fd ps ds)(hd:Vals dvs ds)(d:Passes CX X E)
  (I:Inv X pins σ H s) (r:Vals vs us) (h:sp (vs++dvs) H Q E):wpAny (model X.prog X.w) X.A (call (.ref f) us) (EP X pins σ Q) X.xe s:=by
 have b:Vals (vs++dvs) (us++ds):=r.append hd;have g:(us++ds).length=ps.length:=by rw[<-b.length];exact F.len _ _ _ _ h
 refine wpAny_call (aHt (F.run X.A X.stack s H ⟨us,[]⟩ (us++ds) (vs++dvs) Q E c I.aFa (hb s us I.X1 g) b h) λr i a=>?_)
 cases r with
 | error e=>exact d pins σ H s e i I a
 | ok fl=>
  cases fl with
  | ret u=>exact I.after a
  | next=>exact False.elim a
  | brk=>exact False.elim a
  | cont=>exact False.elim a
theorem QX(F:jN X.prog X.w X.K X.mg X.base CX k f fd ps sp)(d:gC k X.A)(hg:Gl X x)(g:X.mg x=some (.ref f))(i:PySem.W.keepIn X.K (.ref f)=true)(hb:Binds X.K fd ps ds)(hd:Vals dvs ds)(j:Passes CX X E)
  (ha:PA X (e::es) t) (a:(x==("__debug__":Str))=false:=by decide) (he:starEach (e::es) X.env=(false,eval e X.env)::starEach es X.env:=by rfl) (b:(backTo pos (starEach es X.env)).any (·.1)=false:=by rfl):
  PE X (.Call (.Name x p) (e::es) [] pos) (aAb sp dvs E t):=by
 intro pins s σ H Q I h;refine aHl (G5 I hg g ?_ a);refine PySem.W.callWith_K (h₀:=X.base) I.ok.mod.kin i (cA (ha pos pins s σ H _ I h) λus s1 ⟨vs,l,c,r,q⟩=>⟨c.X1,?_⟩) he b;exact VG F d hb hd j c r q
end
structure aV(N P:List Str)(sc:Scope):Prop where
 kind:sc.kind= .function
 co:sc.isCoroutine=false
 gen:sc.isGenerator=false
 nd:N.Nodup
 pre:N.take P.length=P
 par:∀x∈P,sc.names.lookup x=some .local\/sc.names.lookup x=some .cell
 WR:∀y∈sc.names,y.2≠ .free
theorem yJ{kindOf:Str->Option NameKind}{x:Str}:∀{binds:List (Str×Value)} {m:aJm},(∀v,(x,v)∉binds)->bindL kindOf binds m x=m x
 | [],_,_=>rfl
 | (n,v)::r,m,h=>by
  unfold bindL;rw[yJ λw a=>h w (List.mem_cons_of_mem _ a)];split
  ·have:x≠n:=by rintro rfl;exact h v aFs
   simp[this]
  ·rfl
theorem yL{kindOf:Str->Option NameKind}{x:Str}:∀{binds:List (Str×Value)} {m:aJm},(∀v,(x,v)∉binds)->bindC kindOf binds m x=m x
 | [],_,_=>rfl
 | (n,v)::r,m,h=>by
  unfold bindC;rw[yL λw a=>h w (List.mem_cons_of_mem _ a)];split
  ·rfl
  ·have:x≠n:=by rintro rfl;exact h v aFs
   simp[this]
theorem yK{kindOf:Str->Option NameKind}{x:Str}{v:Value}:∀{P:List Str} {vs:List Value} {i:Nat} {m:aJm},P.Nodup->P[i]? =some x->vs[i]? =some v->kindOf x=some .local->
  bindL kindOf (P.zip vs) m x=some v
 | [],_,_,_,_,h,_,_=>by simp at h
 | _::_,[],_,_,_,_,h,_=>by simp at h
 | p::P,w::vs,0,m,nd,h1,h2,hk=>by
  simp at h1 h2;subst h1;subst h2;show bindL kindOf ((p,w)::P.zip vs) m p=_;unfold bindL;rw[yJ λv a=>(List.nodup_cons.mp nd).1 (List.of_mem_zip a).1,if_pos hk];simp
 | p::P,w::vs,i+1,m,nd,h1,h2,hk=>by
  show bindL kindOf ((p,w)::P.zip vs) m x=_;unfold bindL;exact yK (i:=i) (aHj.mp nd).2 (by simpa using h1) (by simpa using h2) hk
theorem yM{kindOf:Str->Option NameKind}{x:Str}{v:Value}:∀{P:List Str} {vs:List Value} {i:Nat} {m:aJm},P.Nodup->P[i]? =some x->vs[i]? =some v->kindOf x≠some .local->
  bindC kindOf (P.zip vs) m x=some v
 | [],_,_,_,_,h,_,_=>by simp at h
 | _::_,[],_,_,_,_,h,_=>by simp at h
 | p::P,w::vs,0,m,nd,h1,h2,hk=>by
  simp at h1 h2;subst h1;subst h2;show bindC kindOf ((p,w)::P.zip vs) m p=_;unfold bindC;rw[yL λv a=>(List.nodup_cons.mp nd).1 (List.of_mem_zip a).1,if_neg hk];simp
 | p::P,w::vs,i+1,m,nd,h1,h2,hk=>by
  show bindC kindOf ((p,w)::P.zip vs) m x=_;unfold bindC;exact yM (i:=i) (aHj.mp nd).2 (by simpa using h1) (by simpa using h2) hk
def start(N:List Str)(vs:List V):St:=vs.map some++List.replicate (N.length-vs.length) none
def vP(CX:J6)(P:Program)(w:World)(K:aJj)(mg:aJm)(base:Heap)(N:List Str)(qual:Str)(scope:Scope)(f:Addr)(cd:Value)(A:Around)(outer:List Env)(s:Shared)(H:Hp)(E:XK):Cx where
 prog:=P
 w:=w
 K:=K
 mg:=mg
 base:=base
 A:=A.deeper (envOfC qual scope s.heap.objs.size f cd)
 N:=N
 s₀:=s
 H₀:=H
 env:=envOfC qual scope s.heap.objs.size f cd
 outer:=outer
 stack:=envOfC qual scope s.heap.objs.size f cd::outer
 ex:=[]
 calm:=true
 fn:=λ_=>true
 pn:=[]
 xe:=λe b =>wpAny (model P w) (A.deeper (envOfC qual scope s.heap.objs.size f cd)) (leaving (envOfC qual scope s.heap.objs.size f cd) e) (λ_ a =>CX outer H s E e a) (λc a =>CX outer H s E c a) b
theorem DY{sc:Scope}{n:Nat}{x:Str}(h:sc.names.lookup x=some .cell):∃c,(cellsFrom n sc.names []).lookup x=some c:=by
 have q:=PySem.W.cellsFrom_some sc.names n [] (.inl h);exact Option.isSome_iff_exists.mp q
theorem JB{CX:J6}{N ps:List Str}{qual:Str}{scope:Scope}{cd:Value}{outer:List Env}{s s1:Shared}{E:XK}{vs:List V}
  (S:aV N ps scope) (hd:A.handled=none) (g:TN P w K mg base A outer s H) (F:vs.length=ps.length) (r:Vals vs us)
  (x:InCallC s s.heap.objs.size (bindL (envOfC qual scope s.heap.objs.size f cd).kindOf (ps.zip us) λ_=>none) (cellsFrom (s.heap.objs.size+1) scope.names []) (bindC (envOfC qual scope s.heap.objs.size f cd).kindOf (ps.zip us) λ_=>none) s1):
  Inv (vP CX P w K mg base N qual scope f cd A outer s H E) [] (start N vs) H s1:=by
 have C:ps.length<=N.length:=by have:=aGs List.length S.pre;rw[List.length_take]at this;lia
 obtain⟨o,G,rfl,t⟩:=x.done;have j:∀b:Addr,b∉(vP CX P w K mg base N qual scope f cd A outer s H E).ex:=λb z=>absurd (show b∈([]:List Addr) from z) (by simp)
 refine⟨⟨g.mod,S.kind,rfl,rfl,aFw _,λy z c o d=>?_,λy hy=>?_,λy c _ h=>?_,λ_=>hd,Around.frames_deeper g.frames,.inr ⟨rfl,rfl⟩,λb z=>absurd z (j b),g.bs,g.S6,λb _ _=>j b,λb z=>absurd z (j b),g.vG,g.ZQ⟩,
  rfl,g.bare,Un.kept t,⟨_,x.toInCall.ns,λi y v o d I=>?_⟩,λy c h=>⟨_,x.cell y c h⟩,g.bY.fresh (aFw _),λy c h=>?_,λp l=>absurd (show p∈([]:List (Addr×Obj)) from l) (by simp),g.bY.kept t,?_⟩
 ·exact name_of_addr x.apart (aGv o) (aGv d)
 ·have hy:scope.names.lookup y=some .cell\/scope.names.lookup y=some .free:=hy;rcases hy with hy | hy
  ·exact DY hy
  ·exact absurd rfl (S.WR _ (aGv hy))
 ·exact aHr (x.above y c (aGv h))
 ·have hi:i<vs.length:=by
   unfold start at d;by_cases hi:i<vs.length
   ·exact hi
   ·rw[List.getElem?_append_right (by simpa using hi)]at d;rw[List.getElem?_replicate]at d;split at d <;> cases d
  have ha:vs[i]? =some v:=by
   unfold start at d;rw[List.getElem?_append_left (by simpa using hi),List.getElem?_map]at d
   cases e:vs[i]? with
   | none=>rw[e]at d;cases d
   | some a=>rw[e]at d;cases d;rfl
  obtain⟨u,B,D⟩:=r.get ha
  have l:ps[i]? =some y:=by
   rw[<-S.pre,List.getElem?_take_of_lt (by lia)];exact o
  have m:ps.Nodup:=by rw[<-S.pre];exact S.nd.sublist (aJd _ _)
  refine⟨u,D,?_⟩;rcases S.par y (aG3 l) with k | k
  ·exact .inl ⟨k,yK m l B k⟩
  ·obtain⟨c,e⟩:=DY (n:=s.heap.objs.size+1) k;refine .inr ⟨.inl k,c,e,?_⟩;have q:=x.cell y c e;rw[yM m l B (by show scope.names.lookup y≠_;rw[k];decide)]at q;exact q
 ·exact g.bY.fresh (aHr (x.above y c (aGv h)))
 ·unfold start;show _=N.length;rw[List.length_append,List.length_map,List.length_replicate]
  lia
theorem aCa{CX:J6}{k:Nat}{name qual:Str}{a:Arguments}{body:List Stmt}{scope:Scope}{D kV doc pm cdv ct oc:Value}{an od:Option Addr}
  {osl:Array (Option Value)} {N ps:List Str} {sp:Sp} (F:K.lookup f=some ⟨oc,od,.func (PySem.W.fnOf name qual a body scope D kV doc pm an cdv ct),osl⟩) (m:PySem.W.codeIn K cdv qual=true) (S:aV N ps scope)
  (len:∀vs H Q E,sp vs H Q E->vs.length=ps.length)
  (d:∀(A:Around) (outer:List Env) (s:Shared) (H:Hp) (vs:List V) (Q:VK) (E:XK),gC k (A.deeper (envOfC qual scope s.heap.objs.size f cdv))->sp vs H Q E->
   ∃t,A4 (vP CX P w K mg base N qual scope f cdv A outer s H E) body t/\t {nx:=λ_ H' =>Q .cL H',rt:=Q} (start N vs) H):
  jN P w K mg base CX (k+1) f (PySem.W.fnOf name qual a body scope D kV doc pm an cdv ct) ps sp:=by
 refine⟨len,λA outer s H args us vs Q E p i hb r j=>?_⟩;have G:=len _ _ _ _ j;have KX:K.In s.heap:=i.mod.kin.keeps λb o e=>(i.bs b o e).1;have z:s.heap.NoLimit:=i.mod.nolimit.keeps λb o e=>(i.bs b o e).1
 have g:∀y∈ps.zip us,scope.names.lookup y.1=some .local\/(scope.names.lookup y.1=some .cell/\((cellsFrom (s.heap.objs.size+1) scope.names []).lookup y.1).isSome=true):=λl L=>by
  obtain⟨n,v⟩:=l;rcases S.par n (aH4 L).1 with q | q
  ·exact .inl q
  ·exact .inr ⟨q,PySem.W.cellsFrom_some _ _ _ (.inl q)⟩
 refine codeAny_call_function p.depth (KX _ _ F) rfl S.co S.gen rfl (PySem.W.codeRec_of KX m) (hb _ _ _ _ ?_);refine wpAny_newFunctionEnv_cells S.kind g λenv he s1 x=>?_;subst he;refine⟨z.keeps x.toInCall.keep,codeAny_func ?_⟩;obtain⟨t,ht,M⟩:=d A outer s H vs Q E (p.deeper _) j;have I:Inv (vP CX P w K mg base N qual scope f cdv A outer s H E) [] (start N vs) H s1:=JB S p.hd i G r x;refine aGi (ht [] s1 (start N vs) H _ I M) (λfl B h=>?_) λe B h=>h
 have fin:∀{c :St} {H' :Hp} {v:V} {u:Value},Inv (vP CX P w K mg base N qual scope f cdv A outer s H E) [] c H' B ->RelV v u->Q v H' ->CE outer P w H s Q u B :=
  λ{c H' v u} J C q=>⟨v,H',J.os,J.bare,J.base,J.bY,C,q⟩
 cases fl with
 | ret u=>
  obtain⟨v,c,H',J,C,q⟩:=h;exact fin J C q
 | next=>
  obtain⟨c,H',J,q⟩:=h;exact fin (v:=V.cL) (u:=Value.none) J rfl q
 | brk=>
  obtain⟨_,_,_,q⟩:=h;exact False.elim q
 | cont=>
  obtain⟨_,_,_,q⟩:=h;exact False.elim q
section
variable {X:Cx}{x:Str}{p pos:Pos}{e:Expr}{es:List Expr}{t:TA}{id T:String}{r:List V->Hp->VK->Prop}
def tCB(r:List V->Hp->VK->Prop)(t:TA):TE:=λσ H Q=>t σ H λvs a=>r vs a Q
theorem uS(d:cX X (.builtin id) r)(hg:Gl X x)(f:X.mg x=none)(g:bootBuiltins x=some (.builtin id))(ha:PA X (e::es) t)(i:x≠ "__name__":=by decide)(b:(x==("__debug__":Str))=false:=by decide)
  (he:starEach (e::es) X.env=(false,eval e X.env)::starEach es X.env:=by rfl) (c:(backTo pos (starEach es X.env)).any (·.1)=false:=by rfl):PE X (.Call (.Name x p) (e::es) [] pos) (tCB r t):=by
 intro pins s σ H Q I h;refine aHl (oF I hg f g ?_ i b);exact PyProof.Rows.callWith_builtin1 (cA (ha pos pins s σ H _ I h) λus s1 a=>by obtain⟨vs,j,k,l,m⟩:=a;exact d pins s1 σ j vs us Q k l m) he c
theorem xO(d:cX X (.type T) r)(hg:Gl X x)(f:X.mg x=none)(g:bootBuiltins x=some (.type T))(ha:PA X (e::es) t)(i:x≠ "__name__":=by decide)(b:(x==("__debug__":Str))=false:=by decide)
  (he:starEach (e::es) X.env=(false,eval e X.env)::starEach es X.env:=by rfl) (c:(backTo pos (starEach es X.env)).any (·.1)=false:=by rfl):PE X (.Call (.Name x p) (e::es) [] pos) (tCB r t):=by
 intro pins s σ H Q I h;refine aHl (oF I hg f g ?_ i b);exact aH9 (cA (ha pos pins s σ H _ I h) λus s1 a=>by obtain⟨vs,j,k,l,m⟩:=a;exact d pins s1 σ j vs us Q k l m) he c
end
end L2
namespace HT
open PySem PyProof.Rows
section
open PySem.SeqAt
open PySem.AutoSeq1 (wpAny_loadPart')
open PySem.MeetsSeq PySem.MeetsSeq2 PySem.MeetsSeq3
end
section
variable {prog:Program}{w:World}{A:Around}{E:aJk}{s:Shared}
theorem S3{t b:Addr}{vs a:List Value}{Q:aJk}(ht:IsTup s.heap t vs.toArray)(hb:IsTup s.heap b a.toArray)(j:vs≠[])
  (p:a=[]->Q (.ref t) s) (q:a≠[]->Q (.ref s.heap.objs.size) {s with heap:=s.heap.push {cls:= .type "tuple",data:= .seq (vs++a).toArray}})
  (hsz:vs.length+a.length<=sizeLine):wpAny (model prog w) A (binaryOp .Add (.ref t) (.ref b)) Q E s:=by
 obtain⟨⟨cls,k,data,sl⟩,ho,l,n,hd⟩:=id ht;obtain⟨⟨m,d,data2,f⟩,c,g,o,h⟩:=id hb;simp only at l hd g h;subst l hd g h;have e:vs.toArray++a.toArray=(vs++a).toArray:=by simp
 by_cases i:a=[]
 ·exact concat_meets ⟨_,ho,rfl⟩ ⟨_,c,rfl⟩ noFill_tuple_add seq_tuple_add aIq aIn (aIj _ _)
   (tuple_addW1 t b vs.toArray a.toArray n o k d sl f (by simpa using j) (by simp[i])) ⟨ho,c,p i⟩
 ·refine concat_meets ⟨_,ho,rfl⟩ ⟨_,c,rfl⟩ noFill_tuple_add seq_tuple_add aIq aIn (aIj _ _)
   (tuple_addW2 t b vs.toArray a.toArray n o k d sl f (by simpa using j) (by simpa using i) (by rw[List.size_toArray,List.size_toArray];exact hsz)) ⟨ho,c,?_⟩
  rw[e];exact q i
def c7(n d:Nat):Option Int->Nat
 | none=>d
 | some v=>if v<0 then (v+(n:Int)).toNat else min v.toNat n
theorem VF(n d:Nat)(hd:d<=n)(o:Option Int):c7 n d o<=n:=by
 cases o with
 | none=>exact hd
 | some v=>
  show (if v<0 then (v+(n:Int)).toNat else min v.toNat n)<=n;by_cases a:v<0
  ·rw[if_pos a];lia
  ·rw[if_neg a];exact Nat.min_le_right _ _
theorem HJ(v:Int)(n d:Nat):(if v<0 then max (v+(n:Int)) 0 else min v (n:Int))=((c7 n d (some v):Nat):Int):=by
 show (if v<0 then max (v+(n:Int)) 0 else min v (n:Int))=(((if v<0 then (v+(n:Int)).toNat else min v.toNat n):Nat):Int);by_cases a:v<0
 ·simp only[if_pos a];lia
 ·simp only[if_neg a];lia
theorem FZ(lo hi:Option Int)(n:Nat):Builtin.Slice.sliceAdjust lo hi 1 (n:Int)=(((c7 n 0 lo:Nat):Int),((c7 n n hi:Nat):Int)):=by
 have a:¬((1:Int)<0):=by lia
 unfold Builtin.Slice.sliceAdjust;simp only[a,if_false];refine Prod.ext ?_ ?_
 ·cases lo with
  | none=>rfl
  | some v=>exact HJ v n 0
 ·cases hi with
  | none=>rfl
  | some v=>exact HJ v n n
theorem EX(i j:Nat):Builtin.Slice.slicePlaces (i:Int) (j:Int) 1=j-i:=by
 unfold Builtin.Slice.slicePlaces;have a:(1:Int) > 0:=by lia
 simp only[a,if_true,Int.ediv_one];split <;> lia
theorem uB{v:Value}{o:Option Int}{Q:Option Int->Shared->Prop}(p:IsPart v o)(h:Q o s):wpAny (model prog w) A (Builtin.Slice.slicePartIndex v) Q E s:=by
 cases p with
 | none=>exact slicePart_none h
 | int i t=>exact slicePart_int h
theorem jE{sl:Addr}{c d:Value}{lo hi:Option Int}{n:Nat}{Q:Int×Int×Nat->Shared->Prop}(e:s.heap.IsSliceOf sl c d .none)(f:IsPart c lo)(g:IsPart d hi)
  (h:Q (((c7 n 0 lo:Nat):Int),1,c7 n n hi-c7 n 0 lo) s):wpAny (model prog w) A (Builtin.Slice.sliceApplied (.ref sl) (pure (n:Int))) Q E s:=by
 obtain⟨os,a,i,b⟩:=id e;unfold Builtin.Slice.sliceApplied Builtin.Slice.sliceFields;refine aFo (aFo (aGp a b (x:=c) rfl (aFo (aGp a b (x:=d) rfl (aFo (aGp a b (x:= .none) rfl (aFq ?_)))))));refine aFo (slicePart_none ?_);show wpAny _ _ (if ((1:Int)==0)=true then _ else _) _ _ s;rw[if_neg (by decide)];refine aFo (uB f (aFo (uB g (aFo (aFq ?_)))));show wpAny _ _ (match Builtin.Slice.sliceAdjust lo hi 1 (n:Int) with | (lo,hi)=>pure (lo,(1:Int),Builtin.Slice.slicePlaces lo hi 1)) _ _ s;rw[FZ lo hi n];show wpAny _ _ (pure (((c7 n 0 lo:Nat):Int),(1:Int),Builtin.Slice.slicePlaces ((c7 n 0 lo:Nat):Int) ((c7 n n hi:Nat):Int) 1)) _ _ s;rw[EX];exact aFq h
theorem LV(xs:Array Value)(i k:Nat):((List.range k).filterMap λ(m:Nat)=>xs[((i:Int)+(m:Int)*1).toNat]?).toArray=((xs.toList.drop i).take k).toArray:=by
 have e:(λ(m:Nat)=>xs[((i:Int)+(m:Int)*1).toNat]?)=λm=>xs[i+m]? :=by
  funext m;have:((i:Int)+(m:Int)*1).toNat=i+m:=by lia
  rw[this]
 rw[e];have:=pick_run xs i k;rw[List.filterMap_map]at this;have a:((λx=>xs[x]?) ∘ λx=>i+x)=λm=>xs[i+m]? :=rfl;rw[a]at this;rw[this]
theorem p7{t sl:Addr}{items:Array Value}{f g:Value}{lo hi:Option Int}{Q:aJk}(ht:IsTup s.heap t items)(i:s.heap.IsSliceOf sl f g .none)(j:IsPart f lo)(k:IsPart g hi)
  (l:¬(c7 items.size 0 lo=0/\c7 items.size items.size hi=items.size))
  (h:Q (.ref s.heap.objs.size) {s with heap:=s.heap.push {cls:= .type "tuple",data:= .seq ((items.toList.drop (c7 items.size 0 lo)).take (c7 items.size items.size hi-c7 items.size 0 lo)).toArray}})
  (hsz:items.size<=sizeLine):wpAny (model prog w) A (getItem (.ref t) (.ref sl)) Q E s:=by
 have a:sizeOk (.seq ((items.toList.drop (c7 items.size 0 lo)).take (c7 items.size items.size hi-c7 items.size 0 lo)).toArray):=by
  show ((items.toList.drop (c7 items.size 0 lo)).take (c7 items.size items.size hi-c7 items.size 0 lo)).toArray.size<=sizeLine;rw[List.size_toArray,List.length_take,List.length_drop,Array.length_toList]
  lia
 have o:c7 items.size items.size hi<=items.size:=VF _ _ (aFw _) hi;obtain⟨os,b,c,n⟩:=id i
 have d:s.TypeIs (.ref sl) "slice":=⟨os,b,c⟩
 unfold getItem
 try with_reducible refine aGj ?_
 first | refine aFo (aFq ?_) | skip
 refine aFo (wpAny_sequenceKey ht.typeIs (by decide) ?_)
 refine aFo (aGf (name:=Str.ofString "__getitem__") ht.typeIs aGo
  (aGa aGo ht.typeIs entry_tuple_getitem ?_ (args_tuple_getitem _ _)))
 show wpAny _ _ (Builtin.Tuple.tupleItemsOf (.ref t) >>=_) _ _ s;refine aFo (tupleItemsOf_ ht ?_);refine aFo (aHy d ?_);rw[if_pos (by decide)];refine aFo (jE i j k ?_)
 have e:¬((((c7 items.size 0 lo:Nat):Int)==0 && (1:Int)==1 && (c7 items.size items.size hi-c7 items.size 0 lo)==items.size)=true):=by
  intro q;rw[Bool.and_eq_true,Bool.and_eq_true]at q;have p:((c7 items.size 0 lo:Nat):Int)=0:=eq_of_beq q.1.1;have r:c7 items.size items.size hi-c7 items.size 0 lo=items.size:=eq_of_beq q.2;exact l ⟨by lia,by lia⟩
 show wpAny _ _ (if (((c7 items.size 0 lo:Nat):Int)==0 && (1:Int)==1 && (c7 items.size items.size hi-c7 items.size 0 lo)==items.size)=true then _ else _) _ _ s;rw[if_neg e,LV]
 first
  | exact aFo (m:=Builtin.Tuple.tupleExact _) (aGg (aFq ⟨_,rfl,aFq h⟩) a)
  | exact aFo (m:=Builtin.Tuple.tupleExact _) (aGg (aFo (aFq (aFq ⟨_,rfl,aFq h⟩))) a)
  | exact aFo (aFo (m:=Builtin.Tuple.tupleExact _) (aGg (aFq (aFq ⟨_,rfl,aFq h⟩)) a))
  | exact aFo (aFo (m:=Builtin.Tuple.tupleExact _) (aGg (aFq ⟨_,rfl,aFq h⟩) a))
end
end HT
namespace L2
open PySem PySem.Spec PyProof.Rows
abbrev TO:=St->Hp->(Option Int->Hp->Prop)->Prop
def PO(X:Cx)(e:Option Expr)(t:TO):Prop:=
 ∀(pins:List (Addr×Obj)) (s:Shared) (σ:St) (H:Hp) (Q:Option Int->Hp->Prop),Inv X pins σ H s->t σ H Q->
  wpAny (model X.prog X.w) X.A (evalPart e X.env) (λu a =>∃o H',Inv X pins σ H' a /\IsPart u o/\Q o H') X.xe s
def PN:TO:=λ_ H Q=>Q none H
def aA5(t:TE):TO:=λσ H Q=>t σ H λx a=>∃i,x= .int i/\Q (some i) a
section
variable {X:Cx}{e:Expr}{te:TE}{lo hi:Option Expr}{tl th:TO}{pos p2:Pos}
theorem QR:PO X none PN:=by
 intro pins s σ H Q I h;rw[evalPart_none];exact aFq ⟨none,H,I,.none,h⟩
theorem QQ(h:PE X e te):PO X (some e) (aA5 te):=by
 intro pins s σ H Q I b;rw[evalPart_some];refine cA (h pins s σ H _ I b) λu s1 a=>?_;obtain⟨x,c,d,f,g⟩:=a;obtain⟨i,rfl,q⟩:=g;obtain⟨t,rfl⟩:=f;exact⟨some i,c,d,.int i t,q⟩
def ZV(X:Cx)(r:V->Option Int->Option Int->Hp->VK->Prop):Prop:=
 ∀(pins:List (Addr×Obj)) (s:Shared) (σ:St) (H:Hp) (x:V) (v a b:Value) (lo hi:Option Int) (sl:Addr) (Q:VK),Inv X pins σ H s->RelV x v->s.heap.IsSliceOf sl a b .none->IsPart a lo->IsPart b hi->r x lo hi H Q->
  ∃T id,typeLookup (.type T) "__getitem__"=pure (some (.builtin id))/\s.TypeIs v T/\wpAny (model X.prog X.w) X.A (getItem v (.ref sl)) (EP X pins σ Q) X.xe s
def tSl(r:V->Option Int->Option Int->Hp->VK->Prop)(te:TE)(tl th:TO):TE:=λσ H Q=>te σ H λx a=>tl σ a λl b=>th σ b λu c=>r x l u c Q
theorem L0{r:V->Option Int->Option Int->Hp->VK->Prop}(j:ZV X r)(he:PE X e te)(k:PO X lo tl)(m:PO X hi th):PE X (.Subscript e (.Slice lo hi none p2) pos) (tSl r te tl th):=by
 intro pins s σ H Q I h;refine Subscript_ (cA (he pins s σ H _ I h) λv s1 c=>?_);obtain⟨x,n,o,p,t⟩:=c;refine wpAny_Slice (cA (k pins s1 σ n _ o t) λf s2 ⟨l,y,z,B,C⟩=>cA (m pins s2 σ y _ z C) λg a d=>?_);obtain⟨u,i,D,E,F⟩:=d;rw[evalPart_none];refine aFq ?_;have G:Inv X pins σ i {a with heap:=a.heap.push {cls:= .type "slice",data:= .fields #[f,g,.none]}}:=D.kept (t' :=a.toks) λb ob q=>aFr _ q;obtain⟨T,id,J,ht,hg⟩:=j pins {a with heap:=a.heap.push {cls:= .type "slice",data:= .fields #[f,g,.none]}} σ i x v f g l u a.heap.objs.size Q G p (Heap.IsSliceOf.new ..) B E F;show wpAny (model X.prog X.w) X.A (subscriptTail e (.Slice lo hi none p2) v (.ref a.heap.objs.size)) (EP X pins σ Q) X.xe {a with heap:=a.heap.push {cls:= .type "slice",data:= .fields #[f,g,.none]}};exact tail_any (ops:=[.ref a.heap.objs.size,v]) ht J hg (by with_unfolding_all rfl)
def AM(xs:List V)(lo hi:Option Int):List V:=(xs.drop (HT.c7 xs.length 0 lo)).take (HT.c7 xs.length xs.length hi-HT.c7 xs.length 0 lo)
theorem rZ(xs:List V)(lo hi:Option Int):(AM xs lo hi).length<=xs.length:=by
 unfold AM;rw[List.length_take,List.length_drop]
 lia
def aEj(K:aJj):V->Option Int->Option Int->Hp->VK->Prop:=λx lo hi H Q=>∃a xs,x= .ref a/\oU K H a xs/\
 ¬(HT.c7 xs.length 0 lo=0/\HT.c7 xs.length xs.length hi=xs.length)/\∀p,H p=none->Q (.ref p) (upd H p (.tup (AM xs lo hi)))
theorem VC:ZV X (aEj X.K):=by
 intro pins s σ H x v k l lo hi sl Q I d e f g h;obtain⟨a,xs,rfl,i,j,q⟩:=h;cases d;obtain⟨aJ,r,ht,hz⟩:=I.tuple i;have c:aJ.toArray.size=xs.length:=by rw[List.size_toArray];exact r.length.symm
 refine⟨"tuple",_,aGo.lookup,ht.typeIs,?_⟩;refine HT.p7 ht e f g (by rw[c];exact j) ?_ (by rw[c];exact hz);rw[c];refine⟨.ref s.heap.objs.size,_,I.laid (t' :=s.toks) (o:= .tup (AM xs lo hi)) (λb ob q=>aFr _ q) (aFw _) ?_,rfl,q _ (I.bY.fresh (aFw _))⟩;exact⟨aGh (rZ xs lo hi) hz,_,(r.drop (HT.c7 xs.length 0 lo)).take (HT.c7 xs.length xs.length hi-HT.c7 xs.length 0 lo),IsTup.new _ _,y8 _ _⟩
def aAs(K:aJj):R2:=λx y H Q=>∃a b xs ys,x= .ref a/\y= .ref b/\oU K H a xs/\oU K H b ys/\xs≠[]/\xs.length+ys.length<=sizeLine/\
 (ys=[]->Q (.ref a) H)/\(ys≠[]->∀p,H p=none->Q (.ref p) (upd H p (.tup (xs++ys))))
theorem Vals.zK{xs:List V}{us:List Value}(r:Vals xs us):us=[]↔xs=[]:=by
 cases r with
 | nil=>simp
 | cons _ _=>simp
theorem Q3:dO X (binaryOp .Add) (aAs X.K):=by
 intro pins s σ H x y v u Q I f g h;obtain⟨a,b,xs,ys,rfl,rfl,ha,hb,i,hz,j,k⟩:=h;cases f;cases g;obtain⟨aJ,d,l,_⟩:=I.tuple ha;obtain⟨e,c,p2,_⟩:=I.tuple hb;refine HT.S3 l p2 (λz=>i (d.zK.mp z)) (λz=>⟨.ref a,H,I,rfl,j (c.zK.mp z)⟩) (λz=>?_) (by rw[<-d.length,<-c.length];exact hz);refine⟨.ref s.heap.objs.size,_,I.laid (t' :=s.toks) (o:= .tup (xs++ys)) (λb ob q=>aFr _ q) (aFw _) ?_,rfl,k (λw=>z (c.zK.mpr w)) _ (I.bY.fresh (aFw _))⟩;exact⟨by rw[List.length_append];exact hz,_,d.append c,IsTup.new _ _,y8 _ _⟩
end
def FG(n:Nat)(i:Int):Option Nat:=if 0<=i then (if i<n then some i.toNat else none) else if -(n:Int)<=i then some (i+n).toNat else none
def n6{α:Type}(xs:List α)(i:Int):Option α:=(FG xs.length i).bind λj=>xs[j]?
variable{n:Nat}
theorem G9{i:Int}{j:Nat}(h:FG n i=some j):seqIndex? i n=some j/\j<n/\ -(n:Int)<=i/\i<n:=by
 unfold FG at h;by_cases h0:0<=i
 ·rw[if_pos h0]at h;by_cases a:i<n
  ·rw[if_pos a]at h;have e:i.toNat=j:=aG8 h;exact⟨by rw[seqIndex_of h0 a,e],by lia,by lia,a⟩
  ·rw[if_neg a]at h;cases h
 ·rw[if_neg h0]at h;by_cases a: -(n:Int)<=i
  ·rw[if_pos a]at h;have e:(i+n).toNat=j:=aG8 h;exact⟨by rw[seqIndex_neg (by lia) a,e],by lia,a,by lia⟩
  ·rw[if_neg a]at h;cases h
theorem AZ{α:Type}{xs:List α}{i:Int}{v:α}(h:n6 xs i=some v):∃j,seqIndex? i xs.length=some j/\xs[j]? =some v/\j<xs.length/\ -(xs.length:Int)<=i/\i<xs.length:=by
 unfold n6 at h
 cases e:FG xs.length i with
 | none=>rw[e]at h;cases h
 | some j=>
  rw[e]at h;obtain⟨a,b,c,d⟩:=G9 e;exact⟨j,a,h,b,c,d⟩
theorem iT{α:Type}{xs:List α}{j:Nat}{v:α}(h:xs[j]? =some v):n6 xs (j:Int)=some v:=by
 have a:j<xs.length:=(aFp.mp h).1
 have e:FG xs.length (j:Int)=some j:=by
  unfold FG;rw[if_pos (by lia),if_pos (by lia)];simp
 unfold n6;rw[e];exact h
def HN(b:Expr):Prop:=∀o i,subscripted b false o i=operate [o,i] (getItem o i)
def UJ(X:Cx)(r:R2):Prop:=
 ∀(b a:Expr) (pins:List (Addr×Obj)) (s:Shared) (σ:St) (H:Hp) (x y:V) (v u:Value) (Q:VK),Inv X pins σ H s->RelV x v->RelV y u->r x y H Q->
  subscripted a false v u=operate [v,u] (getItem v u)->wpAny (model X.prog X.w) X.A (subscriptTail b a v u) (EP X pins σ Q) X.xe s
def MtR(X:Cx)(id:String)(r:V->List V->Hp->VK->Prop):Prop:=
 ∀(pins:List (Addr×Obj)) (s:Shared) (σ:St) (H:Hp) (x:V) (xs:List V) (v:Value) (us:List Value) (Q:VK),Inv X pins σ H s->RelV x v->Vals xs us->r x xs H Q->
  wpAny (model X.prog X.w) X.A (call (.builtin id) (v::us)) (EP X pins σ Q) X.xe s
section
variable {X:Cx}{a b:Expr}{ta tb:TE}{pos:Pos}
theorem aAz{r:R2}(c:UJ X r)(ha:PE X a ta)(hb:PE X b tb)(d:HN b):PE X (.Subscript a b pos) (tOp r ta tb):=by
 intro pins s σ H Q I h;exact Subscript_ (Y9 ha hb I h λv u s2 x y e f g i q=>c a b pins s2 σ e x y v u Q f g i q (d _ _))
def aEp(K:aJj):R2:=λx y H Q=>∃p xs i v,x= .ref p/\y= .int i/\oV K H p xs/\n6 xs i=some v/\Q v H
def aEn(K:aJj):R2:=λx y H Q=>∃p xs i v,x= .ref p/\y= .int i/\oU K H p xs/\n6 xs i=some v/\Q v H
def aEo:R2:=λx y H Q=>∃z i c,x= .str z/\y= .int i/\z.length<=sizeLine/\n6 z.cps.toList i=some c/\Q (.str ⟨#[c]⟩) H
theorem SF:UJ X (aEp X.K):=by
 intro b c pins s σ H x y v u Q I l m h g;obtain⟨p,xs,i,z,rfl,rfl,n,he,q⟩:=h;cases l;obtain⟨t,rfl⟩:=m;obtain⟨aJ,r,d,hz⟩:=I.list n;obtain⟨j,a,o,E,A,B⟩:=AZ he;obtain⟨w,k,e⟩:=r.get o;have C:=r.length;have F:=lX
 have fin:EP X pins σ Q w s:=⟨z,H,I,e,q⟩
 by_cases h0:0<=i
 ·have f:i.toNat=j:=by
   rw[seqIndex_of h0 B]at a;exact aG8 a
  exact item_listR d.isList h0 (by lia) (by rw[f];simpa using k) fin g
 ·have f:(i+(aJ.toArray.size:Int)).toNat=j:=by
   rw[seqIndex_neg (by lia) A]at a;rw[List.size_toArray,<-C];exact aG8 a
  exact subscriptTail_builtinR (x:=w) d.isList.typeIs slot_list_getitem.lookup
   (wpAny_getItem_list_neg (Q:=λr D =>r=w/\EP X pins σ Q r D) d.isList (by lia) (by rw[List.size_toArray] <;> lia) (by lia) (by rw[f];simpa using k) ⟨rfl,fin⟩) g
theorem X2:UJ X (aEn X.K):=by
 intro a b pins s σ H x y v u Q I e f h g;obtain⟨p,xs,i,z,rfl,rfl,k,he,q⟩:=h;cases e;obtain⟨t,rfl⟩:=f;obtain⟨aJ,r,d,hz⟩:=I.tuple k;obtain⟨j,l,m,B,C,D⟩:=AZ he;obtain⟨w,n,c⟩:=r.get m;have o:=r.length;have E:=lX
 have fin:EP X pins σ Q w s:=⟨z,H,I,c,q⟩
 exact subscriptTail_builtinR (x:=w) d.typeIs slot_tuple_getitem.lookup
  (getItem_tuple (j:=j) (Q:=λr A =>r=w/\EP X pins σ Q r A) d (by lia) (by lia) (by rw[List.size_toArray,<-o];exact l) (by simpa using n) ⟨rfl,fin⟩) g
theorem X3:UJ X aEo:=by
 intro a b pins s σ H x y v u Q I e f h g;obtain⟨z,i,c,rfl,rfl,hz,he,q⟩:=h;obtain⟨t,rfl⟩:=e;obtain⟨t',rfl⟩:=f;obtain⟨j,d,k,r,l,m⟩:=AZ he;have n:z.cps.toList.length=z.length:=by simp[Str.length]
 rw[n]at d l m;have w:=lX
 exact tail_any (typeIs_str s z t) slot_str_getitem.lookup (getItem_str (c:=c) (by
  have o:decide (i < -(2^63:Int))=false:=aHp (by lia);have p:decide (i>=2^63)=false:=aHp (by lia)
  rw[o,p,Bool.or_false]) (by rw[d];simpa using k) ⟨.str ⟨#[c]⟩,H,I.tok _,⟨_,rfl⟩,q⟩) g
theorem E7(aJ:List Value)(n j:Nat)(u:Value):Obj.mapSeq (·.setIfInBounds j u) {cls:= .type "list",data:= .seq aJ.toArray n}={cls:= .type "list",data:= .seq (aJ.set j u).toArray n}:=by
 simp[Obj.mapSeq]
variable{pins:List (Addr×Obj)}{s:Shared}
theorem Inv.lst{σ:St}{H:Hp}{p:Addr}{xs:List V}(I:Inv X pins σ H s)(h:H p=some (.lst xs)):
  ∃(aJ:List Value) (n:Nat),Vals xs aJ/\s.heap.get? p=some {cls:= .type "list",data:= .seq aJ.toArray n}/\xs.length<=sizeLine:=by
 obtain⟨z,aJ,n,r,e⟩:=I.bY p _ h;exact⟨aJ,n,r,e,z⟩
theorem Inv.WZ{σ:St}{H:Hp}{p:Addr}{xs ys:List V}{aJ its' :List Value}{n a :Nat}{f:Obj->Obj}(I:Inv X pins σ H s)(h:H p=some (.lst xs))
  (ho:s.heap.get? p=some {cls:= .type "list",data:= .seq aJ.toArray n}) (c:f {cls:= .type "list",data:= .seq aJ.toArray n}={cls:= .type "list",data:= .seq its'.toArray a}) (r:Vals ys its') (hz:ys.length<=sizeLine) (t:Nat):
  Inv X pins σ (upd H p (.lst ys)) {s with heap:=s.heap.update p f,toks:=t}:=by
 have e:(s.heap.update p f).get? p=some {cls:= .type "list",data:= .seq its'.toArray a}:=by
  rw[Heap.get?_update_self f ho (by rw[c] <;> rfl),c]
 refine I.write (x:=p) (e:=p) (by rw[h];trivial) (.inl rfl) (λb u hb q=>(aGm _ _ (aGr hb)).trans q) ⟨_,e⟩ ?_;exact⟨hz,its',a,r,e⟩
def aAq:V->V->V->Hp->(Hp->Prop)->Prop:=λo i v H Q=>∃p xs k j,o= .ref p/\i= .int k/\H p=some (.lst xs)/\FG xs.length k=some j/\Q (upd H p (.lst (xs.set j v)))
theorem set_list:aCj X aAq:=by
 intro pins s σ H o i v y z u Q I l m w h;obtain⟨p,xs,k,j,rfl,rfl,d,x,q⟩:=h;cases l;obtain⟨t,rfl⟩:=m;obtain⟨aJ,n,r,ho,hz⟩:=I.lst d;obtain⟨a,A,e,f⟩:=G9 x;have b:=r.length;have B:=lX
 have g :Inv X pins σ (upd H p (.lst (xs.set j v))) {s with heap:=s.heap.update p (Obj.mapSeq (·.setIfInBounds j u))}:=
  I.WZ d ho (E7 aJ n j u) (r.set w j) (by rw[List.length_set];exact hz) s.toks
 by_cases h0:0<=k
 ·have c:k.toNat=j:=by
   rw[seqIndex_of h0 f]at a;exact aG8 a
  exact PySem.W.ki_setAt ho h0 (by lia) (by rw[List.size_toArray,<-b];exact f) (by rw[c];exact⟨_,g,q⟩)
 ·have c:(k+(aJ.toArray.size:Int)).toNat=j:=by
   rw[seqIndex_neg (by lia) e]at a;rw[List.size_toArray,<-b];exact aG8 a
  exact PySem.W.ki_setBack ho (by lia) (by rw[List.size_toArray,<-b];exact e) (by lia) (by rw[c];exact⟨_,g,q⟩)
theorem y9(lo hi:Option Int)(n:Nat):(sliceBounds lo hi none n).1=((HT.c7 n 0 lo:Nat):Int)/\(sliceBounds lo hi none n).2.1=((HT.c7 n n hi:Nat):Int)/\(sliceBounds lo hi none n).2.2=1:=by
 refine⟨?_,?_,rfl⟩
 ·cases lo with
  | none=>simp[sliceBounds,HT.c7]
  | some i=>
   simp only[sliceBounds,HT.c7,Option.getD_none,show (1:Int) > 0 by decide,if_true];by_cases h:i<0
   ·simp only[h,if_true] <;> lia
   ·simp only[h,if_false] <;> lia
 ·cases hi with
  | none=>simp[sliceBounds,HT.c7]
  | some i=>
   simp only[sliceBounds,HT.c7,Option.getD_none,show (1:Int) > 0 by decide,if_true];by_cases h:i<0
   ·simp only[h,if_true] <;> lia
   ·simp only[h,if_false] <;> lia
theorem v8(aJ:List Value)(lo hi:Option Int):slicePick aJ.toArray lo hi none=((aJ.drop (HT.c7 aJ.length 0 lo)).take (HT.c7 aJ.length aJ.length hi-HT.c7 aJ.length 0 lo)).toArray:=by
 obtain⟨a,b,c⟩:=y9 lo hi aJ.toArray.size;unfold slicePick;rw[a,b,c];simp only[sliceRange_one,pick_run,List.size_toArray] <;> rfl
def aEk(K:aJj):V->Option Int->Option Int->Hp->VK->Prop:=λx lo hi H Q=>∃a xs,x= .ref a/\oV K H a xs/\∀p,H p=none->Q (.ref p) (upd H p (.lst (AM xs lo hi)))
theorem PX:ZV X (aEk X.K):=by
 intro pins s σ H x v j k lo hi sl Q I d e f g h;obtain⟨a,xs,rfl,i,q⟩:=h;cases d;obtain⟨aJ,r,ht,hz⟩:=I.list i;have c:=r.length;refine⟨"list",_,slot_list_getitem.lookup,ht.isList.typeIs,?_⟩;refine wpAny_getItem_list_slice ht.isList e f g .none (by simp) ?_ (by rw[List.size_toArray] <;> lia);rw[v8,<-c];refine⟨.ref s.heap.objs.size,_,I.laid (t' :=s.toks) (o:= .lst (AM xs lo hi)) (λb ob q=>aFr _ q) (aFw _) ?_,rfl,q _ (I.bY.fresh (aFw _))⟩;exact⟨aGh (rZ xs lo hi) hz,_,0,(r.drop (HT.c7 xs.length 0 lo)).take (HT.c7 xs.length xs.length hi-HT.c7 xs.length 0 lo),aFy _ rfl⟩
theorem AS:cX X (.builtin "len") (λxs H Q=>∃p ys,xs=[.ref p]/\(oV X.K H p ys\/oU X.K H p ys)/\Q (.int ys.length) H):=by
 intro pins s σ H xs us Q I r h;obtain⟨p,ys,rfl,hq,q⟩:=h;obtain⟨u,rfl,d⟩:=vals1 r;cases d;have e:=lX;rcases hq with hq | hq
 ·obtain⟨aJ,b,c,hz⟩:=I.list hq;have a:=b.length;exact Calls.call_len_list c.isList (by simp only[List.size_toArray] <;> lia) ⟨.int ys.length,H,I.tok _,⟨s.toks+1,by rw[List.size_toArray,a]⟩,q⟩
 ·obtain⟨aJ,b,c,hz⟩:=I.tuple hq;have a:=b.length;exact len_tuple c (by simp only[List.size_toArray] <;> lia) ⟨.int ys.length,H,I.tok _,⟨s.toks+1,by rw[List.size_toArray,a]⟩,q⟩
theorem AR:cX X (.builtin "len") (λxs H Q=>∃z,xs=[.str z]/\z.length<=sizeLine/\Q (.int z.length) H):=by
 intro pins s σ H xs us Q I r h;obtain⟨z,rfl,hz,q⟩:=h;obtain⟨u,rfl,t,rfl⟩:=vals1 r;have a:=lX;exact len_str (by lia) ⟨.int z.length,H,I.tok _,⟨_,rfl⟩,q⟩
theorem i0:cX X (.type "tuple") (λxs H Q=>∃p ys,xs=[.ref p]/\((oV X.K H p ys/\∀l,H l=none->Q (.ref l) (upd H l (.tup ys)))\/(oU X.K H p ys/\Q (.ref p) H))):=by
 intro pins s σ H xs us Q I r h;obtain⟨p,ys,rfl,h⟩:=h;obtain⟨u,rfl,i⟩:=vals1 r;cases i
 rcases h with ⟨a,q⟩ | ⟨a,q⟩
 ·obtain⟨aJ,c,d,hz⟩:=I.list a;have f:=c.length;refine call_tuple_list d.isList (λh' kp=>?_) (by simp only[List.size_toArray] <;> lia);have g:Inv X pins σ H {s with heap:=h'}:=I.kept (t' :=s.toks) kp
  have j:Inv X pins σ (upd H h'.objs.size (.tup ys)) {s with heap:=h'.push {cls:= .type "tuple",data:= .seq aJ.toArray}}:=
   g.laid (t' :=s.toks) (λb o e=>aFr _ e) (aFw _) (show cW X.prog X.w _ _ _ (.tup ys) from ⟨hz,aJ,c,IsTup.new _ _,y8 _ _⟩)
  exact⟨.ref h'.objs.size,_,j,rfl,q _ (g.bY.fresh (aFw _))⟩
 ·obtain⟨aJ,c,d,hz⟩:=I.tuple a;exact call_tuple_same d ⟨.ref p,H,I,rfl,q⟩
def tyV(K:aJj)(T:String)(x:V)(H:Hp):Prop:=match x with
 | .str _=>T= "str"
 | .int _=>T= "int"
 | .ref p=>(T= "list"/\∃xs,oV K H p xs)\/(T= "tuple"/\∃xs,oU K H p xs)\/
   (T= "dict"/\((∃kvs,H p=some (.dK kvs))\/∃kvs,H p=some (.dT kvs)))\/(T= "set"/\∃S n,H p=some (.set S n))
 | _=>False
theorem UX{σ:St}{H:Hp}{T:String}{x:V}{v:Value}(I:Inv X pins σ H s)(r:RelV x v)(ty:tyV X.K T x H):
  s.TypeIs v T/\∀a,v= .ref a->∃ob,s.heap.get? a=some ob/\ob.dict=none:=by
 cases x with
 | str z=>
  obtain⟨t,rfl⟩:=r;cases (show T= "str" from ty);exact⟨typeIs_str s z t,λ_ e=>nomatch e⟩
 | int i=>
  obtain⟨t,rfl⟩:=r;cases (show T= "int" from ty);exact⟨typeIs_int s i t,λ_ e=>nomatch e⟩
 | ref p=>
  cases r
  rcases ty with ⟨rfl,xs,f⟩ | ⟨rfl,xs,f⟩ | ⟨rfl,b⟩ | ⟨rfl,S,n,b⟩
  ·obtain⟨aJ,_,g,_⟩:=I.list f;refine⟨g.isList.typeIs,λa e=>?_⟩;cases e;obtain⟨o,n,e,c,hd,_⟩:=g;exact⟨o,e,hd⟩
  ·obtain⟨o,h,d,j⟩:=I.UY f;refine⟨⟨o,h,d⟩,λa e=>?_⟩;cases e;exact⟨o,h,j⟩
  ·have z:∃o,s.heap.get? p=some o/\o.ExactDict:=by
    rcases b with ⟨kvs,b⟩ | ⟨kvs,b⟩
    ·obtain⟨_,_,_,_,o,_,_,e,ex,_⟩:=I.bY p _ b;exact⟨o,e,ex⟩
    ·obtain⟨_,_,_,_,o,_,_,e,ex,_⟩:=I.bY p _ b;exact⟨o,e,ex⟩
   obtain⟨o,e,ex⟩:=z;refine⟨⟨o,e,ex.1⟩,λa d=>?_⟩;cases d;exact⟨o,e,ex.2.1⟩
  ·obtain⟨o,_,_,_,e,ex,_⟩:=I.bY p _ b;refine⟨⟨o,e,ex.1⟩,λa d=>?_⟩;cases d;exact⟨o,e,ex.2.1⟩
 | _=>exact False.elim ty
def tBM(K:aJj)(T:String)(r:V->List V->Hp->VK->Prop)(to:TE)(t:TA):TE:=λσ H Q=>to σ H λx a=>tyV K T x a/\t σ a λxs b=>r x xs b Q
variable {o e:Expr}{es:List Expr}{to:TE}{t:TA}{name:Str}{apos fF:Pos}{T id:String}{r:V->List V->Hp->VK->Prop}
theorem aB0(pa:PlainAttrs T)(slot:Slot T name id)(i:typeOf (.builtin id)=pure (.type "method_descriptor"))(m:MtR X id r)(ho:PE X o to)(ha:PA X (e::es) t)
  (b:attributeBase o name X.env (eval o X.env)=eval o X.env:=by rfl)
  (d:((backTo fF (starEach (e::es) X.env)).all (λx=>!x.1) && (backToKw fF (keywordEach [] X.env)).all (λx=>x.1.isSome)
   && decide ((e::es).length+([]:List Keyword).length+(if ([]:List Keyword).isEmpty then 0 else 1)<30))=true:=by rfl)
  (c:(apos.endLine==fF.line)=true:=by rfl) (n:starEach (e::es) X.env=(false,eval e X.env)::starEach es X.env:=by rfl) (a:(backTo fF (starEach es X.env)).any (·.1)=false:=by rfl):
  PE X (.Call (.Attribute o name apos) (e::es) [] fF) (tBM X.K T r to t):=by
 intro pins s σ H Q I h;refine wpAny_Call_method_late b d c rfl (cA (ho pins s σ H _ I h) λv s1 f=>?_);obtain⟨x,p,j,k,ty,q⟩:=f;obtain⟨u,w⟩:=UX j k ty;refine⟨T,id,pa,slot,i,u,w,?_⟩;have l:=ha fF pins s1 σ p _ j q;rw[n]at l⊢;refine Calls.callWith_builtin (by show (false || (backTo fF (starEach es X.env)).any (·.1))=false;rw[a] <;> rfl) (Calls.evalArgs_plain ?_);exact cA l λus s2 g=>by obtain⟨vs,y,z,A,B⟩:=g;exact m pins s2 σ y x vs v us Q z k A B
end
def MtM(X:Cx)(id:String)(r:V->List V->Hp->VK->Prop):Prop:=
 ∀(pins:List (Addr×Obj)) (s:Shared) (σ:St) (H:Hp) (x:V) (xs:List V) (v:Value) (us:List Value) (Q:VK),Inv X pins σ H s->RelV x v->Vals xs us->r x xs H Q->
  wpAny (model X.prog X.w) X.A (call (.builtin id) (v::us)) (EP X pins σ Q) X.xe s
theorem Vals.one:∀{x:V} {us:List Value},Vals [x] us->∃u,us=[u]/\RelV x u
 | _,_,.cons r .nil=>⟨_,rfl,r⟩
section
variable {X:Cx}{pins:List (Addr×Obj)}{σ:St}{H:Hp}{s:Shared}{l b:Addr}{xs ys zs:List V}
theorem Inv.W4{aJ its' :List Value}{f:Array Value->Array Value}{t' :Nat}(I:Inv X pins σ H s)(a:H l=some (.lst xs))
  (e:s.heap.get? l=some {cls:= .type "list",data:= .seq aJ.toArray n}) (b:f aJ.toArray=its'.toArray) (c:Vals ys its') (hz:ys.length<=sizeLine):
  Inv X pins σ (upd H l (.lst ys)) {s with heap:=s.heap.update l (Obj.mapSeq f),toks:=t'}:=by
 have q:=PySem.IsL.update e f;rw[b]at q;refine I.write (x:=l) (e:=l) (by rw[a];exact trivial) (.inl rfl) (λg u hb d=>(aGm s.heap (Obj.mapSeq f) (aGr hb)).trans d) ⟨_,q⟩ ?_;exact⟨hz,its',_,c,q⟩
theorem Inv.aF0{aJ:List Value}{t' :Nat}(I:Inv X pins σ H s)(a:Vals ys aJ)(hz:ys.length<=sizeLine):
  Inv X pins σ (upd H s.heap.objs.size (.lst ys)) {s with heap:=s.heap.push {cls:= .type "list",data:= .seq aJ.toArray},toks:=t'}:=
 I.laid (λ_ _ q=>aFr _ q) (aFw _) ⟨hz,aJ,0,a,aFy _ rfl⟩
theorem Inv.fresh(I:Inv X pins σ H s):H s.heap.objs.size=none:=I.bY.fresh (aFw _)
theorem Inv.FA(I:Inv X pins σ H s)(a:H l=some (.lst xs)):xs.length<=sizeLine/\∃(aJ:List Value) (n:Nat),Vals xs aJ/\xs.length=aJ.length/\s.heap.get? l=some {cls:= .type "list",data:= .seq aJ.toArray n}:=by
 obtain⟨z,aJ,n,r,e⟩:=I.bY l _ a;exact⟨z,aJ,n,r,r.length,e⟩
theorem CI(h:n<=sizeLine):Builtin.List.listTooLong n=false:=by
 unfold Builtin.List.listTooLong;exact aHp (by lia)
end
section
variable {X:Cx}
def QF:V->List V->Hp->VK->Prop:=λx vs H Q=>∃l xs y,x= .ref l/\vs=[y]/\H l=some (.lst xs)/\xs.length<sizeLine/\Q .cL (upd H l (.lst (xs++[y])))
theorem qW:MtM X "list.append" QF:=by
 intro pins s σ H x vs v us Q I b c h;obtain⟨l,xs,y,rfl,rfl,a,hz,q⟩:=h;cases b;obtain⟨u,rfl,d⟩:=c.one;obtain⟨z,aJ,n,r,f,e⟩:=I.FA a;refine call_meets F.slot_list_append ⟨_,e,rfl⟩ F.entry_list_append (F.args_list_append_2 _ _) (PySem.list_append l aJ.toArray n u (by rw[List.size_toArray];lia)) ⟨e,?_⟩;refine⟨.cL,_,I.W4 (its' :=aJ++[u]) a e (by simp) (r.append (.cons d .nil)) ?_,rfl,q⟩;rw[List.length_append,List.length_singleton]
 lia
def QE:V->List V->Hp->VK->Prop:=λx vs H Q=>∃l b xs a,x= .ref l/\vs=[.ref b]/\H l=some (.lst xs)/\H b=some (.lst a)/\xs.length+a.length<=sizeLine/\Q .cL (upd H l (.lst (xs++a)))
theorem ZO:MtM X "list.extend" QE:=by
 intro pins s σ H x vs v us Q I f g h;obtain⟨l,b,xs,t,rfl,rfl,d,i,hz,q⟩:=h;cases f;obtain⟨u,rfl,j⟩:=g.one;cases j;obtain⟨z,aJ,n,r,w,e⟩:=I.FA d;obtain⟨y,a,k,m,o,p⟩:=I.FA i;have hsz:aJ.toArray.size+a.toArray.size<=sizeLine:=by rw[List.size_toArray,List.size_toArray];lia
 have c:¬(!aJ.toArray.isEmpty && Builtin.List.listTooLong (aJ.toArray.size+a.toArray.size))=true:=by
  rw[CI hsz,Bool.and_false];exact Bool.false_ne_true
 refine call_meets F.slot_list_extend ⟨_,e,rfl⟩ F.entry_list_extend (F.args_list_extend_2 _ _)
  (AutoSeq1.list_extend_list_list_0 l aJ.toArray n b a.toArray k c (by rw[List.size_toArray];lia) (by lia)) ⟨e,p,?_⟩
 refine⟨.cL,_,I.W4 (its' :=aJ++a) d e (by simp) (r.append m) ?_,rfl,q⟩;rw[List.length_append]
 lia
def aEq:R2:=λx y H Q=>∃l b xs a,x= .ref l/\y= .ref b/\H l=some (.lst xs)/\H b=some (.lst a)/\xs.length+a.length<=sizeLine/\∀p,H p=none->Q (.ref p) (upd H p (.lst (xs++a)))
theorem V8:dO X (binaryOp .Add) aEq:=by
 intro pins s σ H x y v u Q I c d h;obtain⟨l,b,xs,o,rfl,rfl,f,g,hz,q⟩:=h;cases c;cases d;obtain⟨z,aJ,n,r,p,e⟩:=I.FA f;obtain⟨t,a,w,i,j,k⟩:=I.FA g;refine PySem.P.add_list e k ?_ (by rw[List.size_toArray,List.size_toArray];lia);have m:aJ.toArray++a.toArray=(aJ++a).toArray:=by simp
 rw[m];exact⟨.ref _,_,I.aF0 (t' :=s.toks) (r.append i) (by rw[List.length_append];lia),rfl,q _ I.fresh⟩
end
end L2
namespace Att
open PySem PySem.W PySem.Calls PyProof.Rows
theorem sF{P:Params}{h:Heap}:∀(ns:List Int) (vs:List Value),WellAll P h vs (ns.map WData.int)->IntsAre vs ns:=by
 intro ns
 induction ns with
 | nil=>
  intro vs w;rw[List.map_nil]at w;cases w;exact .nil
 | cons n ns ih=>
  intro vs w;rw[List.map_cons]at w
  cases w with
  | cons a b=>
   cases a;exact .cons _ _ (ih _ b)
theorem HW{l:OpenLaw}{n:Nat}(m:l.most=some n){P:Params}{h:Heap}{args:List WData}{vals:List Value}
  (b:l.row.toRowW.claim.pre args=true) (i:WellAll P h vals args):
  ∃a vs ns,vals=[Value.ref a]/\args=[WData.list (ns.map WData.int)]/\h.get? a=some {cls:= .type "list",data:= .seq vs.toArray}/\IntsAre vs ns/\ns.length<=n:=by
 have j:WShape.hasAll [] args [.list .int]=true:=(pre_splitW b).1;have k:l.pre.holds [] {args:=args}=true:=(pre_splitW b).2;obtain⟨d,r,rfl,o,p⟩:=hasAllW_cons j;obtain rfl:=hasAllW_nil p;obtain⟨xs,rfl,s⟩:=hasW_list o;obtain⟨ns,rfl⟩:=items_int s
 have c:ns.length<=n:=by
  unfold OpenLaw.pre at k
  have f:(WTm.not (.lt (.lit (.int (n:Int))) (.len (.arg 0)))).holds [] {args:=[.list (ns.map .int)]}=true:=by
   have f:=(holds_andW k).1;rw[m]at f;exact f
  have g:=condW_of f (w_not (w_lt w_lit (w_len_list (w_arg rfl))));rw[List.length_map]at g;refine aIf λq=>?_;have t :(n:Int)<((ns.length:Nat):Int):=by lia
  first
   | (rw[decide_eq_true t]at g;exact absurd g (by decide))
   | (simp at g;lia)
 cases i with
 | cons u v=>
  cases v
  cases u with
  | list ho e=>exact⟨_,_,ns,rfl,rfl,ho,sF ns _ e,c⟩
theorem IE(l:OpenLaw)(args:List WData):l.row.toRowW.claim.post args (.bool true) args=true:=
 postW_of (r:=l.row.toRowW) (X:=(true==true))
  (show WShape.has [] (.bool true) .bool=true by first | rfl | decide | simp[WShape.has,WShape.arms,WShape.armsAll])
  (show (WTm.eq .res (.lit (.bool true))).value [] {args:=args,res:=some (.bool true),after:=args}=some (.bool (true==true)) from w_eq_bool (w_res rfl) w_lit) rfl
theorem D4{l:OpenLaw}{n:Nat}{q:Program}{loose:List Str}{XP:(aJm)->Heap->Prop}{t:World->Heap->Prop}{d:DefRec}
  (x:l.most=some n) (k:d.params.defaults=[])
  (call:∀(w:World) (s₀ b:Shared) (mg mb:aJm) (e:Addr) (o:Obj) (pm cd doc:Value) (a:Addr) (vs:List Value) (ns:List Int),
   Ground q loose [] XP w s₀ mg mb b.heap->t w b.heap->
   b.heap.get? e=some o->o.data= .func (docDef d.name d.params d.body d.scope pm cd doc)->b.heap.CodeRec cd d.name->mg d.name=some (.ref e)->
   b.heap.get? a=some {cls:= .type "list",data:= .seq vs.toArray}->IntsAre vs ns->ns.length<=n->b.gens= #[]->
   codeAny (model l.prog w) callerA (.call (.ref e) ⟨[.ref a],[]⟩) (λr j =>r= .ok (.ret (.bool true))/\OldK b.heap j.heap/\j.os=b.os/\AllBare j.gens) b):
  WalkO q loose XP t l.row.toRowW d [] (λf vs=>PySem.call f vs):=by
 intro w s₀ b mg mb G Y e o pm cd doc y kV ho hd m u p hg args vals as g v z s A;obtain rfl:y= .none:=Dflts.none u k;obtain rfl:kV= .none:=Dflts.noKw u;obtain⟨a,vs,ns,rfl,rfl,h,c,i⟩:=HW x g s;refine enter_call (aHt (call w s₀ b mg mb e o pm cd doc a vs ns G Y ho (fd_plain hd) m p h c i hg) λr j B=>?_);obtain⟨rfl,C,D,E⟩:=B;exact⟨.inl ⟨.bool true,.bool true,[],rfl,λ_=>rfl,.bool true,IE l _,λ_=>⟨List.Pairwise.nil,λ_ F=>(nomatch F)⟩⟩,C,D,E⟩
end Att
namespace L2
open PySem PySem.Spec PyProof.Rows
theorem w6:∀{vs:List Value} {ns:List Int},IntsAre vs ns->Vals (ns.map V.int) vs
 | _,_,.nil=>.nil
 | _,_,.cons n t h=>.cons ⟨t,rfl⟩ (w6 h)
def TK(H:Hp):Prop:=∀b,H b=none\/∃o xs,H b=some (.frz o (.lst xs))
variable{P:Program}{w:World}{fd:FuncData}{x:Str}
theorem M6{K:aJj}{mg mb:aJm}{CX:J6}{k:Nat}{E a:Addr}{sp:Sp}{c:Shared}{vs:List Value}{ns:List Int}
  (KX:K.In c.heap) (p:c.heap.Ns mainGlobals mg) (hb:c.heap.Ns builtinsNs mb) (G:∀x:Str,x≠ "__name__"->mb x=bootBuiltins x) (t:c.heap.NoLimit) (hg:c.gens= #[])
  (ha:c.heap.get? a=some {cls:= .type "list",data:= .seq vs.toArray}) (hi:IntsAre vs ns) (N:ns.length<=sizeLine) (T:gC k callerA)
  (F:∀base:Heap,K.In base->base.Ns mainGlobals mg->jN P w K mg base CX k E fd [x] sp) (l:∀(s:Shared) (u:Value),BindsTo s fd ⟨[u],[]⟩ [(x,u)])
  (I:∀H:Hp,TK H->oV K H a (ns.map V.int)->sp [.ref a] H (λv _=>v= .bl true) λ_ _ _=>False)
  (J:∀H e g,CX [] H c (λ_ _ _=>False) e g ->False):
  codeAny (model P w) callerA (.call (.ref E) ⟨[.ref a],[]⟩) (λr g =>r= .ok (.ret (.bool true))/\OldK c.heap g.heap/\g.os=c.os/\AllBare g.gens) c:=by
 have O:=w6 hi;have y:=hi.length
 have j:∀H:Hp,TK H->oV K H a (ns.map V.int)->qJ P w H c.heap->(∀b,H b≠none->b=a)->(H a≠none->K.lookup a=none)->
   codeAny (model P w) callerA (.call (.ref E) ⟨[.ref a],[]⟩) (λr g =>r= .ok (.ret (.bool true))/\OldK c.heap g.heap/\g.os=c.os/\AllBare g.gens) c:=by
  intro H Q U bY R W;have f:∀{b:Addr} {o:Obj},c.heap.get? b=some o->H b=none->(AB c.heap H).get? b=some o:=λe n=>NI e n
  have L:∀{b:Addr} {o:Obj} {A:Array DictEntry} {ep:Nat},c.heap.get? b=some o->o.data= .dict A ep->H b=none:=λ{b o A ep} e d=>by
   cases q:H b with
   | none=>rfl
   | some u=>
    have M :b=a:=R b (by rw[q];simp);subst M;rw[ha]at e;cases e;have d' :Data.seq vs.toArray _=Data.dict A ep:=d;cases d'
  have i:∀{b:Addr} {m:aJm},c.heap.Ns b m->(AB c.heap H).Ns b m:=λ{b m} ⟨o,A,ep,e,d,r⟩=>⟨o,A,ep,f e (L e d),d,r⟩
  have B:K.In (AB c.heap H):=λb o e=>f (KX b o e) (by
   cases q:H b with
   | none=>rfl
   | some u=>
    have M :b=a:=R b (by rw[q];simp);subst M
    rw[W (by rw[q];simp)]at e;cases e)
  have X:Mod K mg (AB c.heap H):=⟨B,i p,⟨mb,i hb,G⟩,let ⟨mc,h1,h2⟩:=t;⟨mc,i h1,h2⟩⟩
  have Y:TN P w K mg (AB c.heap H) callerA [] c H:=⟨rfl,X,λb o e=>Q7 e,Nat.le_of_eq (JC _ _),trivial,λb hb=>absurd (show b∈([]:List Addr) from hb) (by simp),bY,.of_eq hg⟩
  refine aHt ((F _ B (i p)).run callerA [] c H ⟨[.ref a],[]⟩ [.ref a] [.ref a] _ _ T Y (l c (.ref a)) (.cons rfl .nil) (I H Q U)) λr g h=>?_
  cases r with
  | error e=>exact(J H e g h).elim
  | ok fl=>
   cases fl with
   | next=>exact False.elim h
   | brk=>exact False.elim h
   | cont=>exact False.elim h
   | ret u=>
    obtain⟨v,H',os,bare,un,C,Z,q⟩:=h;have q' :v= .bl true:=q;subst q';obtain rfl:u=Value.bool true:=Z;refine⟨rfl,OldK.of_keep λb o e=>?_,os,bare⟩
    cases q:H b with
    | none=>exact un.keep b o e q (by intro z;exact absurd (show b∈([]:List Addr) from z) (by simp)) (by simp)
    | some u=>
     rcases Q b with z | ⟨ob,xs,z⟩
     ·rw[q]at z;cases z
     ·have z2:=un.AE b ob _ z;obtain⟨S,_⟩:=bY b _ z;obtain⟨e2,_⟩:=C b _ z2;rw[e]at S;cases S;exact e2
 cases hk:K.lookup a with
 | some o=>
  have e:=KX a o hk;rw[ha]at e;cases e;refine j (λ_=>none) (λ_=>.inl rfl) (.inr ⟨_,vs.toArray,_,hk,rfl,rfl,rfl,by rw[List.size_toArray,y];exact N,by simpa using O⟩) (λb u z=>by have D :(none:Option HO)=some u:=z;cases D) (λb z=>absurd rfl z) λz=>absurd rfl z
 | none=>
  refine j (λb=>if b=a then some (.frz {cls:= .type "list",data:= .seq vs.toArray} (.lst (ns.map V.int))) else none) (λb=>?_) (.inl (.inr ⟨{cls:= .type "list",data:= .seq vs.toArray},if_pos rfl⟩)) (λb u z=>?_) (λb z=>?_) λ_=>hk
  ·by_cases hb:b=a
   ·exact .inr ⟨_,_,if_pos hb⟩
   ·exact .inl (if_neg hb)
  ·by_cases hb:b=a
   ·have D :=(if_pos hb).symm.trans z;cases D;subst hb;exact⟨ha,by rw[List.length_map];exact N,vs,_,O,ha⟩
   ·have D :=(if_neg hb).symm.trans z;cases D
  ·by_cases hb:b=a
   ·exact hb
   ·exact absurd (if_neg hb) z
theorem PB{l:PySem.W.OpenLaw}{n k:Nat}{q:Program}{loose:List Str}{XP:(aJm)->Heap->Prop}{C:World->Heap->Prop}{d:DefRec}{K:Params->aJj}{CX:World->J6}{sp:World->Sp}
  (D:l.most=some n) (r:n<=sizeLine) (t:d.params.defaults=[]) (E:gC k callerA)
  (I:∀(w:World) (h:Heap),C w h->(K w.params).In h)
  (F:∀(w:World) (mg:aJm) (p:Addr) (h:Heap),(K w.params).In h->h.Ns mainGlobals mg->mg d.name=some (.ref p)->
   ∃fd:FuncData,(∀(s:Shared) (u:Value),BindsTo s fd ⟨[u],[]⟩ [(x,u)])/\
    ∀base:Heap,(K w.params).In base->base.Ns mainGlobals mg->jN l.prog w (K w.params) mg base (CX w) k p fd [x] (sp w))
  (y:∀(w:World) (H:Hp) (a:Addr) (ns:List Int),ns.length<=n->TK H->oV (K w.params) H a (ns.map V.int)->sp w [.ref a] H (λv _=>v= .bl true) λ_ _ _=>False)
  (z:∀(w:World) (H:Hp) (s:Shared) (e:Value) (A :Shared),CX w [] H s (λ_ _ _=>False) e A ->False):
  PySem.W.WalkO q loose XP C l.row.toRowW d [] (λf vs=>PySem.call f vs):=by
 refine Att.D4 D t λw s₀ j mg mb p o pm cd doc a vs ns G Y ho hd J B m i c hg=>?_;have KX:=I w _ Y;obtain⟨fd,hb,L⟩:=F w mg p _ KX G.T.g B;exact M6 KX G.T.g G.T.b G.T.builtins G.T.nolimit hg m i (aGh c r) E L hb (λH M N=>y w H a ns c M N) λH e A =>z w H j e A
def eW(s:Stmt):Arguments:=match s with
 | .FunctionDef _ a _ _ _ _ _ _ _ _=>a
 | _=>{posonlyargs:=[],args:=[],vararg:=none,kwonlyargs:=[],kw_defaults:=[],kwarg:=none,defaults:=[]}
def cJ(s:Stmt):List Stmt:=match s with
 | .FunctionDef _ _ b _ _ _ _ _ _ _=>b
 | _=>[]
def aC(s:Stmt):Scope:=match s with
 | .FunctionDef _ _ _ _ _ _ sc _ _ _=>sc
 | _=>{kind:= .function,names:=[],isGenerator:=false,isCoroutine:=false}
abbrev D9:J6:=λ_ _ _ _ _ _=>False
abbrev E0:XK:=λ_ _ _=>False
theorem aB2{X:Cx}:Passes D9 X E0:=λ_ _ _ _ _ _ _ h=>h.elim
structure ZW(K:aJj)(x qual:Str)(st:Stmt)(f:Addr)(fd:FuncData):Prop where
 ex:∃(oc:Value) (od:Option Addr) (kV doc pm:Value) (an:Option Addr) (cdv ct:Value) (osl:Array (Option Value)),
  fd=PySem.W.fnOf x qual (eW st) (cJ st) (aC st) .none kV doc pm an cdv ct/\K.lookup f=some ⟨oc,od,.func fd,osl⟩/\PySem.W.codeIn K cdv qual=true
 kp:PySem.W.keepIn K (.ref f)=true
section
variable {P:Program}{w:World}{K:aJj}{mg:aJm}{base:Heap}
theorem ZW.ok{x qual:Str}{st:Stmt}{f:Addr}{N ps:List Str}{k:Nat}{sp:Sp}(F:ZW K x qual st f fd)(S:aV N ps (aC st))(len:∀vs H Q E,sp vs H Q E->vs.length=ps.length)
  (a:∀(cdv:Value) (A:Around) (outer:List Env) (s:Shared) (H:Hp) (vs:List V) (Q:VK) (E:XK),gC k (A.deeper (envOfC qual (aC st) s.heap.objs.size f cdv))->sp vs H Q E->
   ∃t,A4 (vP D9 P w K mg base N qual (aC st) f cdv A outer s H E).Q9 (cJ st) t/\t {nx:=λ_ H' =>Q .cL H',rt:=Q} (start N vs) H):jN P w K mg base D9 (k+1) f fd ps sp:=by
 obtain⟨oc,od,kV,doc,pm,an,cdv,ct,osl,rfl,d,b⟩:=F.ex;refine aCa d b S len λA outer s H vs Q E e c=>?_;obtain⟨t,h,q⟩:=a cdv A outer s H vs Q E e c;exact⟨t,h.Q9,q⟩
theorem ZW.binds{x qual:Str}{st:Stmt}{f:Addr}{ps:List Str}(F:ZW K x qual st f fd)
  (h:∀(kV doc pm:Value) (an:Option Addr) (cdv ct:Value) (us:List Value),us.length=ps.length->bindArgs (PySem.W.fnOf x qual (eW st) (cJ st) (aC st) .none kV doc pm an cdv ct) ⟨us,[]⟩=pure (ps.zip us)):Binds K fd ps []:=by
 obtain⟨oc,od,kV,doc,pm,an,cdv,ct,osl,rfl,b,a⟩:=F.ex;exact .all (h kV doc pm an cdv ct)
theorem FN{x qual:Str}{st:Stmt}{f:Addr}{oc:Value}{od an:Option Addr}{osl:Array (Option Value)}{kV doc pm cdv ct:Value}(l:K.lookup f=some ⟨oc,od,.func (PySem.W.fnOf x qual (eW st) (cJ st) (aC st) .none kV doc pm an cdv ct),osl⟩)
  (c:PySem.W.codeIn K cdv qual=true) (k:PySem.W.keepIn K (.ref f)=true):ZW K x qual st f (PySem.W.fnOf x qual (eW st) (cJ st) (aC st) .none kV doc pm an cdv ct):=⟨⟨oc,od,kV,doc,pm,an,cdv,ct,osl,rfl,l,c⟩,k⟩
end
theorem xB{n:Nat}(h:n<=1000):n<sizeLine:=aJ9 h (by decide)
section
variable {κ:Type}[DecidableEq κ]
def qP(kvs:List (κ×V))(k:κ):Option V:=(kvs.find? λa=>decide (a.1=k)).map (·.2)
def putK(kvs:List (κ×V))(k:κ)(v:V):List (κ×V):=
 if (kvs.any λa=>decide (a.1=k))=true then kvs.map (λa=>if a.1=k then (a.1,v) else a) else kvs++[(k,v)]
variable{r:List (κ×V)}
theorem pD{p:κ×V}{k:κ}(e:p.1=k):qP (p::r) k=some p.2:=by simp[qP,List.find?_cons,e]
theorem pE{p:κ×V}{k:κ}(e:¬p.1=k):qP (p::r) k=qP r k:=by simp[qP,List.find?_cons,e]
theorem BN(k:κ):∀kvs:List (κ×V),(kvs.any λa=>decide (a.1=k))=(qP kvs k).isSome
 | []=>rfl
 | p::r=>by
  rw[List.any_cons];by_cases e:p.1=k
  ·simp only[pD e,decide_eq_true e,Bool.true_or,Option.isSome_some]
  ·rw[pE e,decide_eq_false e,Bool.false_or];exact BN k r
theorem rQ(kvs:List (κ×V))(k:κ)(v:V):(putK kvs k v).length<=kvs.length+1:=by
 unfold putK;split
 ·rw[List.length_map];lia
 ·rw[List.length_append,List.length_cons,List.length_nil];lia
variable{u:Option Value}
theorem sH.IZ{o:Option V}(r:sH o u):o.isSome=u.isSome:=by
 cases o with
 | none=>cases u with
  | none=>rfl
  | some _=>exact(show False from r).elim
 | some _=>cases u with
  | none=>exact(show False from r).elim
  | some _=>rfl
theorem sH.getD{o:Option V}{d:V}{d' :Value}(r:sH o u)(a:RelV d d'):RelV (o.getD d) (u.getD d'):=by
 cases o with
 | none=>cases u with
  | none=>exact a
  | some _=>exact(show False from r).elim
 | some _=>cases u with
  | none=>exact(show False from r).elim
  | some _=>exact r
variable{kvs:List (κ×V)}{vs:List (κ×Value)}
theorem KV.val(r:KV kvs vs)(k:κ):sH (qP kvs k) (valueAt vs k):=by
 unfold KV at r
 induction r with
 | nil=>exact True.intro
 | @cons p q ps qs h t ih=>
  obtain⟨c,d⟩:=h;by_cases e:p.1=k
  ·have a :q.1=k:=c.symm.trans e;have b:valueAt (q::qs) k=some q.2:=by simp[valueAt,List.find?_cons,a]
   rw[pD e,b];exact d
  ·have a :¬q.1=k:=λz=>e (c.trans z);have b:valueAt (q::qs) k=valueAt qs k:=by simp[valueAt,List.find?_cons,a]
   rw[pE e,b];exact ih
theorem KV.any(r:KV kvs vs)(k:κ):(kvs.any λa=>decide (a.1=k))=vs.any λa=>decide (a.1=k):=by
 unfold KV at r
 induction r with
 | nil=>rfl
 | cons h t ih=>rw[List.any_cons,List.any_cons,ih,h.1]
theorem KV.VH(r:KV kvs vs)(k:κ){y:V}{u:Value}(c:RelV y u):
  KV (kvs.map λa=>if a.1=k then (a.1,y) else a) (vs.map λa=>if a.1=k then (a.1,u) else a):=by
 unfold KV at r⊢
 induction r with
 | nil=>exact .nil
 | @cons p q ps qs h t ih=>
  rw[List.map_cons,List.map_cons];refine .cons ?_ ih;obtain⟨b,d⟩:=h;by_cases e:p.1=k
  ·rw[if_pos e,if_pos (b.symm.trans e)];exact⟨b,c⟩
  ·rw[if_neg e,if_neg (λz=>e (b.trans z))];exact⟨b,d⟩
theorem KV.put(r:KV kvs vs)(k:κ){y:V}{u:Value}(a:RelV y u):KV (putK kvs k y) (stored vs k u):=by
 unfold putK stored;rw[r.any k];by_cases e:(vs.any λb=>decide (b.1=k))=true
 ·rw[if_pos e,if_pos e];exact r.VH k a
 ·rw[if_neg e,if_neg e];exact Paired.snoc r ⟨rfl,a⟩
theorem KV.length(r:KV kvs vs):kvs.length=vs.length:=Paired.length r
end
variable{u:Value}
theorem xS{k:Key}(r:RelV (kV k) u):(aW P w).is k u=true:=by
 cases k with
 | inl i=>obtain⟨t,e⟩:=(show ∃t,u=Value.int i t from r);subst e;exact CM P w i t
 | inr x=>obtain⟨t,e⟩:=(show ∃t,u=Value.str x t from r);subst e;exact CL P w x t
theorem xU{P:Program}{w:World}:∀{ks:List Key} {us:List Value},Vals (ks.map kV) us->ItemsAre (aW P w) ks us
 | [],_,r=>by rw[List.map_nil]at r;cases r;exact .nil
 | k::ks,_,r=>by
  rw[List.map_cons]at r
  cases r with
  | cons h t=>exact .cons (xS h) (xU t)
abbrev KT(H:Hp):List (List Key×V)->List (List Key×Addr×Value)->Prop:=Paired λp q=>p.1=q.1/\H q.2.1=some (.tup (p.1.map kV))/\RelV p.2 q.2.2
variable{H:Hp}{kvs:List (List Key×V)}{xs:List (List Key×Addr×Value)}
theorem KT.val(r:KT H kvs xs)(k:List Key):sH (qP kvs k) ((atKey xs k).map (·.2)):=by
 induction r with
 | nil=>exact True.intro
 | @cons p q ps qs h t ih=>
  obtain⟨c,_,d⟩:=h;by_cases e:p.1=k
  ·have a :q.1=k:=c.symm.trans e;have b:atKey (q::qs) k=some q.2:=by simp[atKey,List.find?_cons,a]
   rw[pD e,b];exact d
  ·have a :¬q.1=k:=λz=>e (c.trans z);have b:atKey (q::qs) k=atKey qs k:=by simp[atKey,List.find?_cons,a]
   rw[pE e,b];exact ih
theorem KT.VH(r:KT H kvs xs)(k:List Key){y:V}(d:RelV y u):
  KT H (kvs.map λb=>if b.1=k then (b.1,y) else b) (xs.map (putAt k u)):=by
 induction r with
 | nil=>exact .nil
 | @cons p q ps qs h t ih=>
  rw[List.map_cons,List.map_cons];refine .cons ?_ ih;obtain⟨a,c,f⟩:=h;unfold putAt;by_cases e:p.1=k
  ·rw[if_pos e,if_pos (a.symm.trans e)];exact⟨a,c,d⟩
  ·rw[if_neg e,if_neg (λz=>e (a.trans z))];exact⟨a,c,f⟩
theorem KT.put(r:KT H kvs xs)(k:List Key){b:Addr}{y:V}(hb:H b=some (.tup (k.map kV)))(a:RelV y u):
  KT H (putK kvs k y) (storedH xs k b u):=by
 have e:(kvs.any λc=>decide (c.1=k))=(atKey xs k).isSome:=by
  rw[BN,(r.val k).IZ,Option.isSome_map]
 unfold putK storedH;rw[e];by_cases q:(atKey xs k).isSome=true
 ·rw[if_pos q,if_pos q];exact r.VH k a
 ·rw[if_neg q,if_neg q];exact Paired.snoc r ⟨rfl,hb,a⟩
theorem KT.keeps{H H' :Hp}(r:KT H kvs xs)(ht:∀b ys,H b=some (.tup ys)->H' b=some (.tup ys)):KT H' kvs xs:=
 Paired.WV r λ_ _ z=>⟨z.1,ht _ _ z.2.1,z.2.2⟩
section
variable {P:Program}{w:World}{H:Hp}{h:Heap}{a:Addr}
theorem T5{u:HO}(ok:qJ P w H h)(e:Rd H a u):cW P w H h a u:=e.ok ok
variable{kvs:List (Key×V)}
theorem DN(ok:qJ P w H h)(e:Rd H a (.dK kvs)):kvs.length<=sizeLine/\(a==sysModules)=false/\∃vs,KV kvs vs/\h.DictOf (aW P w) a vs:=
 show cW P w H h a (.dK kvs) from T5 ok e
theorem UH(ok:qJ P w H h)(e:H a=some (.dK kvs)):kvs.length<=sizeLine/\(a==sysModules)=false/\∃vs,KV kvs vs/\h.DictOf (aW P w) a vs:=DN ok (.inl e)
theorem zW{ks:List Key}(ok:qJ P w H h)(e:H a=some (.tup (ks.map kV))):(tupleKind (aW P w)).is h ks a:=by
 obtain⟨_,aJ,r,⟨o,b,c,n,d⟩,_⟩:=(show cW P w H h a (.tup (ks.map kV)) from ok a _ e)
 exact⟨o,aJ.toArray,n,b,c,d,by simpa using xU r⟩
variable{kvs:List (List Key×V)}
theorem DM(ok:qJ P w H h)(e:Rd H a (.dT kvs)):kvs.length<=sizeLine/\(a==sysModules)=false/\
  ∃xs,KT H kvs xs/\h.DictOfH (tupleKind (aW P w)) a xs:=by
 obtain⟨z,y,xs,r,o,b,ep,c,d,f,g,i⟩:=(show cW P w H h a (.dT kvs) from T5 ok e)
 refine⟨z,y,xs,r,o,b,ep,c,d,f,g,λx hx=>?_,i⟩
 have all:∀{l:List (List Key×V)} {m:List (List Key×Addr×Value)},KT H l m->∀x∈m,(tupleKind (aW P w)).is h x.1 x.2.1:=by
  intro l m q
  induction q with
  | nil=>intro x hx;exact nomatch hx
  | @cons p q ps qs hq t ih=>
   intro x hx;rcases aFx.mp hx with e | hx
   ·subst e;exact zW ok (by rw[<-hq.1];exact hq.2.1)
   ·exact ih x hx
 exact all r x hx
theorem UG(ok:qJ P w H h)(e:H a=some (.dT kvs)):kvs.length<=sizeLine/\(a==sysModules)=false/\
  ∃xs,KT H kvs xs/\h.DictOfH (tupleKind (aW P w)) a xs:=DM ok (.inl e)
end
def F6(H:Hp)(a:Addr)(y:V)(r:Option V):Prop:=
 (∃kvs k,Rd H a (.dK kvs)/\y=kV k/\r=qP kvs k)\/∃kvs k b,Rd H a (.dT kvs)/\y= .ref b/\H b=some (.tup (k.map kV))/\r=qP kvs k
def TR(H:Hp)(a:Addr)(y v:V)(H' :Hp):Prop:=
 (∃kvs k,H a=some (.dK kvs)/\y=kV k/\kvs.length<sizeLine/\H' =upd H a (.dK (putK kvs k v)))\/
 ∃kvs k b,H a=some (.dT kvs)/\y= .ref b/\H b=some (.tup (k.map kV))/\kvs.length<sizeLine/\H' =upd H a (.dT (putK kvs k v))
variable{a:Addr}{kvs:List (Key×V)}
theorem F6.k{k:Key}(e:H a=some (.dK kvs)):F6 H a (kV k) (qP kvs k):= .inl ⟨kvs,k,.inl e,rfl,rfl⟩
theorem TR.k{k:Key}{v:V}(e:H a=some (.dK kvs))(b:kvs.length<sizeLine):TR H a (kV k) v (upd H a (.dK (putK kvs k v))):= .inl ⟨kvs,k,e,rfl,b,rfl⟩
section
variable {X:Cx}{pins:List (Addr×Obj)}{σ:St}{H:Hp}{s:Shared}{a:Addr}{y v:V}{u r:Value}{o:Option V}{A:Around}{E:aJk}
theorem Inv.big(I:Inv X pins σ H s):sysModules<s.heap.objs.size:=by
 have h:mainGlobals<s.heap.objs.size:=(I.mod.glob.keeps I.bk).lt;exact Nat.lt_trans (by decide) h
theorem JM{Q:aJk}(t:A.units+1<cLine)(I:Inv X pins σ H s)(g:F6 H a y (some v))(q:RelV y u)(h:∀f r,Inv X pins σ H r ->RelV v f ->Q f r):
  wpAny (model X.prog X.w) A (getItem (.ref a) u) Q E s:=by
 rcases g with ⟨kvs,k,e,i,l⟩ | ⟨kvs,k,b,e,i,x,l⟩
 ·subst i;obtain⟨z,hd,vs,c,j⟩:=DN I.bY e;obtain⟨f,m,d⟩:=sH.some_of (v:=v) (o:=valueAt vs k) (by rw[l];exact c.val k);exact wpAny_getItem_of (xS q) j.mapOf m (h f _ (I.tok _) d)
 ·subst i;cases (show u=Value.ref b from q);obtain⟨z,hd,xs,c,j⟩:=DM I.bY e;obtain⟨f,m,d⟩:=sH.some_of (v:=v) (o:=(atKey xs k).map (·.2)) (by rw[l];exact c.val k);obtain⟨p,B,n⟩:=aGn.mp m;refine wpAny_getItem_heap (aJa t) (zW I.bY x) j B ?_;rw[n];exact h f _ (I.tok _) d
theorem AJ{h' :Heap}{t' :Nat}{ob:HO}(I:Inv X pins σ H s)(c:JZ (H a))(d:Heap.SameBut a s.heap h')(he:∃q,h'.get? a=some q)(new:cW X.prog X.w (upd H a ob) h' a ob):
  Inv X pins σ (upd H a ob) {s with heap:=h',toks:=t'}:=
 I.write (x:=a) (e:=a) c (.inl rfl) (λb q hb z=>(d.2 b hb).trans z) he new
theorem YR{H' :Hp}{h' :Heap}{vs:List (Key×Value)}(z:kvs.length<=sizeLine)(hd:(a==sysModules)=false)(b:KV kvs vs)(c:h'.DictOf (aW P w) a vs):
  cW P w H' h' a (.dK kvs):=⟨z,hd,vs,b,c⟩
theorem JK{H' :Hp}{Q:Unit->Shared->Prop}(F:A.units+1<cLine)(I:Inv X pins σ H s)(g:TR H a y v H')(t:RelV y u)(x:RelV v r)(h:∀B,Inv X pins σ H' B ->Q () B):
  wpAny (model X.prog X.w) A (setItem (.ref a) u r) Q E s:=by
 rcases g with ⟨kvs,k,e,j,l,m⟩ | ⟨kvs,k,b,e,j,C,l,m⟩
 ·subst j m;obtain⟨z,hd,vs,d,n⟩:=UH I.bY e;have hz:vs.length<=sizeLine:=by rw[<-d.length];exact z
  have o:(putK kvs k v).length<=sizeLine:=by have:=rQ kvs k v;lia
  refine wpAny_setItem_pairs (hsz:=hz) (xS t) n λh' f p=>h _ ?_;have he:∃q,h'.get? a=some q:=let ⟨q,_,_,i,_⟩:=f;⟨q,i⟩;exact AJ I (by rw[e];exact True.intro) p he (YR o hd (d.put k x) f)
 ·subst j m;cases (show u=Value.ref b from t);obtain⟨z,hd,xs,d,n⟩:=UG I.bY e;have hz:xs.length<=sizeLine:=by rw[<-Paired.length d];exact z
  have o:(putK kvs k v).length<=sizeLine:=by have:=rQ kvs k v;lia
  refine wpAny_setItem_heap (hsz:=hz) (aJa F) (zW I.bY C) n λh' f p=>h _ ?_;obtain⟨q,G,ep,i,J,K,L,_,M⟩:=f;refine AJ I (by rw[e];exact True.intro) p ⟨q,i⟩ ⟨o,hd,_,(d.put k C x).keeps λc ys D=>?_,q,G,ep,i,J,K,L,M⟩;rw[aM (aBf D e (λz=>nomatch z))];exact D
end
variable{pins:List (Addr×Obj)}
theorem DO{X:Cx}{σ:St}{s:Shared}{y:V}{o:Option V}(I:Inv X pins σ H s)(g:F6 H a y o):s.TypeIs (.ref a) "dict":=by
 rcases g with ⟨kvs,k,e,_,_⟩ | ⟨kvs,k,b,e,_,_,_⟩
 ·obtain⟨_,_,vs,_,c⟩:=DN I.bY e;exact c.typeIs
 ·obtain⟨_,_,xs,_,c⟩:=DM I.bY e;exact c.typeIs
def aAn(c ty d:TE):TS:=λD σ H=>d σ H λv e=>c σ e λx f=>ty σ f λy g=>∃a b,x= .ref a/\TR g a y v b/\D.nx σ b
section
variable {X:Cx}{o i e value:Expr}{pos pos' tpos:Pos}{td ty tv:TE}
theorem QP(b:X.A.units+1<cLine)(ho:PE X o td)(hi:PE X i ty)(c:PE X value tv)(d:swapsWith value (some (.Subscript o i pos')) pos.line X.env=pure false):
  PS X (.Assign [.Subscript o i pos'] value pos) (aAn td ty tv):=by
 intro pins s σ H D I h;refine wpAny_Assign_Subscript (cA (c pins s σ H _ I h) λr s1 ⟨v,e,f,j,k⟩=>cA (ho pins s1 σ e _ f k) λu s2 ⟨x,l,m,n,p⟩=>cA (hi pins s2 σ l _ m p) λC E ⟨y,F,q,t,a,w,ex,g,z⟩=>?_) d;subst ex;obtain rfl:u=Value.ref a:=n
 exact JK b q g t j λG B=>⟨σ,w,B,z⟩
end
theorem N3(h:Heap)(hb:sysModules<h.objs.size):cW P w H (h.push {cls:= .type "dict",data:= .dict #[]}) h.objs.size (.dK []):=
 ⟨aH2 _,beq_eq_false_iff_ne.mpr (aGr (aG9 hb)),[],.nil,Heap.DictOf.new h⟩
def U7:TE:=λ_ H Q=>∀p,H p=none->Q (.ref p) (upd H p (.dK []))
section
variable {X:Cx}{pos:Pos}
theorem L3:PE X (.Dict [] [] pos) U7:=λpins s σ H Q I h=>
 wpAny_Dict_empty ⟨.ref s.heap.objs.size,_,I.laid (a:=s.heap.objs.size) (o:= .dK []) (t' :=s.toks) (λ_ _ q=>aFr _ q) (aFw _) (N3 s.heap I.big),rfl,h _ (I.bY.fresh (aFw _))⟩
end
structure M2(X:Cx)(o:Expr)(m:Str)(apos:Pos)(e f:Expr)(fF:Pos):Prop where
 base:attributeBase o m X.env (eval o X.env)=eval o X.env
 J4:((backTo fF (starEach [e,f] X.env)).all (λx=>!x.1) && (backToKw fF (keywordEach [] X.env)).all (λx=>x.1.isSome)
  && decide (([e,f]:List Expr).length+([]:List Keyword).length+(if ([]:List Keyword).isEmpty then 0 else 1)<30))=true
 line:(apos.endLine==fF.line)=true
 trees:backTo fF (starEach [e,f] X.env)=[(false,eval e X.env),(false,eval f X.env)]
def IsD(H:Hp)(a:Addr):Prop:=(∃kvs,Rd H a (.dK kvs))\/∃kvs,Rd H a (.dT kvs)
theorem X9{X:Cx}{σ:St}{s:Shared}(I:Inv X pins σ H s)(d:IsD H a):
  s.TypeIs (.ref a) "dict"/\(∀b,Value.ref a= .ref b->∃ob,s.heap.get? b=some ob/\ob.dict=none)/\(a==sysModules)=false:=by
 rcases d with ⟨kvs,e⟩ | ⟨kvs,e⟩
 ·obtain⟨_,hd,vs,_,c⟩:=DN I.bY e;refine⟨c.typeIs,λb q=>?_,hd⟩;cases q;obtain⟨ob,_,_,f,g,_⟩:=c;exact⟨ob,f,g.2.1⟩
 ·obtain⟨_,hd,xs,_,c⟩:=DM I.bY e;refine⟨c.typeIs,λb q=>?_,hd⟩;cases q;obtain⟨ob,_,_,f,g,_⟩:=c;exact⟨ob,f,g.2.1⟩
section
variable {X:Cx}{pins:List (Addr×Obj)}{σ:St}{H:Hp}{s:Shared}{a:Addr}{y d:V}{u r:Value}{o:Option V}{A:Around}{E:aJk}
theorem YT{Q:aJk}(q:A.units+1<cLine)(I:Inv X pins σ H s)(g:F6 H a y o)(j:RelV y u)(m:RelV d r)(h:∀n p,Inv X pins σ H p ->RelV (o.getD d) n ->Q n p):
  wpAny (model X.prog X.w) A (call (.builtin "dict.get") [.ref a,u,r]) Q E s:=by
 rcases g with ⟨kvs,k,e,i,l⟩ | ⟨kvs,k,b,e,i,t,l⟩
 ·subst i;obtain⟨z,hd,vs,c,f⟩:=DN I.bY e;refine call_meetsIn aIv f.typeIs PySem.F.entry_dict_get (PySem.F.args_dict_get_3 _ _ _) (meets_dict_get_default (aW X.prog X.w) a (xS j) hd r) ⟨_,f.mapOf,h _ _ (I.tok _) ?_⟩;rw[l];exact(c.val k).getD m
 ·subst i;cases (show u=Value.ref b from j);obtain⟨z,hd,xs,c,f⟩:=DM I.bY e;refine call_meetsIn aIv f.typeIs PySem.F.entry_dict_get (PySem.F.args_dict_get_3 _ _ _) (meetsH_dict_get_default (tupleKind (aW X.prog X.w)) a b hd r) ⟨aJa q,k,xs,zW I.bY t,f,h _ _ (I.tok _) ?_⟩;rw[l];exact(c.val k).getD m
end
def U8(d ty e:TE):TE:=λσ H Q=>d σ H λx b=>∃a,x= .ref a/\IsD b a/\ty σ b λy f=>e σ f λz c=>∃o,F6 c a y o/\Q (o.getD z) c
section
variable {X:Cx}{o e f:Expr}{apos fF:Pos}{td ty tx:TE}
theorem L4(j:X.A.units+1<cLine)(ho:PE X o td)(he:PE X e ty)(k:PE X f tx)(m:M2 X o "get" apos e f fF):PE X (.Call (.Attribute o "get" apos) [e,f] [] fF) (U8 td ty tx):=by
 intro pins s σ H Q I h;refine wpAny_Call_method m.base m.J4 m.line PySem.F.plainAttrs_dict aIv PySem.F.type_dict_get (cA (ho pins s σ H _ I h) λu s1 b=>?_);obtain⟨x,l,i,n,a,ex,d,p⟩:=b;subst ex;obtain rfl:u=Value.ref a:=n;obtain⟨q,r,_⟩:=X9 i d;refine⟨q,r,?_⟩;rw[m.trees]
 refine Calls.callWith_builtin rfl (Calls.evalArgs_plain (aIm (cA (he pins s1 σ l _ i p) λK s2 ⟨y,t,v,w,B⟩=>
  aIm (cA (k pins s2 σ t _ v B) λL M ⟨z,C,D,E,N,g,G⟩=>Calls.spliced_nil ?_))))
 exact YT j D g w E λO P J c =>⟨_,C,J,c,G⟩
end
end L2
namespace ST
open PySem PySem.SetTable
def F2(xs:Array Nat):Prop:=xs.toList.Pairwise (· < ·)
variable{xs:Array Nat}{i j:Nat}
theorem ET(h:F2 xs)(hi:i<j)(a:j<xs.size):xs[i]'(by lia)<xs[j]:=by
 have:=aHe.mp h i j (by simp;lia) (by simpa using a) hi;simpa using this
theorem LB(h:F2 xs)(hi:i<=j)(a:j<xs.size):xs[i]'(by lia)<=xs[j]:=by
 rcases aJb hi with z | z
 ·exact aHr (ET h z a)
 ·subst z;exact aFw _
theorem AD(xs:Array Nat)(j:Nat)(h:F2 xs):∀(fuel lo hi:Nat),hi-lo<=fuel->lo<=hi->hi<=xs.size->(∀k (c:k<xs.size),k<lo->xs[k]<j)->(∀k (c:k<xs.size),hi<=k->j<=xs[k])->
  (below.go xs j fuel lo hi<=xs.size)/\(∀k (c:k<xs.size),k<below.go xs j fuel lo hi->xs[k]<j)/\(∀k (c:k<xs.size),below.go xs j fuel lo hi<=k->j<=xs[k])
 | 0,lo,hi,h1,h2,h3,a,b=>by
  have:lo=hi:=by lia
  subst this;exact⟨h3,a,b⟩
 | fuel+1,lo,hi,h1,h2,h3,a,b=>by
  unfold below.go;by_cases f:lo<hi
  ·rw[if_pos f];have g:(lo+hi) / 2<xs.size:=by lia
   have i:xs.getD ((lo+hi) / 2) j=xs[(lo+hi) / 2]:=by simp[Array.getD,g]
   simp only[i];by_cases e:xs[(lo+hi) / 2]<j
   ·rw[if_pos e];exact AD xs j h fuel _ _ (by lia) (by lia) h3 (λk c d=>aJ9 (LB h (by lia) g) e) b
   ·rw[if_neg e];exact AD xs j h fuel _ _ (by lia) (by lia) (by lia) a (λk c d=>aGh (aIf e) (LB h d c))
  ·rw[if_neg f];have:lo=hi:=by lia
   subst this;exact⟨h3,a,b⟩
theorem kB(j:Nat)(h:F2 xs):(below xs j<=xs.size)/\(∀k (a:k<xs.size),k<below xs j->xs[k]<j)/\(∀k (a:k<xs.size),below xs j<=k->j<=xs[k]):=
 AD xs j h xs.size 0 xs.size (by lia) (by lia) (aFw _) (λk a z=>by lia) (λk a z=>by lia)
theorem FV(h:F2 xs):below xs 0=0:=by
 obtain⟨a,b,_⟩:=kB 0 h;apply aHo;intro z;have:=b 0 (by lia) (by lia)
 lia
theorem FX(h:F2 xs)(hi:i<xs.size):below xs (xs[i]+1)=i+1:=by
 obtain⟨a,b,c⟩:=kB (xs[i]+1) h
 have e:i<below xs (xs[i]+1):=by
  apply aHo;intro z;have:=c i hi (by lia)
  lia
 apply aHo;intro z;have d:i+1<below xs (xs[i]+1):=by lia
 have f:=b (i+1) (by lia) d;have g:=ET (i:=i) (j:=i+1) h (by lia) (by lia)
 lia
theorem RA(h:F2 xs)(f:xs[below xs j]? ≠some j):j∉xs.toList:=by
 intro g;obtain⟨k,i,e⟩:=aI8.mp g;have d :k<xs.size:=by simpa using i
 have l :xs[k]=j:=by simpa using e
 obtain⟨a,b,c⟩:=kB j h
 have m:below xs j<=k:=by
  apply aHo;intro z;have:=b k d (by lia)
  lia
 rcases aJb m with z | z
 ·have:=ET h z d;have:=c _ (by lia) (aFw _)
  lia
 ·apply f;rw[z];simp[d,l]
theorem DC{α:Type}(xs:Array α)(p:Nat)(x:α)(a:p<=xs.size):(insertAt xs p x).toList=xs.toList.take p++x::xs.toList.drop p:=by
 unfold insertAt;simp[Array.toList_extract];rw[List.take_of_length_le (by simp)]
theorem EU(h:F2 xs)(l:j∉xs.toList):F2 (insertAt xs (below xs j) j):=by
 obtain⟨a,b,c⟩:=kB j h;unfold F2;rw[DC _ _ _ a,List.pairwise_append];refine⟨h.sublist (aJd _ _),?_,?_⟩
 ·rw[List.pairwise_cons];refine⟨λy f=>?_,h.sublist (List.drop_sublist _ _)⟩;obtain⟨k,g,e⟩:=aI8.mp f;have d:below xs j+k<xs.size:=by simp at g;lia
  have n:xs[below xs j+k]=y:=by simpa using e
  have:=c _ d (by lia);rcases aJb this with z | z
  ·lia
  ·exfalso;apply l;rw[z];simp
 ·intro x o y f;obtain⟨k,g,e⟩:=aI8.mp o;have d:k<below xs j/\k<xs.size:=by simp at g;lia
  have n:xs[k]=x:=by simpa using e
  have r:=b k d.2 d.1;rcases aFx.mp f with z | z
  ·lia
  ·obtain⟨m,p,q⟩:=aI8.mp z;have i:below xs j+m<xs.size:=by simp at p;lia
   have s:xs[below xs j+m]=y:=by simpa using q
   have:=c _ i (by lia)
   lia
theorem HZ(n:Nat):F2 (Array.range n):=by
 unfold F2;rw[Array.toList_range];exact List.pairwise_lt_range
structure r9(l:Bool)(t:SetTable):Prop where
 ris:F2 t.place
 dum:t.dummies= #[]
 led:t.led=l
variable{l:Bool}{t:SetTable}
theorem r9.plain(h:r9 l t)(b:Bool):r9 l {t with plain:=b}:=⟨h.ris,h.dum,h.led⟩
theorem r9.fresh(f m:Nat)(l:Bool):r9 l (.fresh f m l):=⟨by unfold F2 SetTable.fresh;simp,rfl,rfl⟩
theorem r9.GN(h:r9 l t)(n:Nat):r9 l (t.standIn n):=⟨HZ n,rfl,h.led⟩
theorem r9.Q1(h:r9 l t)(n:Nat):r9 l (t.orStandIn n):=by
 unfold SetTable.orStandIn;split
 ·exact h
 ·exact h.GN n
theorem t9(h:t.dummies= #[])(j:Nat):t.slot j≠ .dummy:=by
 unfold SetTable.slot;simp only[h,SetTable.has];split
 ·exact λz=>by cases z
 ·simp
theorem CB{t:SetTable}(h:t.dummies= #[])(x:Int):∀(fuel:Nat) (p:Probe) (j:Nat) (d:Option Nat),p.dummy=none->probe.go t (λ_=>x+1) x fuel p=some (.empty j d)->t.slot j= .empty/\d=none
 | 0,p,j,d,_,e=>by simp[probe.go]at e
 | fuel+1,p,j,d,hp,e=>by
  unfold probe.go at e
  cases hs:t.slot p.j with
  | empty=>
   rw[hs]at e;simp at e;obtain⟨rfl,rfl⟩:=e;exact⟨hs,hp⟩
  | dummy=>exact absurd hs (t9 h _)
  | live i=>
   rw[hs]at e;have:(x+1==x)=false:=by simp;lia
   simp only[this]at e;refine CB h x fuel _ j d ?_ e;unfold SetTable.advance;split <;> simp[hp]
theorem JH(h:t.dummies= #[]){x:Int}{b:Bool}(e:t.freeSlot x=some (j,b)):t.slot j= .empty:=by
 unfold SetTable.freeSlot at e
 cases hp:t.probe (λ_=>x+1) x (t.probeStart x) with
 | none=>rw[hp]at e;cases e
 | some m=>
  rw[hp]at e
  cases m with
  | candidate a b c=>cases e
  | empty k d=>
   obtain⟨f,g⟩:=CB h x _ _ k d rfl hp;subst g;simp at e;obtain⟨rfl,_⟩:=e;exact f
theorem EO(h:r9 l t)(e:t.slot j= .empty):j∉t.place.toList:=by
 apply RA h.ris;intro z;unfold SetTable.slot at e;simp[z]at e
theorem r9.put(h:r9 l t)(a:j∉t.place.toList):r9 l (t.put j).1:=by
 unfold SetTable.put;refine⟨EU h.ris a,?_,h.led⟩;simp[h.dum,SetTable.has]
theorem r9.lay(h:r9 l t)(a:Array (Int×Value))(x:Int)(v:Value):r9 l (layNew t a x v).2.1:=by
 unfold layNew
 cases hf:t.freeSlot x with
 | none=>exact h.GN _
 | some p=>
  obtain⟨j,b⟩:=p;have:=h.put (EO h (JH h.dum hf));exact this.Q1 _
theorem r9.aAp(h:r9 l t)(e:Array (Int×Value))(n:Nat):r9 l (relayAll t e n).2.1:=by
 unfold relayAll
 cases hr:t.relaid (e.map (·.1)) n with
 | none=>exact h.GN _
 | some p=>
  obtain⟨t',f⟩:=p;simp only;split
  ·unfold SetTable.relaid SetTable.laid at hr
   cases ho:layClean (sizeAbove n-1) (e.map (·.1)) with
   | none=>rw[ho]at hr;cases hr
   | some ow=>
    rw[ho]at hr;simp at hr;obtain⟨rfl,_⟩:=hr;refine⟨?_,rfl,h.led⟩;unfold F2;simp only[List.map_filterMap];have:(List.range (sizeAbove n-1+1)).Pairwise (· < ·):=List.pairwise_lt_range;rw[List.pairwise_filterMap];refine this.imp_of_mem λ{a b} _ _ g x i y j=>?_;simp at i j;obtain⟨c,k,rfl⟩:=i;obtain⟨d,hd,rfl⟩:=j;exact g
  ·exact h.GN _
theorem rN{α d:Type}(f:α->d):∀{l:List d} {m:List d},l.Perm m->∀t:List α,m=t.map f->∃t' :List α,t'.Perm t/\t'.map f=l:=by
 intro l m p
 induction p with
 | nil=>
  intro t e
  cases t with
  | nil=>exact⟨[],.refl _,rfl⟩
  | cons a t=>cases e
 | cons x p ih=>
  intro t e
  cases t with
  | nil=>cases e
  | cons a t=>
   simp at e;obtain⟨t',c,g⟩:=ih t e.2;exact⟨a::t',c.cons a,by simp[e.1,g]⟩
 | swap x y l=>
  intro t e
  cases t with
  | nil=>cases e
  | cons a t=>
   cases t with
   | nil=>simp at e
   | cons b t=>
    simp at e;exact⟨b::a::t,.swap a b t,by simp[e]⟩
 | trans c h ih1 ih2=>
  intro t e;obtain⟨i,c,g⟩:=ih2 t e;obtain⟨j,h,k⟩:=ih1 i g.symm;exact⟨j,h.trans c,k⟩
section
variable {prog:Program}{w:World}{K:Type}[DecidableEq K](knd:KeyKind prog w K)
def Es(a:Array (Int×Value))(ks:List K):Prop:=
 ∃ps:List (K×(Int×Value)),ps.map (·.2)=a.toList/\(ps.map (·.1)).Perm ks/\∀p∈ps,knd.is p.1 p.2.2=true/\p.2.1=knd.hash p.1/\p.2.2.scannable=true
def gP(l:Bool)(h:Heap)(a:Addr)(ks:List K):Prop:=
 ∃o b ep t,h.get? a=some o/\o.ExactSet/\o.data= .set b ep t/\Es knd b ks/\ks.Nodup/\b.size<scanBound/\t.fits b.size=true/\r9 l t
variable {knd}
variable{es es':Array (Int×Value)}{ks:List K}
theorem Es.perm(h:Es knd es ks)(p:es'.toList.Perm es.toList):Es knd es' ks:=by
 obtain⟨ps,c,d,e⟩:=h;obtain⟨a,b,f⟩:=rN (·.2) p ps c.symm;exact⟨a,f,(b.map _).trans d,λp g=>e p (b.mem_iff.mp g)⟩
theorem Es.size(h:Es knd es ks):es.size=ks.length:=by
 obtain⟨ps,c,d,e⟩:=h;have a:=aGs List.length c;have b:=d.length_eq;simp at a b
 lia
theorem Es.elems(h:Es knd es ks):ElemsOf knd es.toList:=by
 obtain⟨ps,d,i,f⟩:=h;intro e he;rw[<-d]at he;obtain⟨p,g,rfl⟩:=aG0.mp he;obtain⟨a,b,c⟩:=f p g;exact⟨⟨p.1,a,b⟩,c⟩
theorem Es.mem(h:Es knd es ks)(k:K):k∈ks↔∃e∈es.toList,knd.is k e.2=true:=by
 obtain⟨ps,d,f,c⟩:=h;rw[<-f.mem_iff,<-d];constructor
 ·intro b;obtain⟨p,a,rfl⟩:=aG0.mp b;exact⟨p.2,aG0.mpr ⟨p,a,rfl⟩,(c p a).1⟩
 ·rintro⟨e,he,b⟩;obtain⟨p,a,rfl⟩:=aG0.mp he;exact aG0.mpr ⟨p,a,knd.inj _ _ _ (c p a).1 b⟩
theorem Es.push(h:Es knd es ks){k:K}{x:Value}(a:knd.is k x=true)(b:x.scannable=true):Es knd (es.push (knd.hash k,x)) (ks++[k]):=by
 obtain⟨ps,c,d,e⟩:=h;refine⟨ps++[(k,(knd.hash k,x))],by simp[c],by simpa using d.append_right [k],λp hp=>?_⟩;rcases aFv.mp hp with hp | hp
 ·exact e p hp
 ·simp at hp;subst hp;exact⟨a,rfl,b⟩
variable{a:Addr}
theorem gP.typeIs{s:Shared}(h:gP knd l s.heap a ks):s.TypeIs (.ref a) "set":=let ⟨o,_,_,_,ho,hx,_⟩:=h;⟨o,ho,hx.1⟩
theorem gP.keep{h h' :Heap}(x:gP knd l h a ks)(k:∀o,h.get? a=some o->h'.get? a=some o):gP knd l h' a ks:=let ⟨o,es,ep,t,ho,r⟩:=x;⟨o,es,ep,t,k o ho,r⟩
theorem store{h:Heap}{o:Obj}{ep:Nat}(ho:h.get? a=some o)(hex:o.ExactSet)(hd:o.data= .set es ep t)
   {t' :SetTable}  (he:Es knd es' ks) (nd:ks.Nodup) (hb:es'.size<scanBound) (b:t'.fits es'.size=true) (ht:r9 l t'):
  (h.update a (Obj.putSet es' t')).get? a=some {o with data:= .set es' (ep+1) t'}/\gP knd l (h.update a (Obj.putSet es' t')) a ks:=by
 have hg:(h.update a (Obj.putSet es' t')).get? a=some {o with data:= .set es' (ep+1) t'}:=by
  have:=aGq (Obj.putSet es' t') ho (by rw[putSet_of es' t' hd];rfl);rw[putSet_of es' t' hd]at this;exact this
 exact⟨hg,_,es',ep+1,t',hg,hex,rfl,he,nd,hb,b,ht⟩
variable {A:Around}{E:aJk}{s:Shared}
theorem HL{g:Bool->Sem Unit}(hg:∀(b:Bool) (f:Shared) (B :Unit->Shared->Prop),B () f->wpAny (model prog w) A (g b) B E f)
   {o:Obj}  {ep:Nat}  (ho:s.heap.get? a=some o) (hex:o.ExactSet) (hd:o.data= .set es ep t)
  {c:Array (Int×Value)} {e:SetTable}  (he:Es knd c ks) (nd:ks.Nodup)
  (j:c.size<scanBound) (u:e.fits c.size=true) (ht:r9 l e) {d:Bool} {R:Option Bool->Shared->Prop}
  (h:∀h',Heap.SameBut a s.heap h' ->gP knd l h' a ks->R (some true) {s with heap:=h'}):
  wpAny (model prog w) A (do
    storeSet a c e
    if (!d && e.tooFull)=true then do
      g (relayAll e c (SetTable.grown c.size)).2.2
      storeSet a (relayAll e c (SetTable.grown c.size)).1 (relayAll e c (SetTable.grown c.size)).2.1
      pure (some true)
     else pure (some true)) R E s:=by
 refine aFo (wpAny_storeSet_of ho hd ?_ (fits_of_scanBound j));obtain⟨n,v⟩:=store (knd:=knd) ho hex hd he nd j u ht;have i:=aGw s.heap a (Obj.putSet c e);split
 ·have r:=relayAll_perm e c (SetTable.grown c.size);have k:=relayAll_fits e c (SetTable.grown c.size);have m:=ht.aAp c (SetTable.grown c.size);generalize C:relayAll e c (SetTable.grown c.size)=Rl at r k m⊢;obtain⟨p,D,x⟩:=Rl;dsimp only at r k m⊢;have y:=he.perm r;have hsz:p.size=c.size:=by rw[<-Array.length_toList,r.length_eq,Array.length_toList]
  have q:p.size<scanBound:=by rw[hsz];exact j
  refine aFo (hg _ _ _ ?_);refine aFo (wpAny_storeSet_of n rfl ?_ (fits_of_scanBound q));obtain⟨_,z⟩:=store (knd:=knd) n hex rfl y nd q k m;exact aFq (h _ (i.trans (aGw _ a _)) z)
 ·exact aFq (h _ i v)
def mJ(ks:List K)(k:K):List K:=if k∈ks then ks else ks++[k]
theorem yO{k:K}{x:Value}{Q:Bool->Shared->Prop}(m:knd.is k x=true)(hsc:x.scannable=true)(O:gP knd l s.heap a ks)
  (r:ks.length+1<scanBound) (h:∀(b:Bool) h',Heap.SameBut a s.heap h' ->gP knd l h' a (mJ ks k)->Q b {s with heap:=h'}):
  wpAny (model prog w) A (setAddHashed a x (knd.hash k)) Q E s:=by
 obtain⟨o,es,ep,t,ho,hex,hd,he,nd,hb,H,ht⟩:=O;have P:=he.size;have B:=he.elems;have n:=he.mem;have I:es.size+1<scanBound:=by rw[P];exact r
 unfold setAddHashed setAddHashedIn;refine aGj (aFo (aHu ho hd H ?_));dsimp only;rw[byScan_of hsc hb B];simp only[↓reduceIte];unfold setAddByScan;refine aFo ?_;refine aFo (aGx ?_);refine aFo (wpAny_setScan_of m ho hd H B ?_)
 cases hr:List.findIdx? (λe=>knd.is k e.2) es.toList with
 | some j=>
  dsimp only;obtain⟨R,J,_⟩:=List.findIdx?_eq_some_iff_getElem.mp hr;have i:k∈ks:=(n k).mpr ⟨es.toList[j],aHx R,J⟩;refine aFq (aFq ?_);have e:s={s with heap:=s.heap}:=by cases s;rfl
  have:=h false s.heap (Heap.SameBut.refl a s.heap) ⟨o,es,ep,t,ho,hex,hd,by unfold mJ;rw[if_pos i];exact he,by unfold mJ;rw[if_pos i];exact nd,hb,H,ht⟩;rw[e];exact this
 | none=>
  dsimp only
  have i:k∉ks:=λS=>by
   obtain⟨e,he,T⟩:=(n k).mp S;have:=List.findIdx?_eq_none_iff.mp hr e he;rw[T]at this;exact Bool.noConfusion this
  have M:∀(b:Bool) {f:Shared} {C :Unit->Shared->Prop},C () f->wpAny (model prog w) A (match b with | true=>rule "set.scan.the-table-gave-way" | false=>pure ()) C E f:=
   λb f C p=>by cases b <;> first | exact aFq p | exact aGx p
  have d:=layNew_perm t es (knd.hash k) x;have c:=layNew_fits t es (knd.hash k) x;have g:=ht.lay es (knd.hash k) x;generalize U:layNew t es (knd.hash k) x=L at d c g⊢;obtain⟨D,V,y,N⟩:=L;dsimp only at d c g⊢;have F:Es knd D (mJ ks k):=by unfold mJ;rw[if_neg i];exact(he.push m hsc).perm d
  have G:(mJ ks k).Nodup:=by
   unfold mJ;rw[if_neg i,List.nodup_append];exact⟨nd,by simp,λa ha b hb=>by simp at hb;subst hb;exact λz=>i (z▸ha)⟩
  have q :D.size<scanBound:=by rw[<-Array.length_toList,d.length_eq,Array.length_toList,Array.size_push];exact I
  refine aFo (M _ ?_);split
  ·refine aFo ?_;rw[hashByValue_scannable 8 hsc];refine aFq ?_;refine HL (l:=l) ?_ ho hex hd F G q ?_ ?_ ?_
   ·intro b f C p;cases b <;> first | exact aFq p | exact aGx p
   ·split
    ·exact c
    ·exact SetTable.fits_plain_off c
   ·split
    ·exact g
    ·exact g.plain false
   ·intro h' u v;dsimp only;exact aFq (h _ h' u v)
  ·refine aFo (aFq ?_);simp only[↓reduceIte];refine HL (l:=l) ?_ ho hex hd F G q c g ?_
   ·intro b f C p;cases b <;> first | exact aFq p | exact aGx p
   ·intro h' u v;dsimp only;exact aFq (h _ h' u v)
end
open PySem.Spec
def hC(w:World):Bool:= !(w.params.followText "set-order")
section
variable {prog:Program}{w:World}{K:Type}[DecidableEq K]{knd:KeyKind prog w K}{A:Around}{E:aJk}{s:Shared}
theorem vH{h:Heap}{a:Addr}(ho:h.get? a=some {cls:= .type "set",dict:=none,data:= .set #[] 0 (.fresh 0 0 (hC w))}):gP knd (hC w) h a []:=
 ⟨_,#[],0,_,ho,⟨rfl,rfl,rfl⟩,rfl,⟨[],rfl,by simp,λp b=>by cases b⟩,by simp,by decide,by rfl,.fresh 0 0 _⟩
def aR(ks:List K)(xs:List K):List K:=xs.foldl mJ ks
theorem OJ(ks:List K)(k:K):(mJ ks k).length<=ks.length+1:=by unfold mJ;split <;> simp
theorem oQ:∀(xs ks:List K),(aR ks xs).length<=ks.length+xs.length
 | [],ks=>by simp[aR]
 | x::xs,ks=>by
  have a:=oQ xs (mJ ks x);have b:=OJ ks x;simp only[aR,List.foldl_cons,List.length_cons]at*
  lia
theorem MJ{ks:List K}{k j:K}:j∈mJ ks k↔j∈ks\/j=k:=by
 unfold mJ;split
 ·rename_i h;exact⟨.inl,λz=>z.elim id λe=>e▸h⟩
 ·simp
theorem jY{j:K}:∀{xs ks:List K},j∈aR ks xs↔j∈ks\/j∈xs
 | [],ks=>by simp[aR]
 | x::xs,ks=>by
  have:=jY (j:=j) (xs:=xs) (ks:=mJ ks x);simp only[aR,List.foldl_cons]at*;rw[this,MJ];simp[or_assoc]
theorem MD(a:Value){Q₁:aJk}
  (h:Q₁ (.ref s.heap.objs.size) {s with heap:=s.heap.push {cls:= .type "set",dict:=none,data:= .set #[] 0 (.fresh 0 0 (hC w))}}):
  codeAny (model prog w) A (.call (.builtin "set.__new__") ⟨[.type "set",a],[]⟩) (wants Q₁ E) s:=by
 refine aJ2 ?_;show wpAny _ A.in1 (do checkBuiltinCall "set.__new__" ⟨[.type "set",a],[]⟩;again (.builtin "set.__new__" ⟨[.type "set",a],[]⟩)) _ _ s;refine aFo (aIo (F.newCall_set_1 a) (aFq ⟨aHg F.plain_set_new _,aGy F.entry_set_new ?_⟩));rw[Around.under_plainId F.plain_set_new _];unfold Builtin.«set.__new__» Builtin.Frozenset.newClass;have b:=sub_set_self;obtain⟨c,g,d,e,os⟩:=s;dsimp only
 wp_walk
 refine aIy (aFq ?_);dsimp only;simp only[newObj];refine aFo (wpAny_alloc (aFq ?_));exact aFq h
end
theorem slot_next:Slot "set_iterator" "__next__" "set_iterator.__next__":=
 .of (owner:= "set_iterator") (n:= "__next__") (by rw[typeLookup_type,builtinLookup_eq_fast];kernel_rfl) (by decide+kernel) (by decide+kernel) (by decide+kernel)
  (by first | exact .inl (by decide+kernel) | exact .inr (by decide+kernel)) (by rw[isSubtype_type];kernel_rfl)
theorem xC:Slot "set_iterator" "__iter__" "set_iterator.__iter__":=
 .of (owner:= "set_iterator") (n:= "__iter__") (by rw[typeLookup_type,builtinLookup_eq_fast];kernel_rfl) (by decide+kernel) (by decide+kernel) (by decide+kernel)
  (by first | exact .inl (by decide+kernel) | exact .inr (by decide+kernel)) (by rw[isSubtype_type];kernel_rfl)
theorem entry_next:entryFor table "set_iterator.__next__"=some Builtin.«set_iterator.__next__»:=entryFor_of_tree (by kernel_rfl)
theorem CF:Manifest.owners.lookup (String.ofList "rotareti_tes".toList.reverse)=some Manifest.sig_set_iterator:=by kernel_rfl
theorem args_next(a:Value):argsOk "set_iterator.__next__" ⟨[a],[]⟩:=by
 unfold argsOk;rw[signature?_of (id:= "set_iterator.__next__") (n:= "__txen__".toList) (o:= "rotareti_tes".toList) (by kernel_rfl) CF];kernel_rfl
theorem vK:entryFor table "set.__iter__"=some Builtin.«frozenset.__iter__»:=
 entryFor_alias (id' := "frozenset.__iter__") (by kernel_rfl) rfl (by decide+kernel) (by kernel_rfl)
def lZ(first:Value)(i:Nat)(a:Addr)(n ep:Nat):Obj:={cls:= .type "set_iterator",dict:=none,data:= .fields #[first,.int i 0,.ref a,.int n 0,.int ep 0],slots:= #[]}
section
variable {prog:Program}{w:World}{A:Around}{E:aJk}{s:Shared}{it a:Addr}{first:Value}{i ep n:Nat}{o:Obj}{es:Array (Int×Value)}{t:SetTable}
variable{Q:Option Value->Shared->Prop}
theorem MC{slot nx:Nat}{x:Value}(b:s.heap.get? it=some (lZ (.int slot 0) i a es.size ep))(ho:s.heap.get? a=some o)(hd:o.data= .set es ep t)(c:t.fits es.size=true)
  (hN:∀(A:Around) (E:aJk) (Q:Option (Value×Nat)->Shared->Prop),Q (some (x,nx)) s->wpAny (model prog w) A (setNext a slot i ep) Q E s)
  (q:∀h',h'.get? it=some (lZ (.int nx 0) (i+1) a es.size ep)->Heap.SameBut it s.heap h' ->Q (some x) {s with heap:=h'}):wpAny (model prog w) A (pyNext (.ref it)) Q E s:=by
 have ht:s.TypeIs (.ref it) "set_iterator":=⟨_,b,rfl⟩
 unfold pyNext;refine aFo (aHb (aGf (name:=Str.ofString "__next__") ht slot_next (aGa slot_next ht entry_next ?_ (args_next _))));unfold Builtin.«set_iterator.__next__»;refine aFo (m:=slotArgs "__next__" 0 _) (aFq ?_);refine aFo (aI9 b rfl ?_);dsimp only;refine aFo (aHv ho hd c ?_);rw[if_neg (show ¬(((es.size:Int) !=(es.size:Int))=true) by simp)];simp only[Int.toNat_natCast];refine aFo (hN _ _ _ ?_);dsimp only;refine aFo (aGl b (by simp) λj d e=>?_);refine aFo (aGl d (by simp) λf g h=>?_);refine aFq ⟨x,rfl,aFq (q f ?_ (e.trans h))⟩;rw[g];simp[lZ,rawInt]
theorem xA{B:Around}(d:B.handled=none)(h:∀h',(∀b u,s.heap.get? b=some u->h'.get? b=some u)->Q none {s with heap:=h'}):
  wpAny (model prog w) B (do let e<-newExc (.type "StopIteration") [];raiseNew e) (λ(fin:Fin) c =>∃v,fin=Fin.done (Flow.ret v)/\wpAny (model prog w) A (pure (some v)) Q E c)
   (λe c =>wpAny (model prog w) A (do let b<-isInstance e (Value.type "StopIteration");if b=true then pure none else throw e) Q E c) s:=by
 refine aFo ?_;simp only[newExc,newTuple];refine aFo (aGg ?_ (by size_fits));refine aFo (m:=firstArgMember _ _) (aIo (a:=Value.none) (by first | rfl | (simp only[firstArgMember];rfl)) ?_);refine aGg ?_ (by size_fits);simp only[raiseNew];refine aFo (wpAny_handled ?_);rw[d];refine aFo (aFq (wpAny_throw ?_));refine aFo (aIg (T:= "StopIteration") (b:=true) ⟨_,aFy _ rfl,rfl⟩ isSubtype_stop ?_);exact aFq (h _ λb u e=>aFr _ (aFr _ e))
theorem zM{slot:Nat}(d:A.handled=none)(c:s.heap.get? it=some (lZ (.int slot 0) i a es.size ep))(ho:s.heap.get? a=some o)(hd:o.data= .set es ep t)(f:t.fits es.size=true)
  (hN:∀(A:Around) (E:aJk) (Q:Option (Value×Nat)->Shared->Prop),Q none s->wpAny (model prog w) A (setNext a slot i ep) Q E s)
  (q:∀h',Heap.ExtBut it s.heap h' ->Q none {s with heap:=h'}):wpAny (model prog w) A (pyNext (.ref it)) Q E s:=by
 have ht:s.TypeIs (.ref it) "set_iterator":=⟨_,c,rfl⟩
 unfold pyNext;refine aFo (aHb (aGf (name:=Str.ofString "__next__") ht slot_next (aGa slot_next ht entry_next ?_ (args_next _))));unfold Builtin.«set_iterator.__next__»;refine aFo (m:=slotArgs "__next__" 0 _) (aFq ?_);refine aFo (aI9 c rfl ?_);dsimp only;refine aFo (aHv ho hd f ?_);rw[if_neg (show ¬(((es.size:Int) !=(es.size:Int))=true) by simp)];simp only[Int.toNat_natCast];refine aFo (hN _ _ _ ?_);dsimp only;refine aFo (aGl c (by simp) λg j h=>?_);exact xA (B:=A.in1) (s:={s with heap:=g}) (show A.in1.handled=none from d) λh' k=>q h' λb u hb e=>k b u ((h.2 b hb).trans e)
theorem MB{tp:Addr}{d:Nat}{ns:List Nat}{x:Value}(b:s.heap.get? it=some (lZ (.ref tp) i a es.size ep))(ho:s.heap.get? a=some o)(hd:o.data= .set es ep t)(l:t.fits es.size=true)
  (e:s.heap.IsTuple tp (ns.map λ(k:Nat)=>rawInt k).toArray) (f:ns[i]? =some d) (n:(es[d]?).map (·.2)=some x)
  (q:∀h',h'.get? it=some (lZ (.ref tp) (i+1) a es.size ep)->Heap.SameBut it s.heap h' ->Q (some x) {s with heap:=h'}):wpAny (model prog w) A (pyNext (.ref it)) Q E s:=by
 have ht:s.TypeIs (.ref it) "set_iterator":=⟨_,b,rfl⟩
 obtain⟨B,g,_,C,h⟩:=e;obtain⟨⟨p,r⟩,j,c⟩:=aGn.mp n;simp only at c;subst c;unfold pyNext;refine aFo (aHb (aGf (name:=Str.ofString "__next__") ht slot_next (aGa slot_next ht entry_next ?_ (args_next _))));unfold Builtin.«set_iterator.__next__»;refine aFo (m:=slotArgs "__next__" 0 _) (aFq ?_);refine aFo (aI9 b rfl ?_);dsimp only;refine aFo (aHv ho hd l ?_);rw[if_neg (show ¬(((es.size:Int) !=(es.size:Int))=true) by simp)];refine aFo (aH3 g h ?_);dsimp only;have u:(ns.map λ(k:Nat)=>rawInt k).toArray[(i:Int).toNat]? =some (Value.int d 0):=by simp[f,rawInt]
 rw[u];dsimp only;simp only[Int.toNat_natCast];refine aFo (m:=setNextDrawn a d ep) ?_;unfold setNextDrawn;refine aFo (aHu ho hd l ?_);dsimp only;rw[if_neg (by simp)];rw[j];dsimp only;refine aFq ?_;refine aFo (aGl b (by simp) λv y z=>?_);refine aFq ⟨r,rfl,aFq (q v ?_ z)⟩;rw[y];simp[lZ,rawInt]
theorem zL{tp:Addr}{ns:List Nat}(j:A.handled=none)(c:s.heap.get? it=some (lZ (.ref tp) i a es.size ep))(ho:s.heap.get? a=some o)(hd:o.data= .set es ep t)(l:t.fits es.size=true)
  (d:s.heap.IsTuple tp (ns.map λ(k:Nat)=>rawInt k).toArray) (f:ns[i]? =none)
  (q:∀h',Heap.ExtBut it s.heap h' ->Q none {s with heap:=h'}):wpAny (model prog w) A (pyNext (.ref it)) Q E s:=by
 have ht:s.TypeIs (.ref it) "set_iterator":=⟨_,c,rfl⟩
 obtain⟨y,g,_,z,h⟩:=d;unfold pyNext;refine aFo (aHb (aGf (name:=Str.ofString "__next__") ht slot_next (aGa slot_next ht entry_next ?_ (args_next _))));unfold Builtin.«set_iterator.__next__»;refine aFo (m:=slotArgs "__next__" 0 _) (aFq ?_);refine aFo (aI9 c rfl ?_);dsimp only;refine aFo (aHv ho hd l ?_);rw[if_neg (show ¬(((es.size:Int) !=(es.size:Int))=true) by simp)];refine aFo (aH3 g h ?_);dsimp only;have n:(ns.map λ(k:Nat)=>rawInt k).toArray[(i:Int).toNat]? =none:=by simpa using f
 rw[n];dsimp only;refine aFo (aGl c (by simp) λC p r=>?_);refine aFo (aGl p (by simp) λv D x=>?_);exact xA (B:=A.in1) (s:={s with heap:=v}) (show A.in1.handled=none from j) λh' k=>q h' λb u hb e=>k b u (((r.trans x).2 b hb).trans e)
end
theorem oJ{α:Type}:∀{xs:List α} {i:Nat} (h:i<xs.length),(xs[i]::xs.eraseIdx i).Perm xs
 | x::xs,0,h=>.refl _
 | x::xs,i+1,h=>by
  simp only[List.getElem_cons_succ,List.eraseIdx_cons_succ];exact(List.Perm.swap x _ _).trans ((oJ (by simpa using h)).cons x)
section
variable {M:Model}{A:Around}{E:aJk}
theorem yC{α:Type}:∀(n:Nat) (xs:List α) (s:Shared) (Q:List α->Shared->Prop),xs.length<=n->(∀ys d,ys.Perm xs->Q ys {s with drawn:=d})->wpAny M A (drawOrder n xs) Q E s
 | 0,[],s,Q,_,h=>by unfold drawOrder;exact aFq (h [] s.drawn (.refl _))
 | 0,x::xs,s,Q,hl,h=>by simp at hl
 | n+1,[],s,Q,_,h=>by unfold drawOrder;exact aFq (h [] s.drawn (.refl _))
 | n+1,x::xs,s,Q,hl,h=>by
  unfold drawOrder;refine aFo ?_;have a:0<(x::xs).length:=by simp
  refine(λc p b=>⟨by simp,?_⟩:wpAny M A (choose .order (x::xs).length) _ E s);have hi:M.w.draws .order (s.drawn.get .order) % (x::xs).length<(x::xs).length:=Nat.mod_lt _ a;generalize M.w.draws .order (s.drawn.get .order) % (x::xs).length=i at hi;revert c p b;show wpAny M A _ _ E _;refine aFq ?_;rw[List.getElem?_eq_getElem hi];dsimp only;refine aFo (yC n ((x::xs).eraseIdx i) _ _ (by rw[List.length_eraseIdx_of_lt hi];simp at hl⊢;lia) λys d e=>aFq (h _ d ?_));exact(e.cons _).trans (oJ hi)
end
theorem xM{α:Type}(next:Nat->Nat):∀(fuel k:Nat) (left:List α) (out:Array α),left.length<=fuel->(pickOrder.go next fuel k left out).toList.Perm (out.toList++left)
 | 0,k,left,out,h=>by
  have:left=[]:=aH7.mp (by lia);subst this;simp[pickOrder.go]
 | fuel+1,k,[],out,h=>by simp[pickOrder.go]
 | fuel+1,k,x::xs,out,h=>by
  unfold pickOrder.go
  have hi:next k % (x::xs).length<(x::xs).length:=Nat.mod_lt _ (by simp)
  rw[List.getElem?_eq_getElem hi];dsimp only
  generalize next k % (x::xs).length=i at hi
  have:=xM next fuel (k+1) ((x::xs).eraseIdx i) (out.push (x::xs)[i]) (by rw[List.length_eraseIdx_of_lt hi];simp at h⊢;lia)
  refine this.trans ?_;simp only[Array.toList_push,List.append_assoc,List.singleton_append];exact(oJ hi).append_left _
theorem uR{α:Type}(next:Nat->Nat)(xs:Array α):(pickOrder next xs).toList.Perm xs.toList:=by
 unfold pickOrder
 have:=xM next xs.size 0 xs.toList #[] (by simp)
 simpa using this
section
variable {prog:Program}{w:World}{A:Around}{E:aJk}{s:Shared}{a:Addr}{ep:Nat}{o:Obj}{es:Array (Int×Value)}{t:SetTable}
theorem jL{Q:Bool->Shared->Prop}(h:Q (w.params.followText "set-order") s):wpAny (model prog w) A setsByText Q E s:=by
 unfold setsByText;exact aFo (aIy (aFq h))
def uA(t:SetTable):Nat->Nat
 | 0=>0
 | i+1=>t.place.getD i 0+1
theorem FW(ht:r9 l t)(hi:i<=t.place.size):below t.place (uA t i)=i:=by
 cases i with
 | zero=>exact FV ht.ris
 | succ i=>
  have:t.place.getD i 0=t.place[i]'(by lia):=by simp[Array.getD,show i<t.place.size by lia]
  show below t.place (t.place.getD i 0+1)=i+1;rw[this];exact FX ht.ris (by lia)
theorem JI(a:t.fits es.size=true):t.place.size=es.size:=by
 simp only[SetTable.fits,Bool.and_eq_true,beq_iff_eq]at a;exact a.1
variable{Q:Option (Value×Nat)->Shared->Prop}
theorem E3(ho:s.heap.get? a=some o)(hd:o.data= .set es ep t)(d:t.fits es.size=true)(ht:r9 l t)(hb:w.params.followText "set-order"=false)(g:l=true)
  (f:(!t.plain && decide (es.size > 1))=false) (hi:i<=es.size) (q:Q ((es[i]?).map λe=>(e.2,uA t (i+1))) s):wpAny (model prog w) A (setNext a (uA t i) i ep) Q E s:=by
 have m:=JI d;unfold setNext;refine aFo (aHu ho hd d ?_);dsimp only;refine aFo (jL ?_);rw[hb,if_neg Bool.false_ne_true];have n:(if (!t.plain && decide (es.size > 1))=true then (unsupported "set_iterator.__next__:the-table-is-plain-no-more":Sem Unit) else pure ())=pure ():=by rw[f];rfl
 show wpAny _ _ (if (!t.plain && decide (es.size > 1))=true then _ else _) Q E s;rw[f,if_neg Bool.false_ne_true];have b:t.led=true:=by rw[ht.led,g]
 refine aFo ?_;show wpAny _ _ (if (!t.led && !es.isEmpty)=true then _ else _) _ E s;rw[b];simp only[Bool.not_true,Bool.false_and,Bool.false_eq_true,if_false];refine aFq ?_;rw[FW ht (by lia)];by_cases h:i<es.size
 ·have c:es[i]? =some es[i]:=by simp[h]
  have j:t.place[i]? =some (t.place[i]'(by lia)):=by simp[show i<t.place.size by lia]
  rw[c]at q⊢;rw[j];have k:t.place.getD i 0=t.place[i]'(by lia):=by simp[Array.getD,show i<t.place.size by lia]
  simp only[uA,k,Option.map_some]at q;exact aFq q
 ·have c:es[i]? =none:=by simp;lia
  rw[c]at q⊢;exact aFq q
theorem IP(ho:s.heap.get? a=some o)(hd:o.data= .set es ep t)(b:t.fits es.size=true)(hb:w.params.followText "set-order"=true)
  (q:Q (((pickOrder (w.params.setOrder a ep) es)[i]?).map λe=>(e.2,0)) s):wpAny (model prog w) A (setNext a 0 i ep) Q E s:=by
 unfold setNext;refine aFo (aHu ho hd b ?_);dsimp only;refine aFo (jL ?_);rw[hb,if_pos rfl];rw[if_neg (by simp)];refine aFo ?_;unfold setWalk;refine aFo (aHu ho hd b ?_);dsimp only;refine aFo (jL ?_);rw[hb,if_pos rfl];refine aFo (aIy ?_);exact aFq (aFq q)
end
theorem wG:entryFor table "set_iterator.__iter__"=some Builtin.«dict_keyiterator.__iter__»:=
 entryFor_alias (id' := "dict_keyiterator.__iter__") (by kernel_rfl) rfl (by decide+kernel) (by kernel_rfl)
theorem A1(a:Value):argsOk "set_iterator.__iter__" ⟨[a],[]⟩:=by
 unfold argsOk;rw[signature?_of (id:= "set_iterator.__iter__") (n:= "__reti__".toList) (o:= "rotareti_tes".toList) (by kernel_rfl) CF];kernel_rfl
theorem xI{α:Type}:∀l:List α,(List.range l.length).filterMap (λk=>l[k]?)=l
 | []=>rfl
 | x::l=>by
  have:=xI l;rw[List.length_cons,List.range_succ_eq_map,List.filterMap_cons];simp only[List.getElem?_cons_zero,List.filterMap_map,Function.comp_def,List.getElem?_cons_succ];rw[this]
section
variable {prog:Program}{w:World}{A:Around}{E:aJk}{s:Shared}
theorem xT{it a:Addr}{first:Value}{i n ep:Nat}{Q:aJk}(b:s.heap.get? it=some (lZ first i a n ep))(h:Q (.ref it) s):wpAny (model prog w) A (pyIter (.ref it)) Q E s:=by
 have ht:s.TypeIs (.ref it) "set_iterator":=⟨_,b,rfl⟩
 refine aI7 ht xC (aGa xC ht wG ?_ (A1 _));show wpAny _ _ (ret (.ref it)) _ _ s;exact aFq ⟨_,rfl,"set_iterator",_,ht,slot_next.lookup,h⟩
variable{es:Array (Int×Value)}
theorem BG(m:A.handled=none){it a:Addr}(f:a≠it){o:Obj}{ep:Nat}(hd:o.data= .set es ep t)(j:t.fits es.size=true)(sl:Nat->Nat)(vs:List Value)(c:vs.length=es.size)
  (hN:∀(i:Nat),i<=es.size->∀(s:Shared),s.heap.get? a=some o->∀(A:Around) (E:aJk) (Q:Option (Value×Nat)->Shared->Prop),Q ((vs[i]?).map λv=>(v,sl (i+1))) s->wpAny (model prog w) A (setNext a (sl i) i ep) Q E s):
  Walks prog w A it [it,a] [it] vs.length (λi v=>vs[i]? =some v) (λi h=>i<=es.size/\h.get? it=some (lZ (.int (sl i) 0) i a es.size ep)/\h.get? a=some o) where
 sub:=λb hb=>by simp at hb;simp[hb]
 frame:=λ_ _ _ st l=>⟨st.1,l it (by simp) _ st.2.1,l a (by simp) _ st.2.2⟩
 item:=λi s Q E hi st d=>by
  have e:vs[i]? =some vs[i]:=by simp[hi]
  refine MC (x:=vs[i]) (nx:=sl (i+1)) st.2.1 st.2.2 hd j (λA E Q q=>hN i st.1 s st.2.2 A E Q (by rw[e];exact q)) λh' g k=>?_;refine d _ h' s.toks e ⟨by lia,g,(k.2 a f).trans st.2.2⟩ λb u hb e=>(k.2 b (by simpa using hb)).trans e
 done:=λs Q E st d=>by
  rw[c]at st;refine zM m st.2.1 st.2.2 hd j (λA E Q q=>hN es.size (aFw _) s st.2.2 A E Q (by rw[List.getElem?_eq_none (by lia)];exact q)) λh' k=>?_;exact d h' s.toks λb u hb e=>k b u (by simpa using hb) e
 self:=λ_ _ _ _ st d=>xT st.2.1 d
theorem KJ(r:A.handled=none){it a tp:Addr}(d:a≠it)(f:tp≠it){o:Obj}{ep:Nat}(hd:o.data= .set es ep t)(m:t.fits es.size=true)(ns:List Nat)(vs:List Value)(n:ns.length=vs.length)
  (y:∀(i p:Nat),ns[i]? =some p->(es[p]?).map (·.2)=vs[i]?):
  Walks prog w A it [it,a,tp] [it] vs.length (λi v=>vs[i]? =some v) (λi h=>h.get? it=some (lZ (.ref tp) i a es.size ep)/\h.get? a=some o/\h.IsTuple tp (ns.map λ(k:Nat)=>rawInt k).toArray) where
 sub:=λb hb=>by simp at hb;simp[hb]
 frame:=λ_ _ _ st j=>⟨j it (by simp) _ st.1,j a (by simp) _ st.2.1,st.2.2.at λo e=>j tp (by simp) o e⟩
 item:=λi s Q E hi st c=>by
  have e:vs[i]? =some vs[i]:=by simp[hi]
  have l:i<ns.length:=by lia
  have q:ns[i]? =some ns[i]:=by simp[l]
  refine MB (x:=vs[i]) st.1 st.2.1 hd m st.2.2 q (by rw[y i _ q,e]) λh' g k=>?_;refine c _ h' s.toks e ⟨g,(k.2 a d).trans st.2.1,st.2.2.extBut k.extBut f⟩ λb u hb e=>(k.2 b (by simpa using hb)).trans e
 done:=λs Q E st c=>by
  refine zL r st.1 st.2.1 hd m st.2.2 (by rw[List.getElem?_eq_none (by lia)]) λh' k=>?_;exact c h' s.toks λb u hb e=>k b u (by simpa using hb) e
 self:=λ_ _ _ _ st c=>xT st.1 c
end
section
variable {prog:Program}{w:World}{K:Type}[DecidableEq K]{knd:KeyKind prog w K}{A:Around}{E:aJk}{s:Shared}
def ZS(knd:KeyKind prog w K)(ks:List K)(vs:List Value):Prop:=∃ps:List (K×Value),ps.map (·.2)=vs/\(ps.map (·.1)).Perm ks/\∀p∈ps,knd.is p.1 p.2=true
theorem Es.ZM{b:Array (Int×Value)}{ks:List K}(h:Es knd b ks){l:List (Int×Value)}(p:l.Perm b.toList):ZS knd ks (l.map (·.2)):=by
 obtain⟨ps,d,e,f⟩:=h;obtain⟨a,c,g⟩:=rN (·.2) p ps d.symm;refine⟨a.map λp=>(p.1,p.2.2),by rw[<-g];simp,?_,λp i=>?_⟩
 ·have:=(c.map (·.1)).trans e;simpa[Function.comp_def] using this
 ·obtain⟨q,j,rfl⟩:=aG0.mp i;exact(f q (c.mem_iff.mp j)).1
structure ItS(prog:Program)(w:World)(knd:KeyKind prog w K)(ks:List K)(a:Addr)(s s2:Shared)(I:Addr):Prop where
 kept:∀b u,s.heap.get? b=some u->s2.heap.get? b=some u
 new:s.heap.objs.size<=I
 same:s2.gens=s.gens/\s2.os=s.os/\s2.toks=s.toks
 walk:∃(fp:List Addr) (St:Nat->Heap->Prop) (vs:List Value),(∀A:Around,A.handled=none->Walks prog w A I fp [I] vs.length (λi v=>vs[i]? =some v) St)/\St 0 s2.heap/\(∀b∈fp,(b=a\/s.heap.objs.size<=b)/\b<s2.heap.objs.size)/\ZS knd ks vs
theorem NA{a:Addr}{ks:List K}{Q:aJk}(G:gP knd (hC w) s.heap a ks)(h:∀I s2,ItS prog w knd ks a s s2 I->Q (.ref I) s2):wpAny (model prog w) A (pyIter (.ref a)) Q E s:=by
 have H:=G.typeIs;obtain⟨o,c,ep,t,ho,hex,hd,he,nd,hb,g,ht⟩:=G;have f:=aG2 ho;refine aI7 H F.slot_set_iter (aGa F.slot_set_iter H vK ?_ (F.args_set_iter_1 _));unfold Builtin.«frozenset.__iter__»;refine aFo (m:=Builtin.Frozenset.slot0 "__iter__" _) (aFq ?_);refine aFo ?_;unfold Builtin.Frozenset.sizeOf;refine aFo (aHv ho hd g (aFq ?_));refine aFo ?_;unfold setDrawn;refine aFo (aHu ho hd g ?_);dsimp only;refine aFo (jL (aFq ?_));show wpAny _ _ (if (!w.params.followText "set-order" && (!t.plain && decide (c.size > 1)))=true then _ else _) _ _ s;have P:=he.size;by_cases l:(!w.params.followText "set-order" && (!t.plain && decide (c.size > 1)))=true
 ·rw[if_pos l];refine aFo (yC c.size (List.range c.size) s _ (by simp) λns d p=>?_)
  have hsz:(ns.map λ(i:Nat)=>rawInt i).length<=sizeLine:=by
   have:=p.length_eq;have:=fits_of_scanBound hb;simp at*;lia
  refine aFo (aIa ?_ hsz);dsimp only;refine aFo (m:=setEpoch a) (wpAny_setEpoch_of (o:=o) (aFr _ ho) hd g ?_);refine aFo (m:=newFields "set_iterator" _) (aGg ?_ (by size_fits));refine aFq ⟨_,rfl,"set_iterator",_,⟨_,aFy _ rfl,rfl⟩,slot_next.lookup,?_⟩;refine h _ _ ⟨λb u e=>aFr _ (aFr _ e),by simp[Heap.size_push],⟨rfl,rfl,rfl⟩,?_⟩;have C:∀k∈ns,k<c.size:=λk B=>by simpa using p.mem_iff.mp B
  have r:(ns.filterMap λk=>c[k]?).Perm c.toList:=by
   have J:=p.filterMap λk=>c[k]?;have M:(List.range c.size).filterMap (λk=>c[k]?)=c.toList:=by simpa using xI c.toList
   rw[M]at J;exact J
  have v:(ns.filterMap λk=>c[k]?).length=ns.length:=by
   have:=r.length_eq;have:=p.length_eq;simp at*;lia
  have x:∀(ns:List Nat),(∀k∈ns,k<c.size)->∀(i n:Nat),ns[i]? =some n->c[n]? =(ns.filterMap λk=>c[k]?)[i]? :=by
   intro ns
   induction ns with
   | nil=>intro _ i n hi;simp at hi
   | cons k ns ih=>
    intro L i n hi;have B:=L k (by simp)
    cases i with
    | zero=>simp at hi;subst hi;simp[B]
    | succ i=>
     simp at hi;rw[ih (λj N=>L j (by simp[N])) i n hi];simp[B]
  refine⟨_,_,(ns.filterMap λk=>c[k]?).map (·.2),λA y=>KJ (tp:=s.heap.objs.size) y ?_ ?_ hd g ns _ (by simp[v]) λi n hi=>by rw[x ns C i n hi,List.getElem?_map],⟨aFy _ rfl,aFr _ (aFr _ ho),?_⟩,?_,he.ZM r⟩
  ·rw[Heap.size_push];exact aG9 (aGt f)
  ·rw[Heap.size_push];exact aG9 (aHf _)
  ·exact⟨_,aFr _ (aFy _ rfl),rfl,_,rfl⟩
  ·intro b hb;simp only[List.mem_cons,List.not_mem_nil,or_false]at hb;simp only[Heap.size_push];rcases hb with rfl | rfl | rfl
   ·exact⟨.inr (by simp only[Heap.size_push];exact aJe _),by simp only[Heap.size_push];exact aHf _⟩
   ·exact⟨.inl rfl,aGt (aGt f)⟩
   ·exact⟨.inr (aFw _),aGt (aHf _)⟩
 ·rw[if_neg l];refine aFo (aFq ?_);refine aFo (m:=setEpoch a) (wpAny_setEpoch_of ho hd g ?_);refine aFo (m:=newFields "set_iterator" _) (aGg ?_ (by size_fits));refine aFq ⟨_,rfl,"set_iterator",_,⟨_,aFy _ rfl,rfl⟩,slot_next.lookup,?_⟩;refine h _ _ ⟨λb u e=>aFr _ e,aFw _,⟨rfl,rfl,rfl⟩,?_⟩;have z:a≠s.heap.objs.size:=aG9 f
  cases hbt:w.params.followText "set-order" with
  | true=>
   have r:=uR (w.params.setOrder a ep) c;refine⟨_,_,(pickOrder (w.params.setOrder a ep) c).toList.map (·.2),λA y=>BG y z hd g (λ_=>0) _ (by have:=r.length_eq;simp at*;lia) λi hi O D A E Q q=>IP D hd g hbt (by simpa[Function.comp_def] using q),⟨by lia,aFy _ rfl,aFr _ ho⟩,?_,he.ZM r⟩;intro b hb;simp only[List.mem_cons,List.not_mem_nil,or_false]at hb;simp only[Heap.size_push];rcases hb with rfl | rfl
   ·exact⟨.inr (aFw _),aHf _⟩
   ·exact⟨.inl rfl,aGt f⟩
  | false=>
   have p:(!t.plain && decide (c.size > 1))=false:=by
    rw[hbt]at l;simpa using l
   refine⟨_,_,c.toList.map (·.2),λA y=>BG y z hd g (uA t) _ (by simp) λi hi O D A E Q q=>E3 D hd g ht hbt (by simp[hC,hbt]) p hi (by simpa[Function.comp_def] using q),⟨by lia,aFy _ rfl,aFr _ ho⟩,?_,he.ZM (.refl _)⟩;intro b hb;simp only[List.mem_cons,List.not_mem_nil,or_false]at hb;simp only[Heap.size_push];rcases hb with rfl | rfl
   ·exact⟨.inr (aFw _),aHf _⟩
   ·exact⟨.inl rfl,aGt f⟩
end
open PySem.Calls
section
variable {prog:Program}{w:World}{K:Type}[DecidableEq K]{knd:KeyKind prog w K}{A:Around}{E:aJk}{s:Shared}{a:Addr}{ks:List K}
theorem NH{Q:Bool->Shared->Prop}(e:s.TypeIs (.ref a) "set")(h:Q false s):wpAny (model prog w) A (Builtin.List.listLengthHint (.ref a)) Q E s:=by
 unfold Builtin.List.listLengthHint;refine aFo (aJ3 e PySem.F.slot_set_len.lookup ?_);generalize d:("set.__len__":String)=id0
 wp_delta
 rw[show splitId id0=some ("set","__len__") from by subst d;decide+kernel];subst d;refine aFo (aIg (T:= "set") (b:=true) e (by rw[isSubtype_type];kernel_rfl) ?_);refine aJ4 (λc=>absurd c (by decide)) (λ_=>?_);refine aJ4 (λ_=>?_) (λc=>absurd (by decide+kernel) c);refine aFo (aHy e ?_);exact aFq h
theorem NB{vs:List Value}{a:Array Value}(h:ItemsOf (λi v=>vs[i]? =some v) a vs.length):a=vs.toArray:=by
 apply Array.ext_getElem?;intro i;by_cases hi:i<vs.length
 ·have SI:i<a.size:=by rw[h.1];exact hi
  have:=h.2 i a[i] (by simp[SI]);simp[SI,this]
 ·simp[hi,h.1]
theorem ES{R:Result->Shared->Prop}(y:gP knd (hC w) s.heap a ks)(D:A.handled=none)(S:Addr)(n:S≠a)(res:Value)(j:Nat)(p:s.heap.get? S=some {cls:= .type "list",data:= .seq #[] j})
  (J:∀(d :Shared) (vs:List Value) (m :Nat),ZS knd ks vs->d.gens=s.gens->d.os=s.os->(∀b o,b≠S->s.heap.get? b=some o->d.heap.get? b=some o)->d.heap.get? S=some {cls:= .type "list",dict:=none,data:= .seq vs.toArray m,slots:= #[]}->R (.ok (.ret res)) d)
  (U:ks.length<=sizeLine):
  wpAny (model prog w) A.in1 (Builtin.List.listExtendWith (.ref S) (.ref a) res)
   (λfin d =>match fin with | .done f=>R (.ok f) d | .again m =>m.quiet=true/\codeAny (model prog w) A m R d) (λe d =>R (.error e) d) s:=by
 have q:=aG2 p;unfold Builtin.List.listExtendWith;refine aFo (aHy (T:= "set") y.typeIs ?_);have K:Builtin.List.listSameRef (.ref S) (.ref a)=false:=by simp[Builtin.List.listSameRef,n]
 have L:(Value.type "set"==Value.type "list")=false:=by decide
 have M:(Value.type "set"==Value.type "tuple")=false:=by decide
 simp only[K,L,M,Bool.or_false,Bool.false_eq_true,if_false];refine aFo (NA y λI s2 it=>?_);obtain⟨fp,St,vs,W,st,B,ZM⟩:=it.walk
 have E:vs.length=ks.length:=by
  obtain⟨ps,N,O,_⟩:=ZM;have:=aGs List.length N;have:=O.length_eq;simp at*;lia
 have r:S∉fp:=λt=>by
  rcases(B S t).1 with z | z
  ·exact n z
  ·exact absurd q (Nat.not_lt.mpr z)
 have key:∀(h:Heap) (g G:Nat),St 0 h->(∀b o,b≠S->s.heap.get? b=some o->h.get? b=some o)->
   h.get? S=some {cls:= .type "list",data:= .seq #[] g}->codeAny (model prog w) A (.builtin "list.extend.loop" ⟨[.ref S,.ref I,res],[]⟩) R {s2 with heap:=h,toks:=G}:=by
  intro h g G C P c;refine codeAny_extend_loopS (W A.in1 D).toS (by lia) S r res vs.length 0 _ #[] g rfl (aH2 _) C c (ItemsOf.nil _) λd H m t u v=>?_;rw[NB v]at u;refine J d vs m ZM (t.gens.trans it.same.1) (t.os.trans it.same.2.1) (λb o hb e=>t.heap b o (λhmem=>?_) (P b o hb e)) u;rcases aFx.mp hmem with Q | hmem
  ·exact hb Q
  ·rw[List.mem_singleton.mp hmem]at e;exact absurd (aG2 e) (Nat.not_lt.mpr it.new)
 have c:=it.kept _ _ p;have k:gP knd (hC w) s2.heap a ks:=y.keep λo e=>it.kept _ _ e;refine aFo (aGj (NH k.typeIs ?_));refine aJ4 (λ_=>?_) (λ_=>aFq ⟨aHg PySem.F.plain_extend_loop _,key s2.heap j s2.toks st (λb o _ e=>it.kept _ _ e) c⟩);refine aFo (aGx ?_);refine aFo ?_;show wpAny _ _ (updateSeq S (·.push .none) >>=λ_=>updateSeq S (·.pop)) _ _ _;refine aFo (aHk c rfl ?_);have i:=aGq (Obj.mapSeq (·.push Value.none)) c rfl;refine aHk (hz:=by seq_fits) i rfl ?_;have l:=aGq (Obj.mapSeq (·.pop)) i rfl;refine aFq ⟨aHg PySem.F.plain_extend_loop _,key _ _ s2.toks ?_ (λb o hb e=>?_) l⟩
 ·refine(W A.in1 D).frame 0 _ _ st λb hb o e=>?_;have x:b≠S:=λh=>r (h▸hb);exact(aGm _ _ (aGr x)).trans ((aGm _ _ (aGr x)).trans e)
 ·exact(aGm _ _ (aGr hb)).trans ((aGm _ _ (aGr hb)).trans (it.kept _ _ e))
theorem BU{R:List Value->Shared->Prop}(p:gP knd (hC w) s.heap a ks)(r:A.handled=none)(t:ks.length<=sizeLine)
  (h:∀(c :Shared) (vs:List Value),ZS knd ks vs->c.gens=s.gens->c.os=s.os->(∀b o,s.heap.get? b=some o->c.heap.get? b=some o)->R vs c):
  wpAny (model prog w) A (collect (.ref a)) R E s:=by
 have n:a<s.heap.objs.size:=by obtain⟨o,_,_,_,ho,_⟩:=p;exact aG2 ho
 unfold collect;refine aFo (wpAny_runValue (aGy PySem.F.entry_proto_collect ?_));rw[Around.under_plainId PySem.F.plain_proto_collect _];show wpAny _ A.in1 (newList [] >>=λl=>again (.builtin "list.__iadd__" ⟨[l,.ref a],[]⟩)) _ _ s;refine aFo (aGg ?_);refine aFq ⟨aHg PySem.F.plain_list_iadd _,aGy PySem.F.entry_list_iadd ?_⟩;rw[Around.under_plainId PySem.F.plain_list_iadd _];have g:(s.heap.push {cls:= .type "list",data:= .seq ([]:List Value).toArray}).get? s.heap.objs.size=some {cls:= .type "list",data:= .seq #[]}:=aFy _ rfl;show wpAny _ A.in1 (Builtin.List.listExtendWith (.ref s.heap.objs.size) (.ref a) (.ref s.heap.objs.size)) _ _ _
 have key:=ES (A:=A) (s:={s with heap:=s.heap.push {cls:= .type "list",data:= .seq ([]:List Value).toArray}}) (knd:=knd) (ks:=ks)
  (R:=λ(q:Result) (c :Shared)=>∃(vs:List Value) (i :Nat),q= .ok (.ret (.ref s.heap.objs.size))/\ZS knd ks vs/\c.gens=s.gens/\c.os=s.os/\
   (∀b o,s.heap.get? b=some o->c.heap.get? b=some o)/\c.heap.get? s.heap.objs.size=some {cls:= .type "list",dict:=none,data:= .seq vs.toArray i,slots:= #[]})
  (p.keep λo e=>aFr _ e) r s.heap.objs.size (aIe n) (.ref s.heap.objs.size) 0 g
  (λc vs i j hg ho k d =>⟨vs,i,rfl,j,hg,ho,λb o e=>k b o (aG9 (aG2 e)) (aFr _ e),d⟩) t
 refine aGi key (λfin c x=>?_) λe c x=>?_
 ·cases fin with
  | done f=>
   obtain⟨vs,i,e,j,hg,ho,k,d⟩:=x;cases e;show wpAny _ A (load s.heap.objs.size >>=_) _ _ _;refine aFo (aJ8 d ?_);exact aFq (by simpa using h c vs j hg ho k)
  | again c₁=>
   refine⟨x.1,aHt x.2 λq m y=>?_⟩;obtain⟨vs,i,rfl,j,hg,ho,k,d⟩:=y;show wpAny _ A (load s.heap.objs.size >>=_) _ _ _;refine aFo (aJ8 d ?_);exact aFq (by simpa using h m vs j hg ho k)
 ·obtain⟨_,_,u,_⟩:=x;cases u
end
end ST
namespace L2
open PySem PySem.Spec PyProof.Rows
def mG:List (Str×NameKind)->List (Str×Addr)->List (Str×Addr)->List (Str×Addr)
 | [],_,acc=>acc
 | (n,k)::r,cells,acc=>mG r cells (if k== .free then (n,(cells.lookup n).getD 0)::acc else acc)
theorem yF{env:Env}:∀(names:List (Str×NameKind)) (b:List (Str×Addr)),(∀x∈names,x.2= .free->∃c,env.cells.lookup x.1=some c)->
  (forIn names b λ(x:Str×NameKind) (f:List (Str×Addr))=>(if (x.2==NameKind.free)=true then do let a<-cellOf env x.1;pure (ForInStep.yield ((x.1,a)::f)) else pure (ForInStep.yield f):Sem _))=(pure (mG names env.cells b):Sem _)
 | [],b,_=>by simp[mG]
 | (n,k)::r,b,h=>by
  have g:=λd =>yF (env:=env) r d λx j=>h x (aFt _ j);rw[List.forIn_cons];by_cases i:k= .free
  ·subst i;obtain⟨c,l⟩:=h (n,.free) aFs rfl;have e :env.cells.lookup n=some c:=l;simp only[mG,beq_self_eq_true,if_true,cellOf,e,pure_bind,Option.getD_some];exact g _
  ·have hb:(k==NameKind.free)=false:=by simpa using i
   simp only[mG,hb,Bool.false_eq_true,if_false,pure_bind];exact g _
variable{scope:Scope}{env:Env}
theorem wL(h:∀x∈scope.names,x.2= .free->∃c,env.cells.lookup x.1=some c):closureFor scope env=pure (mG scope.names env.cells []):=by
 have e:=yF (env:=env) scope.names [] h;unfold closureFor;simp only[bind_pure_comp]at e⊢
 first
  | (rw[<-e];rfl)
  | (simp at e⊢;rw[<-e];rfl)
  | (simp at e⊢;exact e)
theorem yG{cells:List (Str×Addr)}{P:Str->Addr->Prop}:∀(names:List (Str×NameKind)) (a:List (Str×Addr)),(∀x∈a,P x.1 x.2)->(∀n,(n,NameKind.free)∈names->P n ((cells.lookup n).getD 0))->∀x∈mG names cells a,P x.1 x.2
 | [],a,h,_,x,hx=>h x hx
 | (n,k)::r,a,h,b,x,hx=>by
  refine yG (cells:=cells) r _ (λy hy=>?_) (λm d=>b m (aFt _ d)) x hx;by_cases c:k= .free
  ·subst c;simp only[beq_self_eq_true,if_true]at hy;rcases aFx.mp hy with rfl | hy
   ·exact b n aFs
   ·exact h y hy
  ·have hb:(k==NameKind.free)=false:=by simpa using c
   simp only[hb,Bool.false_eq_true,if_false]at hy;exact h y hy
theorem fU{α:Type}:∀{l:List (Str×α)} {n:Str} {c:α},(n,c)∈l->∃a,l.lookup n=some a
 | (k,v)::r,n,c,h=>by
  rw[List.lookup_cons]
  cases hb:n==k with
  | true=>exact⟨v,rfl⟩
  | false=>
   rcases aFx.mp h with e | h
   ·injection e with b _;rw[b]at hb;simp at hb
   ·exact fU h
theorem r6{cells:List (Str×Addr)}:∀(names:List (Str×NameKind)) (a:List (Str×Addr)) (x:Str×Addr),x∈a->x∈mG names cells a
 | [],_,_,h=>h
 | (n,k)::r,a,x,h=>by
  refine r6 r _ x ?_;by_cases b:(k==NameKind.free)=true
  ·rw[if_pos b];exact aFt _ h
  ·rw[if_neg b];exact h
theorem yH{cells:List (Str×Addr)}:∀(names:List (Str×NameKind)) (a:List (Str×Addr)) (n:Str),(n,NameKind.free)∈names->∃c,(n,c)∈mG names cells a
 | (m,k)::r,a,n,h=>by
  rcases aFx.mp h with e | h
  ·injection e with b d;subst b d;exact⟨(cells.lookup n).getD 0,r6 r _ _ (by simp)⟩
  ·exact yH r _ n h
theorem pS{x:Str}{b :NameKind}:(relabel scope env).names.lookup x=some b ->∃k,scope.names.lookup x=some k/\(b =k\/(k= .free/\b = .cell)):=by
 unfold relabel;dsimp only;generalize scope.names=l
 induction l with
 | nil=>intro h;simp at h
 | cons p r ih=>
  obtain⟨n,k⟩:=p;intro h;rw[List.map_cons]at h;by_cases a:(k==NameKind.free && env.scope.kind== .function && env.kindOf n==some .cell)=true
  ·simp only[a,if_true,List.lookup_cons]at h⊢
   cases hb:x==n with
   | true=>
    rw[hb]at h;simp only[Bool.and_eq_true,beq_iff_eq]at a;exact⟨k,rfl,.inr ⟨a.1.1,(aG8 h).symm⟩⟩
   | false=>rw[hb]at h;exact ih h
  ·have c :(k==NameKind.free && env.scope.kind== .function && env.kindOf n==some .cell)=false:=by simpa using a
   simp only[c,Bool.false_eq_true,if_false,List.lookup_cons]at h⊢
   cases hb:x==n with
   | true=>rw[hb]at h;exact⟨k,rfl,.inl (aG8 h).symm⟩
   | false=>rw[hb]at h;exact ih h
theorem zD{x:Str}:scope.names.lookup x=some .free->(relabel scope env).names.lookup x=some .cell\/(relabel scope env).names.lookup x=some .free:=by
 unfold relabel;dsimp only;generalize scope.names=l
 induction l with
 | nil=>intro h;simp at h
 | cons p r ih=>
  obtain⟨n,k⟩:=p;intro h;rw[List.map_cons];rw[List.lookup_cons]at h
  cases hb:x==n with
  | true=>
   rw[hb]at h;have c:k= .free:=aG8 h;subst c;by_cases b:(NameKind.free==NameKind.free && env.scope.kind== .function && env.kindOf n==some .cell)=true
   ·simp only[b,if_true,List.lookup_cons,hb];first | exact .inl rfl | exact .inl trivial
   ·have a :(NameKind.free==NameKind.free && env.scope.kind== .function && env.kindOf n==some .cell)=false:=by simpa using b
    simp only[a,Bool.false_eq_true,if_false,List.lookup_cons,hb];first | exact .inr rfl | exact .inr trivial
  | false=>
   rw[hb]at h;by_cases b:(k==NameKind.free && env.scope.kind== .function && env.kindOf n==some .cell)=true
   ·simp only[b,if_true,List.lookup_cons,hb];exact ih h
   ·have a :(k==NameKind.free && env.scope.kind== .function && env.kindOf n==some .cell)=false:=by simpa using b
    simp only[a,Bool.false_eq_true,if_false,List.lookup_cons,hb];exact ih h
def aZ(X:Cx)(own:List Str)(aH:List Nat)(scope:Scope)(cl:List (Str×Addr))(C:Addr)(fp:List Addr)(s₀:Shared)(H₀:Hp):Cx where
 prog:=X.prog
 w:=X.w
 K:=X.K
 mg:=X.mg
 base:=X.base
 A:=X.A
 N:=own++aH.map λi=>X.N.getD i ""
 s₀:=s₀
 H₀:=H₀
 env:=compEnvC scope cl C X.env
 outer:=X.stack
 stack:=X.stack
 ex:=fp
 fn:=λ_=>false
 calm:=X.calm
 pn:=[]
 xe:=λ_ _=>False
def rB(own:List Str)(aH:List Nat)(σ:St):St:=own.map (λ_=>none)++aH.map λi=>(σ[i]?).join
def iS(N:List Str)(sc scope:Scope)(aH:List Nat):Bool:=
 scope.kind== .function && scope.names.all (λy=>y.2 != .cell) && scope.names.all (λy=>y.2 != .local || scope.names.lookup y.1==some .local) &&
 scope.names.all (λy=>y.2 != .free || (sc.names.lookup y.1==some .cell || sc.names.lookup y.1==some .free)) &&
 aH.all (λi=>match N[i]? with | some x=>scope.names.lookup x==some .free | none=>false)
structure F7(X:Cx)(scope:Scope)(aH:List Nat):Prop where
 kind:scope.kind= .function
 L9:∀y∈scope.names,y.2≠ .cell
 loc:∀y∈scope.names,y.2= .local->scope.names.lookup y.1=some .local
 fr:∀y∈scope.names,y.2= .free->X.env.kindOf y.1=some .cell\/X.env.kindOf y.1=some .free
 cap:∀i∈aH,∃x,X.N[i]? =some x/\scope.names.lookup x=some .free
variable{X:Cx}{sc:Scope}{N:List Str}
theorem F7.of{aH:List Nat}(hN:X.N=N)(b:X.env.scope=sc)(h:iS N sc scope aH=true):F7 X scope aH:=by
 subst hN b;unfold iS at h;simp only[Bool.and_eq_true,List.all_eq_true]at h;obtain⟨⟨⟨⟨c,d⟩,f⟩,g⟩,j⟩:=h;refine⟨beq_iff_eq.mp c,λy a z=>?_,λy a z=>?_,λy a z=>?_,λi hi=>?_⟩
 ·have:=d y a;rw[z]at this;exact absurd this (by decide)
 ·have:=f y a;rw[z]at this;simpa using this
 ·have:=g y a;rw[z]at this;have this:(X.env.scope.names.lookup y.1==some NameKind.cell || X.env.scope.names.lookup y.1==some NameKind.free)=true:=by simpa using this
  rcases Bool.or_eq_true_iff.mp this with q | q
  ·exact .inl (beq_iff_eq.mp q)
  ·exact .inr (beq_iff_eq.mp q)
 ·have:=j i hi
  cases e:X.N[i]? with
  | none=>rw[e]at this;simp at this
  | some x=>rw[e]at this;exact⟨x,rfl,beq_iff_eq.mp this⟩
def ZH(X:Cx)(a:List Expr)(t:TT):Prop:=
 ∀(pins:List (Addr×Obj)) (s:Shared) (σ:St) (H:Hp) (Q:Bool->Hp->Prop),Inv X pins σ H s->t σ H Q->
  wpAny (model X.prog X.w) X.A (forIn a true λc r=>if r=true then do let ok<-isTrue c X.env (eval c X.env);pure (ForInStep.yield ok) else pure (ForInStep.yield r)) (TP X pins σ Q) X.xe s
def aDh:TT:=λ_ H Q=>Q true H
theorem QK:ZH X [] aDh:=λ_ _ _ H _ I h=>wpAny_tests_nil ⟨H,I,h⟩
theorem QJ{c:Expr}{t:TT}(h:PT X c t):ZH X [c] t:=λpins s σ H Q I q=>wpAny_tests_one (h pins s σ H Q I q)
def F4(n:Nat)(g:TG):Prop:=∀v σ H Q,g v σ H Q->g v σ H λa H' =>Q a H' /\a.length=σ.length/\∀j,n<=j->a[j]? =σ[j]?
theorem JG{n i:Nat}(h:i<n):F4 n (xX i):=λv σ H Q q=>⟨q,by simp,λj a=>by rw[List.getElem?_set_ne (by lia)]⟩
variable{prog:Program}{w:World}{A:Around}{R:Result->Shared->Prop}{s:Shared}{ifs:List Expr}{pos:Pos}{it acc:Value}
theorem DV{k a iter:Expr}(I:Nat->Shared->Prop)
  (l:∀n s,I n s->wpAny (model prog w) A (pyNext it) (λr b=>match r with
   | none=>R (.ok .next) b
   | some v=>wpAny (model prog w) A (letOwnedTupleGo a it v) (λ_ b=>wpAny (model prog w) A (assign a env v) (λ_ f=>
     wpAny (model prog w) A (forIn ifs true λc r=>if r=true then do let ok<-isTrue c env (eval c env);pure (ForInStep.yield ok) else pure (ForInStep.yield r)) (λok e=>
      if ok=true then wpAny (model prog w) A (eval k env) (λx g=>
       wpAny (model prog w) A (call (.builtin "list.append") [acc,x]) (λ_ i=>∃m,m<n/\I m i) (λ_ _=>False) g) (λ_ _=>False) e
      else ∃m,m<n/\I m e) (λ_ _=>False) f) (λ_ _=>False) b) (λ_ _=>False) b) (λ_ _=>False) s)
  (n:Nat) (h:I n s):codeAny (model prog w) A (.compLoop (.ListComp k [⟨a,iter,ifs,0⟩] scope pos) 0 it acc env) R s:=by
 refine codeAny_loop rfl I (λn s t=>?_) n h;show wpAny _ A ((compTurn (.ListComp k [⟨a,iter,ifs,0⟩] scope pos) 0 it acc env).onRaise (λx=>do noteFrame x env;theTreesLotGoes x)) _ _ s;refine wpAny_noted ?_;rw[compTurn_list];refine aFo (aI2 (aFo (aGi (l n s t) (λr b d=>?_) λ_ _ h' =>h'.elim)))
 cases r with
 | none=>exact aFq d
 | some v=>
  refine aFo (aGi d (λ_ b d=>?_) λ_ _ h' =>h'.elim);refine aFo (aGi d (λ_ f o=>aFo (aGi o (λok e j=>?_) λ_ _ h' =>h'.elim)) λ_ _ h' =>h'.elim)
  cases ok with
  | false=>exact aFq ⟨rfl,j⟩
  | true=>
   exact aFo (aFo (aGi j (λx g p=>aFo (aGi p (λ_ i q=>aFq (aFq ⟨rfl,q⟩)) λ_ _ h' =>h'.elim)) λ_ _ h' =>h'.elim))
def A3(P:Program)(w:World)(p:Addr)(ks:List Key):HO:= .ext λh=>ST.gP (aW P w) (ST.hC w) h p ks
variable{P:Program}{h:Heap}
theorem zA{H:Hp}{p:Addr}{ks:List Key}(x:ST.gP (aW P w) (ST.hC w) h p ks):cW P w H h p (A3 P w p ks):=
 ⟨x,by obtain⟨o,_,_,_,ho,_⟩:=x;exact⟨o,ho⟩,λa b q k=>q.keep λo e=>k o e⟩
def qQ:V->Option Key
 | .int i=>some (.inl i)
 | .str x=>some (.inr x)
 | _=>none
abbrev N8(b:Bool)(a:Expr)(c:List Comprehension)(sc:Scope)(pos:Pos):Expr:=match b with
 | false=>.ListComp a c sc pos
 | true=>.SetComp a c sc pos
def A6(P:Program)(w:World)(b:Bool)(a:Addr)(ys:List V):HO:=match b with
 | false=>.lst ys
 | true=>A3 P w a (ST.aR [] (ys.filterMap qQ))
abbrev cmN(b:Bool):Sem Value:=match b with
 | false=>newList []
 | true=>newSet (.type "set")
variable{Q:aJk}
theorem YX{E:aJk}{b:Bool}(h:∀G:Heap,(∀c o,s.heap.get? c=some o->G.get? c=some o)->G.objs.size=s.heap.objs.size+1->
  (∀H,cW P w H G s.heap.objs.size (A6 P w b s.heap.objs.size []))->Q (.ref s.heap.objs.size) {s with heap:=G}):wpAny (model P w) A (cmN b) Q E s:=by
 cases b with
 | false=>exact aGg (h _ (λc o e=>aFr _ e) (aIb _ _) λH=>⟨aH2 _,[],0,.nil,aFy _ rfl⟩)
 | true=>
  unfold cmN newSet;exact aFo (ST.jL (aGg (h _ (λc o e=>aFr _ e) (aIb _ _) λH=>zA (ST.vH (aFy _ rfl)))))
variable{elt:Expr}
theorem DW{b:Bool}{a:List Comprehension}{d:Nat}{g:Comprehension}(f:a[d]? =some g)(ha:g.is_async=0)
  (h0:codeAny (model prog w) A (.compLoop (N8 b elt a scope pos) d it acc env) R s)
  (h:wpAny (model prog w) A (pyIter it) (λc e =>codeAny (model prog w) A (.compLoop (N8 b elt a scope pos) d c acc env) R e) (notedBy (model prog w) A env λx e =>R (.error x) e) s):
  codeAny (model prog w) A (.compStart (N8 b elt a scope pos) d it acc env) R s:=by
 have i:clausesOf (N8 b elt a scope pos)=a:=by cases b <;> rfl
 have hd:(model prog w).den (.compStart (N8 b elt a scope pos) d it acc env)=(compStart (N8 b elt a scope pos) d it acc env).onRaise (λx=>do noteFrame x env;standAt theWindowsPlace):=by cases b <;> rfl
 refine aJ2 ?_;rw[hd];have j:A.under (.compStart (N8 b elt a scope pos) d it acc env)=A:=by cases b <;> rfl
 rw[j];refine wpAny_notedAt ?_;unfold compStart;rw[i,f];simp only[Option.elim,ha,bne_self_eq_false,Bool.false_eq_true,if_false];refine aFo (aIy (wpAny_ite ?_));split
 ·exact aFq (And.intro rfl h0)
 ·exact aFo (aGx (aFo (aI2 (aFo (aGi h (λc e h' =>aFq (And.intro rfl h')) λ_ _ x=>x)))))
abbrev ZU:=List V->St->Hp->(List V->Hp->Prop)->Prop
def PQ(P:Program)(w:World)(b:Bool)(own:List Str)(aH:List Nat)(wi:TI)(g:TG)(tt:TT)(tb:Addr->ZU):TE:=λσ H Q=>wi σ H λJ d=>∀acc,d acc=none->
 ∃W:Nat->Nat->List V->Hp->Prop,(∃m,W 0 m [] (upd d acc (A6 P w b acc [])))/\∀i m ys H,W i m ys H->H acc=some (A6 P w b acc ys)/\
  ((J.stop i H/\Q (.ref acc) H)\/(J.go i H/\∃N:List V->Hp->Prop,(∀a H',N a H' ->∃e,e<m/\W (i+1) e a H')/\
   ∀x H',J.ZL i H x H' ->g x (rB own aH σ) H' λc h=>tt c h λb f=>if b=true then tb acc ys c f N else N ys f))
def tbE(te:TE)(acc:Addr):ZU:=λys σ H N=>ys.length<sizeLine/\te σ H λy a=>a acc=some (.lst ys)/\N (ys++[y]) (upd a acc (.lst (ys++[y])))
def tLC(own:List Str)(aH:List Nat)(wi:TI)(g:TG)(tt:TT)(te:TE):TE:=λσ H Q=>∀P w,PQ P w false own aH wi g tt (tbE te) σ H Q
variable{pins:List (Addr×Obj)}{use:Option (Value->Sem Unit)}
theorem yE{bm:Bool}{tg iter elt:Expr}{more:List Comprehension}{wi:TI}{g:TG}{tt:TT}{tb:Addr->ZU}(own:List Str)(o1:Nat)(aH:List Nat)(B:Env->Addr->(Shared->Prop)->Shared->Prop)
  (hN:X.N=N) (hsc:X.env.scope=sc) (chk:iS N sc scope aH=true) (hcalm:X.calm=true) (hi:PI X tg iter wi) (ho1:o1<=own.length) (ho:F4 o1 g)
  (hg:∀cl C fp s₀ H₀,PG (aZ X own aH scope cl C fp s₀ H₀) tg g) (ht:∀cl C fp s₀ H₀,ZH (aZ X own aH scope cl C fp s₀ H₀) ifs tt)
  (hbody:∀acc cl C fp s₀ H₀ pins s σ H ys NN K,Inv (aZ X own aH scope cl C fp s₀ H₀) pins σ H s->(∀j,o1<=j->j<own.length->σ[j]? =some none)->tb acc ys σ H NN->
   (∀t H' s',Inv (aZ X own aH scope cl C fp s₀ H₀) pins σ H' s' ->NN t H' ->K s')->B (compEnvC scope cl C X.env) acc K s)
  (hloop:∀(it acc:Addr) (env:Env) (R:Result->Shared->Prop) (I:Nat->Shared->Prop),(∀n s,I n s->wpAny (model X.prog X.w) X.A (pyNext (.ref it)) (λr L=>match r with
   | none=>R (.ok .next) L
   | some v=>wpAny (model X.prog X.w) X.A (letOwnedTupleGo tg (.ref it) v) (λ_ L=>wpAny (model X.prog X.w) X.A (assign tg env v) (λ_ s₂=>
     wpAny (model X.prog X.w) X.A (forIn ifs true λc r=>if r=true then do let ok<-isTrue c env (eval c env);pure (ForInStep.yield ok) else pure (ForInStep.yield r)) (λok s₃=>
      if ok=true then B env acc (λs=>∃m,m<n/\I m s) s₃ else ∃m,m<n/\I m s₃) (λ_ _=>False) s₂) (λ_ _=>False) L) (λ_ _=>False) L) (λ_ _=>False) s)->
   ∀n s,I n s->codeAny (model X.prog X.w) X.A (.compLoop (N8 bm elt (⟨tg,iter,ifs,0⟩::more) scope pos) 0 (.ref it) (.ref acc) env) R s)
  (hs:∀x,foldedSetIterable iter X.env x=pure x)   {σ:St} {H:Hp} {Q:VK}  {Q' :aJk} (I:Inv X pins σ H s) (h:PQ X.prog X.w bm own aH wi g tt tb σ H Q)
  (hend:∀(acc C:Addr) (m:aJm) (H5:Hp) (s6:Shared) (r:Flow),Inv X pins σ H5 s6->H5 C=none->C≠X.env.locals->X.s₀.heap.objs.size<=C->(∀x c,X.env.cells.lookup x=some c->c≠C)->(∀p∈X.pn++pins,p.1≠C)->s6.heap.Ns C m->Q (.ref acc) H5->
   compPost (model X.prog X.w) X.A X.xe use Q' (.ref acc) C (.ok r) s6):
  wpAny (model X.prog X.w) X.A (comprehension (N8 bm elt (⟨tg,iter,ifs,0⟩::more) scope pos) scope X.env (firstIterPos (⟨tg,iter,ifs,0⟩::more) pos) (cmN bm) (firstAsync (⟨tg,iter,ifs,0⟩::more)) (firstIter (⟨tg,iter,ifs,0⟩::more) X.env) use) Q' X.xe s:=by
 have ck:=F7.of hN hsc chk;have hcl:∀x∈scope.names,x.2= .free->∃c,X.env.cells.lookup x.1=some c:=λx hx hf=>I.ok.has x.1 (ck.fr x hx hf);refine wpAny_comprehension_free (use:=use) (cl:=mG scope.names X.env.cells []) (by cases bm <;> rfl) hs (wL hcl) ck.kind ck.loc (cA (hi pins s σ H _ I h) λv s1 h1=>cA h1 λitv s2 h2=>?_);obtain⟨it,fp,tn,J,H2,e,I2,T,st2,f2,hW⟩:=h2;subst e
 refine YX λG hGk hGs hGo=>(wpAny_newFunctionEnv ck.L9 (by intro y hy;simp at hy) (λM O S=>?_) ck.kind)
 dsimp only at O S⊢;have hacc0:H2 s2.heap.objs.size=none:=I2.bY.fresh (aFw _);obtain⟨W,⟨m0,w0⟩,turn⟩:=hW s2.heap.objs.size hacc0;have a:Inv X pins σ (upd H2 s2.heap.objs.size (A6 X.prog X.w bm s2.heap.objs.size [])) {s2 with heap:=G}:=I2.laid (t' :=s2.toks) hGk (aFw _) (hGo _);generalize hH3:upd H2 s2.heap.objs.size (A6 X.prog X.w bm s2.heap.objs.size [])=H3 at a w0;generalize hcl' :mG scope.names X.env.cells []=cl at⊢
 have f:∀x c,cl.lookup x=some c->X.env.cells.lookup x=some c:=λx c e=>by
  have:=yG (cells:=X.env.cells) (P:=λx c=>X.env.cells.lookup x=some c) scope.names [] (by simp) (λn hn=>by
   obtain⟨c,hc⟩:=hcl (n,.free) hn rfl;have hc' :X.env.cells.lookup n=some c:=hc
   rw[hc'];rfl) (x,c) (by rw[hcl'];exact aGv e)
  exact this
 have D:∀x,scope.names.lookup x=some .free->∃c,cl.lookup x=some c:=λx e=>by
  obtain⟨c,hc⟩:=yH (cells:=X.env.cells) scope.names [] x (aGv e);rw[hcl']at hc;exact fU hc
 have fpObj:=T.obj _ _ st2;have fpLt:∀b∈fp,b<s2.heap.objs.size:=λb hb=>by obtain⟨o,e,_⟩:=fpObj b hb;exact aG2 e
 have bY:(aZ X own aH scope cl G.objs.size fp {s2 with heap:=G} H3).Ok:=by
  refine⟨a.ok.mod,ck.kind,a.ok.glob,a.ok.blt,aFw _,λx y c e1 l=>a.ok.inj x y c (f x c e1) (f y c l),λx hx=>?_,λx c hf _=>absurd hf (by simp[aZ]),a.ok.hd,a.ok.frames,.inl rfl,λb hb=>⟨?_,λx c e=>?_⟩,a.bs,aGh a.ok.S6 a.sz,λb o e hb=>?_,λb hb z=>?_,a.stack,a.GL⟩
  ·have hx:(relabel scope X.env).names.lookup x=some .cell\/(relabel scope X.env).names.lookup x=some .free:=hx;rcases hx with q | q
   ·obtain⟨k,hk,z | ⟨z,_⟩⟩:=pS q
    ·exact absurd z.symm (ck.L9 _ (aGv hk))
    ·exact D x (by rw[hk,z])
   ·obtain⟨k,hk,z | ⟨_,z⟩⟩:=pS q
    ·exact D x (by rw[hk,<-z])
    ·cases z
  ·exact aG9 (Nat.lt_trans (fpLt b hb) (by show s2.heap.objs.size<G.objs.size;rw[hGs];exact aHf _))
  ·exact(f2 b hb).2.2.2.2.1 x c (f x c e)
  ·rcases(f2 b hb).2.2.2.1 with z | z
   ·exact a.ok.L8 b o e z
   ·exact absurd (aGb (aG2 e) (aGh a.ok.S6 z)) (aHa _)
  ·rcases aFx.mp (a.EK b z) with q | q
   ·exact(f2 b hb).2.1 q
   ·exact(f2 b hb).2.2.1 q
 have kept:∀b o,G.get? b=some o->M.get? b=some o:=λb o e=>S.extBut b o (aG9 (aG2 e)) (aFr _ e);have hCn:H3 G.objs.size=none:=a.bY.fresh (aFw _)
 have I4:Inv (aZ X own aH scope cl G.objs.size fp {s2 with heap:=G} H3) [] (rB own aH σ) H3 {s2 with heap:=M,toks:=s2.toks+([]:List (Str×Value)).length}:=by
  refine⟨bY,rfl,a.bare,Un.kept kept,⟨_,O,λi x v e1 l e3=>?_⟩,λx c e=>?_,hCn,λx c e=>a.l7 x c (f x c e),λp hp=>absurd hp (by simp[aZ]),a.bY.kept kept,by simp[rB,aZ]⟩
  ·have hge:own.length<=i:=by
    refine aIf λhlt=>?_;unfold rB at l;rw[List.getElem?_append_left (by simpa using hlt),List.getElem?_map]at l
    cases q:own[i]? with
    | none=>rw[q]at l;simp at l
    | some z=>rw[q]at l;simp at l
   unfold rB at l;have U :(own++aH.map λi=>X.N.getD i "")[i]? =some x:=e1;rw[List.getElem?_append_right hge,List.getElem?_map]at U;rw[List.getElem?_append_right (by simpa using hge),List.getElem?_map]at l;simp only[List.length_map]at l
   cases q:aH[i-own.length]? with
   | none=>rw[q]at U;simp at U
   | some k=>
    rw[q]at U l;simp only[Option.map_some,Option.some.injEq]at U l;obtain⟨x',hx',E⟩:=ck.cap k (aG3 q);have ex:x' =x:=by rw[<-U,List.getD_eq_getElem?_getD,hx'];rfl
    subst ex
    have e2' :σ[k]? =some (some v):=by
     cases w:σ[k]? with
     | none=>rw[w]at l;simp at l
     | some z=>rw[w]at l;simp at l;rw[l]
    have kx:=ck.fr _ (aGv E) rfl
    have visX:Vis X.env.scope x' :=by
     rcases kx with z | z
     ·exact .inr (.inl z)
     ·exact .inr (.inr z)
    obtain⟨m,hn,hl⟩:=a.loc;obtain⟨u,ru,lk⟩:=hl k x' v hx' e2' visX;refine⟨u,ru,.inr ⟨zD E,?_⟩⟩
    rcases lk with ⟨z,_⟩ | ⟨_,c,hc,hcell⟩
    ·rcases kx with z' | z' <;> (have z'' :=z.symm.trans z';cases z'')
    ·obtain⟨c',hc'⟩:=D x' E;have:=f x' c' hc';rw[hc]at this;cases this;obtain⟨o,ho,hd⟩:=hcell;exact⟨c,hc',⟨o,kept _ _ ho,hd⟩⟩
  ·obtain⟨v,o,ho,hd⟩:=a.cell x c (f x c e);exact⟨v,o,kept _ _ ho,hd⟩
 have st4:tn 0 M:=T.keep _ _ _ st2 λb hb o e=>kept b o (hGk b o e);have fp4:∀b∈fp,H3 b=none:=λb hb=>by rw[<-hH3,aM (Nat.ne_of_lt (fpLt b hb))];exact(f2 b hb).1
 have Z:∀{H' :Hp},(∀b∈fp,H' b=none)->∀b∈fp,nC (aZ X own aH scope cl G.objs.size fp {s2 with heap:=G} H3) [] H' b:=λhn b hb=>
  ⟨hn b hb,(bY.exf b hb).1,bY.NZ b hb,.inl hb,(bY.exf b hb).2,λp hp=>absurd hp (by simp[aZ])⟩
 have loop:codeAny (model X.prog X.w) X.A (.compLoop (N8 bm elt (⟨tg,iter,ifs,0⟩::more) scope pos) 0 (.ref it) (.ref s2.heap.objs.size) (compEnvC scope cl G.objs.size X.env))
   (compPost (model X.prog X.w) X.A X.xe use Q' (.ref s2.heap.objs.size) G.objs.size) {s2 with heap:=M,toks:=s2.toks+([]:List (Str×Value)).length}:=by
  refine hloop _ _ _ _ (λn s' =>∃i ys H',Inv (aZ X own aH scope cl G.objs.size fp {s2 with heap:=G} H3) [] (rB own aH σ) H' s' /\tn i s'.heap/\(∀b∈fp,H' b=none)/\W i n ys H') ?_ m0 _ ⟨0,[],H3,I4,st4,fp4,w0⟩;rintro n s5 ⟨i,ys,H5,I5,st5,fr5,w5⟩;obtain⟨hacc,turn5⟩:=turn i n ys H5 w5
  rcases turn5 with ⟨stop,q⟩ | ⟨go,NN,hNN,step⟩
  ·refine cA (T.done (aZ X own aH scope cl G.objs.size fp {s2 with heap:=G} H3) rfl rfl rfl hcalm i [] s5 _ H5 (λ_ _=>False) I5 (Z fr5) st5 stop) λr s6 zz0=>?_;obtain⟨hr,I6⟩:=zz0;subst hr;obtain⟨m,hm,_⟩:=id I6.loc
   have I7:Inv X pins σ H5 s6:=a.aCf (ch:=fp) I6.os I6.base I6.bY I6.bare λb hb=>⟨(f2 b hb).2.2.2.1,(f2 b hb).2.1,λx c e=>(f2 b hb).2.2.2.2.1 x c e,λp hp=>(f2 b hb).2.2.2.2.2 p hp⟩
   exact hend _ _ m H5 s6 _ I7 I6.free (aIe (by have:=a.lt;exact this)) a.sz (λx c e=>by obtain⟨v,z⟩:=a.cell x c e;exact aG9 z.lt) (λp hp=>aG9 (aG2 (a.pin p hp).1)) hm q
  ·refine cA (T.item (aZ X own aH scope cl G.objs.size fp {s2 with heap:=G} H3) rfl rfl rfl hcalm i [] s5 _ H5 (λ_ _=>False) I5 (Z fr5) st5 go) λr s6 zz1=>?_;obtain⟨u,hr,h6⟩:=zz1;subst hr;refine cA h6 λ_ s7 zz2=>?_;obtain⟨x,H7,I7,r7,y7,st7,fr7⟩:=zz2;have I7' :=I7.pinned (Z fr7) (T.obj _ _ st7);refine cA (hg _ _ _ _ _ _ s7 _ H7 x u _ I7' r7 (ho _ _ _ _ (step x H7 y7))) λ_ s8 zz3=>?_;obtain⟨σ8,H8,I8,q8,l8,k8⟩:=zz3;refine cA (ht _ _ _ _ _ _ s8 σ8 H8 _ I8 q8) λok s9 zz4=>?_;obtain⟨H9,I9,q9⟩:=zz4
   have again:∀{t:List V} {F:Hp} {Y:Shared},Inv (aZ X own aH scope cl G.objs.size fp {s2 with heap:=G} H3) ([]++qV fp s7.heap) σ8 F Y->NN t F->
     ∃m,m<n/\∃i ys H',Inv (aZ X own aH scope cl G.objs.size fp {s2 with heap:=G} H3) [] (rB own aH σ) H' Y/\tn i Y.heap/\(∀b∈fp,H' b=none)/\W i m ys H' :=λ{t F Y} I10 n10=>by
    obtain⟨m',hm,w10⟩:=hNN t F n10
    have I10' :Inv (aZ X own aH scope cl G.objs.size fp {s2 with heap:=G} H3) ([]:List (Addr×Obj)) (rB own aH σ) F Y:=I10.lO.weak l8.symm λj v e=>by
     have hge:own.length<=j:=by
      refine aIf λhlt=>?_;unfold rB at e;rw[List.getElem?_append_left (by simpa using hlt),List.getElem?_map]at e
      cases q:own[j]? with
      | none=>rw[q]at e;simp at e
      | some z=>rw[q]at e;simp at e
     rw[k8 j (Nat.le_trans ho1 hge)];exact e
    refine⟨m',hm,i+1,t,F,I10',T.keep _ _ _ st7 λb hb o e=>(I10.pin (b,o) (aFz _ (aFz _ (fC hb e)))).1,λb hb=>?_,w10⟩;obtain⟨o,e,d⟩:=T.obj _ _ st7 b hb;exact(I10.pin (b,o) (aFz _ (aFz _ (fC hb e)))).2.1
   cases ok with
   | false=>exact again I9 q9
   | true=>
    rw[if_pos rfl];refine hbody _ _ _ _ _ _ _ s9 σ8 H9 ys NN _ I9 (λj hj1 hj2=>?_) q9 λt F Y I10 q10=>again I10 q10;rw[k8 j hj1];unfold rB;rw[List.getElem?_append_left (by simpa using hj2),List.getElem?_map];simp[hj2]
 exact DW (g:=⟨tg,iter,ifs,0⟩) (by cases bm <;> rfl) rfl loop (T.self _ 0 _ _ _ st4 loop)
theorem DU{σ:St}{Q:VK}(acc C:Addr)(m:aJm)(a:Hp)(d:Shared)(r:Flow)(f:Inv X pins σ a d)(g:a C=none)(h:C≠X.env.locals)(i:X.s₀.heap.objs.size<=C)(j:∀x c,X.env.cells.lookup x=some c->c≠C)(k:∀p∈X.pn++pins,p.1≠C)(l:d.heap.Ns C m)(q:Q (.ref acc) a):
  compPost (model X.prog X.w) X.A X.xe none (EP X pins σ Q) (.ref acc) C (.ok r) d:=
 ⟨m,l,λh' sb=>⟨.ref acc,a,f.turned (t' :=d.toks) (it:=C) (λb o hb e=>sb.extBut b o hb e) g h (.inr i) j k,rfl,q⟩⟩
section
variable {X:Cx}{tg iter elt:Expr}{ifs:List Expr}{scope sc:Scope}{N:List Str}{pos:Pos}{wi:TI}{g:TG}{tt:TT}{te:TE}(own:List Str)(aH:List Nat)
  (hN:X.N=N) (hsc:X.env.scope=sc) (chk:iS N sc scope aH=true) (hcalm:X.calm=true) (hi:PI X tg iter wi) (ho:F4 own.length g)
  (hg:∀cl C fp s₀ H₀,PG (aZ X own aH scope cl C fp s₀ H₀) tg g) (ht:∀cl C fp s₀ H₀,ZH (aZ X own aH scope cl C fp s₀ H₀) ifs tt)
  (he:∀cl C fp s₀ H₀,PE (aZ X own aH scope cl C fp s₀ H₀) elt te)
include hN hsc chk hcalm hi ho hg ht he
theorem R0(E:∀x,foldedSetIterable iter X.env x=pure x){σ:St}{H:Hp}{Q:VK}{D :aJk}(I:Inv X pins σ H s)(h:tLC own aH wi g tt te σ H Q)
  (b:∀(acc C:Addr) (m:aJm) (e:Hp) (f:Shared) (r:Flow),Inv X pins σ e f->e C=none->C≠X.env.locals->X.s₀.heap.objs.size<=C->(∀x c,X.env.cells.lookup x=some c->c≠C)->(∀p∈X.pn++pins,p.1≠C)->f.heap.Ns C m->Q (.ref acc) e->
   compPost (model X.prog X.w) X.A X.xe use D (.ref acc) C (.ok r) f):
  wpAny (model X.prog X.w) X.A (comprehension (.ListComp elt [⟨tg,iter,ifs,0⟩] scope pos) scope X.env (firstIterPos [⟨tg,iter,ifs,0⟩] pos) (newList []) (firstAsync [⟨tg,iter,ifs,0⟩]) (firstIter [⟨tg,iter,ifs,0⟩] X.env) use) D X.xe s:=by
 refine yE (bm:=false) own own.length aH (λenv acc K s=>wpAny (model X.prog X.w) X.A (eval elt env) (λx F=>wpAny (model X.prog X.w) X.A (call (.builtin "list.append") [.ref acc,x]) (λ_ G=>K G) (λ_ _=>False) F) (λ_ _=>False) s)
  hN hsc chk hcalm hi (aFw _) ho hg ht (λacc cl C fp s₀ H₀ pins s σ H ys J K L _ q k=>?_) (λit acc env R I d n s h=>DV I d n h) E I (h _ _) b
 refine cA (he _ _ _ _ _ _ s σ H _ L q.2) λM i j=>?_;obtain⟨y,l,o,N,a,t⟩:=j;refine cA (qW _ i σ l (.ref acc) [y] (.ref acc) [M] (λv H' =>v= .cL/\J (ys++[y]) H') o rfl (.cons N .nil) ⟨_,_,_,rfl,rfl,a,q.1,rfl,t⟩) λ_ O u=>?_;obtain⟨_,P,z,_,_,B⟩:=u;exact k _ _ _ z B
theorem aAy(a:∀x,foldedSetIterable iter X.env x=pure x:=by intro _;rfl):PE X (.ListComp elt [⟨tg,iter,ifs,0⟩] scope pos) (tLC own aH wi g tt te):=by
 intro pins s σ H Q I h;rw[eval_ListComp];exact R0 own aH hN hsc chk hcalm hi ho hg ht he a I h DU
end
structure Src where
 it:Addr
 l:Addr
 tup:Bool
def Src.At(q:Src)(h:Heap)(i:Nat):Prop:=match q.tup with | true=>h.IsTupleIter q.it q.l i | false=>h.IsListIter q.it q.l i
def Src.Sq(q:Src)(h:Heap)(items:Array Value):Prop:=match q.tup with | true=>h.IsTuple q.l items | false=>h.IsList q.l items
variable{q:Src}{h':Heap}{i:Nat}
theorem Src.At.to(x:q.At h i)(e:∀o,h.get? q.it=some o->h'.get? q.it=some o):q.At h' i:=by
 obtain⟨it,l,t⟩:=q;cases t <;> (obtain⟨o,ho,r⟩:=x;exact⟨o,e o ho,r⟩)
theorem Src.At.obj(x:q.At h i):∃o,h.get? q.it=some o/\o.data= .fields #[.ref q.l,.int i 0]:=by
 obtain⟨it,l,t⟩:=q;cases t <;> (obtain⟨o,ho,_,r⟩:=x;exact⟨o,ho,r⟩)
variable{items:Array Value}
theorem Src.Sq.to(x:q.Sq h items)(e:∀o,h.get? q.l=some o->h'.get? q.l=some o):q.Sq h' items:=by
 obtain⟨it,l,t⟩:=q;cases t <;> (obtain⟨o,ho,r⟩:=x;exact⟨o,e o ho,r⟩)
theorem Src.Sq.obj(x:q.Sq h items):∃o n,h.get? q.l=some o/\o.data= .seq items n:=by
 obtain⟨it,l,t⟩:=q;cases t <;> (obtain⟨o,ho,_,n,r⟩:=x;exact⟨o,n,ho,r⟩)
section
variable {prog:Program}{w:World}{A:Around}{E:aJk}{s:Shared}
theorem sE{it l:Addr}{x:Value}(c:s.heap.IsTupleIter it l i)(g:s.heap.IsTuple l items)(h:items[i]? =some x)
  (j:∀h',h'.IsTupleIter it l (i+1)->Heap.SameBut it s.heap h' ->Q x {s with heap:=h'}):wpAny (model prog w) A (Builtin.SmallTypes.nextOf (.ref it)) Q E s:=by
 obtain⟨k,b,d,a⟩:=id c;obtain⟨os,e,_,ns,f⟩:=g;unfold Builtin.SmallTypes.nextOf;refine aFo (aGf (name:=Str.ofString "__next__") c.typeIs aHm (aGa aHm c.typeIs F.entry_tuple_iterator_next ?_ (F.args_tuple_iterator_next_1 _)));refine aFo (m:=field (.ref it) 0) (aGp b a (x:= .ref l) rfl ?_);show wpAny _ _ (if (Value.ref l==Value.none)=true then _ else field (.ref it) 1 >>=_) _ _ s;rw[if_neg (show ¬((Value.ref l==Value.none)=true) from Bool.false_ne_true)];refine aFo (aGp b a (x:= .int i 0) rfl ?_);refine aFo (m:=seqItems? (.ref l)) (aH3 e f ?_);simp only[Int.toNat_natCast,h];refine aFo (aJc b a (by simp) (aFq ⟨x,rfl,aFq (j _ ⟨_,aGq _ b (Obj.isFreed_of_fields (Obj.data_mapFields a _)),(Obj.cls_mapFields ..).trans d,?_⟩ (aGw ..))⟩));rw[Obj.data_mapFields a];simp[rawInt]
theorem uW{it l:Addr}(h:A.handled=none)(b:s.heap.IsTupleIter it l i)(j:s.heap.IsTuple l items)(k:items[i]? =none)
  (n:∀h' e,Heap.ExtBut it s.heap h' ->(∃o,h'.get? e=some o/\o.cls= .type "StopIteration")->E (.ref e) {s with heap:=h'}):wpAny (model prog w) A (Builtin.SmallTypes.nextOf (.ref it)) Q E s:=by
 obtain⟨q,c,p,d⟩:=id b;obtain⟨os,f,_,ns,g⟩:=j;unfold Builtin.SmallTypes.nextOf;refine aFo (aGf (name:=Str.ofString "__next__") b.typeIs aHm (aGa aHm b.typeIs F.entry_tuple_iterator_next ?_ (F.args_tuple_iterator_next_1 _)));refine aFo (m:=field (.ref it) 0) (aGp c d (x:= .ref l) rfl ?_);show wpAny _ _ (if (Value.ref l==Value.none)=true then _ else field (.ref it) 1 >>=_) _ _ s;rw[if_neg (show ¬((Value.ref l==Value.none)=true) from Bool.false_ne_true)];refine aFo (aGp c d (x:= .int i 0) rfl ?_);refine aFo (m:=seqItems? (.ref l)) (aH3 f g ?_);simp only[Int.toNat_natCast,k];refine aFo (aGx (aFo (aJc c d (by simp) ?_)));refine aFo (m:=newExc (.type "StopIteration") []) ?_;simp only[newExc,newTuple];refine aFo (aGg ?_ (by size_fits));refine aFo (m:=firstArgMember _ _) (aIo (a:=Value.none) (by first | rfl | (simp only[firstArgMember];rfl)) ?_);refine aGg (?_:_) (by size_fits);simp only[raiseNew];refine aFo (wpAny_handled (?_:_))
 first | rw[show A.in1.handled=none from h] | rw[h]
 refine aFo (aFq (wpAny_throw (?_:_)));exact n _ _ (((aGw ..).extBut.push _).push _) ⟨_,aFy _ rfl,rfl⟩
theorem Src.item{x:Value}(a:q.At s.heap i)(b:q.Sq s.heap items)(c:items[i]? =some x)
  (d:∀h',q.At h' (i+1)->Heap.SameBut q.it s.heap h' ->Q x {s with heap:=h'}):wpAny (model prog w) A (Builtin.SmallTypes.nextOf (.ref q.it)) Q E s:=by
 obtain⟨it,l,t⟩:=q;cases t
 ·exact wpAny_nextOf_list_item a b c d
 ·exact sE a b c d
theorem Src.done(b:A.handled=none)(a:q.At s.heap i)(c:q.Sq s.heap items)(d:items[i]? =none)
  (f:∀h' e,Heap.ExtBut q.it s.heap h' ->(∃o,h'.get? e=some o/\o.cls= .type "StopIteration")->E (.ref e) {s with heap:=h'}):wpAny (model prog w) A (Builtin.SmallTypes.nextOf (.ref q.it)) Q E s:=by
 obtain⟨it,l,t⟩:=q;cases t
 ·exact wpAny_nextOf_list_end b a c d f
 ·exact uW b a c d f
theorem Src.start(a:q.Sq s.heap items)
  (c:∀h',(⟨s.heap.objs.size,q.l,q.tup⟩:Src).At h' 0->h'.objs.size=s.heap.objs.size+1->(∀b o,s.heap.get? b=some o->h'.get? b=some o)->Q (.ref s.heap.objs.size) {s with heap:=h'}):wpAny (model prog w) A (pyIter (.ref q.l)) Q E s:=by
 obtain⟨it,l,t⟩:=q;cases t
 ·exact wpAny_pyIter_list a (c _ ⟨_,aFy _ rfl,rfl,rfl⟩ (aIb ..) λb o e=>aFr _ e)
 ·exact wpAny_pyIter_tuple a (c _ ⟨_,aFy _ rfl,rfl,rfl⟩ (aIb ..) λb o e=>aFr _ e)
structure fX(h:Heap)(z TI TO:Addr)(qs:List Src)(f0:Value)(i:Nat):Prop where
 obj:h.get? z=some {cls:= .type "zip",dict:=none,data:= .fields #[f0,.bool false,.bool false,.ref TI,.ref TO],slots:= #[]}
 aJ:∃n,h.get? TI=some {cls:= .type "tuple",data:= .seq (qs.map λq=>Value.ref q.it).toArray n}
 own:∃(xs:List Value) (n:Nat),xs.length=qs.length/\h.get? TO=some {cls:= .type "tuple",data:= .seq xs.toArray n}
 at_:∀q∈qs,q.At h i
structure dN(z TI TO:Addr)(qs:List Src):Prop where
 ne1:TI≠z
 ne2:TO≠z
 ne3:TI≠TO
 FH:∀q∈qs,q.it≠z/\q.it≠TI/\q.it≠TO
 nd:(qs.map (·.it)).Nodup
 src:∀q∈qs,q.l≠z/\q.l≠TO/\∀r∈qs,q.l≠r.it
end
section
variable {prog:Program}{w:World}{A:Around}{E:aJk}{s:Shared}
structure HP(h0 h:Heap)(z TI TO:Addr)(qs:List Src)(vals:List Value)(i j:Nat):Prop where
 obj:h.get? z=some {cls:= .type "zip",dict:=none,data:= .fields #[.ellipsis,.bool false,.bool false,.ref TI,.ref TO],slots:= #[]}
 own:∃(xs:List Value) (n:Nat),xs.length=qs.length/\xs.take j=vals.take j/\h.get? TO=some {cls:= .type "tuple",data:= .seq xs.toArray n}
 done:∀q∈qs.take j,q.At h (i+1)
 todo:∀q∈qs.drop j,q.At h i
 size:h.objs.size=h0.objs.size
 keep:∀c o,c≠z->c≠TO->(∀q∈qs,c≠q.it)->h0.get? c=some o->h.get? c=some o
theorem J8{z TI TO:Addr}{qs:List Src}{vals:List Value}(D:dN z TI TO qs)(Z:fX s.heap z TI TO qs .none i)(G:qs≠[])
  (hv:vals.length=qs.length) (C:∀(k:Nat) q x,qs[k]? =some q->vals[k]? =some x->∃items,q.Sq s.heap items/\items[i]? =some x) (hsz:qs.length<=sizeLine)
  (hQ:∀h',fX h' z TI TO qs (rawInt s.heap.objs.size) (i+1)->h'.get? s.heap.objs.size=some {cls:= .type "tuple",data:= .seq vals.toArray}->h'.objs.size=s.heap.objs.size+1->
   (∀c o,c≠z->c≠TO->(∀q∈qs,c≠q.it)->s.heap.get? c=some o->h'.get? c=some o)->Q (.ref s.heap.objs.size) {s with heap:=h'}):
  wpAny (model prog w) A (Builtin.«zip.__next__» ⟨[.ref z],[]⟩) (λfin s' =>∃v,fin= .done (.ret v)/\Q v s') E s:=by
 obtain⟨nI,N⟩:=Z.aJ;obtain⟨xs0,n0,hx0,hTO⟩:=Z.own;refine aFo (m:=field (.ref z) 2) (aGp Z.obj rfl (x:= .bool false) rfl ?_);refine aFo (m:=field (.ref z) 3) (aGp Z.obj rfl (x:= .ref TI) rfl ?_);refine aFo (m:=seqItems? (.ref TI)) (aH3 N rfl ?_)
 have O:(qs.map λq=>Value.ref q.it).toArray.isEmpty=false:=by cases qs with | nil=>exact absurd rfl G | cons a r=>rfl
 simp only[O];refine aFo (m:=Builtin.SmallTypes.ownedTupleIsFree (.ref z)) ?_;refine aFo (m:=field (.ref z) 0) (aGp Z.obj rfl (x:= .none) rfl (aFq ?_));simp only[if_true];refine aFo (aGx ?_);refine aFo (aGp Z.obj rfl (x:= .ref TO) rfl ?_);refine aFo (aGl Z.obj (by simp) λh1 z1 t=>?_);refine aFo ?_;refine wpAny_forIn_list _ (λF b s' =>b.1=none/\∃j h',s' ={s with heap:=h'}/\F=((qs.map λq=>Value.ref q.it).zipIdx).drop j/\j<=qs.length/\HP s.heap h' z TI TO qs vals i j) _ ?turn ?fin _ _ ?start
 case start=>
  refine⟨rfl,0,h1,rfl,by simp,aH2 _,?_⟩;refine⟨z1,⟨xs0,n0,hx0,by simp,t.extBut _ _ D.ne2 hTO⟩,by simp,λq C=>?_,t.1,λc o f _ _ e=>t.extBut _ _ f e⟩;have P :q∈qs:=by simpa using C
  exact(Z.at_ q P).to λo e=>t.extBut _ _ (D.FH q P).1 e
 case turn=>
  rintro x F b s5 ⟨hb,j,h',rfl,hd,hj,d⟩
  have g:j<qs.length:=by
   refine Nat.lt_of_not_le λhle=>?_;rw[List.drop_eq_nil_of_le (by simpa using hle)]at hd;cases hd
  have R :=hd;rw[List.drop_eq_getElem_cons (by simpa using g)]at R;injection R with ex er;have S:x=(Value.ref qs[j].it,j):=by rw[ex];simp
  have h:qs[j]? =some qs[j]:=aFu g;have H:vals[j]? =some vals[j]:=aFu (by lia);generalize hqq:qs[j]=q at h S;generalize hvv:vals[j]'(by lia)=v at H;subst S;have I:q∈qs:=aG3 h;obtain⟨items,hSq,hit⟩:=C j q v h H;obtain⟨l1,l2,l3⟩:=D.src q I;have T :q.Sq h' items:=hSq.to λo e=>d.keep _ o l1 l2 l3 e;have hAt:q.At h' i:=d.todo q (by rw[List.drop_eq_getElem_cons g,hqq];exact aFs);refine aFo (wpAny_onRaise ?_);show wpAny _ _ (Builtin.SmallTypes.nextOf (.ref q.it) >>=_) _ _ _;refine aFo (Src.item (s:={s with heap:=h'}) hAt T hit λY at2 J=>aFq ?_);obtain⟨xs,n,u,y,hO⟩:=d.own;have K:=D.FH q I;have L:Y.get? TO=some {cls:= .type "tuple",data:= .seq xs.toArray n}:=J.extBut _ _ (aGr K.2.2) hO;refine aFo (m:=seqItems? (.ref TO)) (aH3 L rfl ?_);refine aFo (aHk L rfl ?_);refine aFo (wpAny_letGo (aFq ?_))
  have apart:∀(k:Nat) p,qs[k]? =some p->k≠j->p.it≠q.it:=λk p l G e=>by
   have h1:(qs.map (·.it))[k]? =some q.it:=by rw[List.getElem?_map,l];simp[e]
   have Y:(qs.map (·.it))[j]? =some q.it:=by rw[List.getElem?_map,h];rfl
   obtain⟨a1,b1⟩:=aFp.mp h1;obtain⟨a2,b2⟩:=aFp.mp Y;refine G ?_;have pw:=aHe.mp D.nd;rcases aJf k j with hlt | heq | hlt
   ·exact absurd (b1.trans b2.symm) (pw k j a1 a2 hlt)
   ·exact heq
   ·exact absurd (b2.trans b1.symm) (pw j k a2 a1 hlt)
  have up:∀c o,c≠TO->c≠q.it->h'.get? c=some o->(Y.update TO (Obj.mapSeq λx=>x.setIfInBounds j v)).get? c=some o:=λc o f M e=>(aGw ..).extBut _ _ f (J.extBut _ _ M e);refine⟨rfl,j+1,_,rfl,er,g,⟨up _ _ (aGr D.ne2) (aGr K.1) d.obj,⟨xs.set j v,n,by simpa using u,?_,?_⟩,λp U=>?_,λp U=>?_,?_,λc o f M c3 e=>up c o M (c3 q I) (d.keep c o f M c3 e)⟩⟩
  ·have V :vals[j]? =some v:=H;have hjx:j<xs.length:=by lia
   rw[List.take_add_one,List.take_add_one,V,List.getElem?_set_self hjx,List.take_set_of_le (Nat.le_refl j),y]
  ·rw[Heap.get?_update_self _ L (by rfl)];simp[Obj.mapSeq]
  ·rw[List.take_add_one,h]at U;rcases aFv.mp U with z | z
   ·obtain⟨k,l⟩:=aHh z
    have hkj:k<j:=by
     have:=(aFp.mp l).1;rw[List.length_take]at this;lia
    rw[List.getElem?_take_of_lt hkj]at l;exact(d.done p z).to λo e=>up _ o (D.FH p (aG3 l)).2.2 (apart k p l (by lia)) e
   ·have:p=q:=by simpa using z
    subst this;exact at2.to λo e=>(aGw ..).extBut _ _ K.2.2 e
  ·obtain⟨k,l⟩:=aHh U;rw[List.getElem?_drop]at l;have hp' :p∈qs.drop j:=by rw[List.drop_eq_getElem_cons g];exact aFt _ U
   exact(d.todo p hp').to λo e=>up _ o (D.FH p (aG3 l)).2.2 (apart _ p l (by lia)) e
  ·rw[Heap.size_update,J.1];exact d.size
 case fin=>
  rintro⟨b1,b2⟩ s5 ⟨hb,j,h',rfl,hd,hj,d⟩
  have hje:j=qs.length:=by
   have:=aGs List.length hd;simp at this
   lia
  subst hje;have hb' :b1=none:=hb;subst hb';obtain⟨xs,n,u,y,hO⟩:=d.own
  have hxv:xs=vals:=by
   rw[List.take_of_length_le (by lia),List.take_of_length_le (by lia)]at y;exact y
  subst hxv;refine aFo (m:=seqItems? (.ref TO)) (aH3 hO rfl ?_);refine aFo (aIa ?_ (by simpa using aGh (Nat.le_of_eq u) hsz));refine aFo (m:=Builtin.SmallTypes.ownedTupleHandOut (.ref z) (.ref h'.objs.size)) ?_;have z5:(h'.push {cls:= .type "tuple",data:= .seq xs.toArray}).get? z=some {cls:= .type "zip",dict:=none,data:= .fields #[.ellipsis,.bool false,.bool false,.ref TI,.ref TO],slots:= #[]}:=aFr _ d.obj;refine aFo (aGl z5 (by simp) λh7 z7 W=>?_);refine aGl z7 (by simp) λh8 z8 X=>aFq ⟨_,rfl,?_⟩;have zlt:z<h'.objs.size:=aG2 d.obj;have up:∀c o,c≠z->(h'.push {cls:= .type "tuple",data:= .seq xs.toArray}).get? c=some o->h8.get? c=some o:=λc o f e=>X.extBut _ _ f (W.extBut _ _ f e);have B:∀c o,c≠z->h'.get? c=some o->h8.get? c=some o:=λc o f e=>up c o f (aFr _ e);show Q (.ref h'.objs.size) _;have hs:=d.size;rw[hs];refine hQ h8 ⟨?_,⟨nI,?_⟩,⟨xs,n,u,B _ _ D.ne2 hO⟩,λq C=>?_⟩ ?_ ?_ λc o f M c3 e=>B c o f (d.keep c o f M c3 e)
  ·rw[z8,hs];rfl
  ·exact B _ _ D.ne1 (d.keep _ _ D.ne1 D.ne3 (λq C=>aGr (D.FH q C).2.1) N)
  ·exact(d.done q (by rw[List.take_length];exact C)).to λo e=>B _ o (D.FH q C).1 e
  ·rw[<-hs];exact up _ _ (aIe zlt) (aFy _ rfl)
  ·rw[X.1,W.1,Heap.size_push,hs]
end
section
variable {prog:Program}{w:World}{A:Around}{E:aJk}{s:Shared}
variable{qs:List Src}
theorem O0{z TI TO:Addr}{i k:Nat}{Q:PySem.Fin->Shared->Prop}(hh:A.handled=none)(D:dN z TI TO qs)(Z:fX s.heap z TI TO qs .none i)
  (X:∀(j:Nat) q,qs[j]? =some q->j<k->∃items x,q.Sq s.heap items/\items[i]? =some x) (g:∃q items,qs[k]? =some q/\q.Sq s.heap items/\items[i]? =none) (hsz:qs.length<=sizeLine)
  (hE:∀h' e,(∀c o,c≠z->c≠TO->(∀q∈qs,c≠q.it)->s.heap.get? c=some o->h'.get? c=some o)->(∃o,h'.get? e=some o/\o.cls= .type "StopIteration")->E (.ref e) {s with heap:=h'}):
  wpAny (model prog w) A (Builtin.«zip.__next__» ⟨[.ref z],[]⟩) Q E s:=by
 obtain⟨nI,Y⟩:=Z.aJ;obtain⟨K,n0,hx0,hTO⟩:=Z.own;obtain⟨qk,W,L,hSk,hik⟩:=g;have hkl:k<qs.length:=(aFp.mp L).1;refine aFo (m:=field (.ref z) 2) (aGp Z.obj rfl (x:= .bool false) rfl ?_);refine aFo (m:=field (.ref z) 3) (aGp Z.obj rfl (x:= .ref TI) rfl ?_);refine aFo (m:=seqItems? (.ref TI)) (aH3 Y rfl ?_)
 have M:(qs.map λq=>Value.ref q.it).toArray.isEmpty=false:=by cases qs with | nil=>simp at hkl | cons a r=>rfl
 simp only[M];refine aFo (m:=Builtin.SmallTypes.ownedTupleIsFree (.ref z)) ?_;refine aFo (m:=field (.ref z) 0) (aGp Z.obj rfl (x:= .none) rfl (aFq ?_));simp only[if_true];refine aFo (aGx ?_);refine aFo (aGp Z.obj rfl (x:= .ref TO) rfl ?_);refine aFo (aGl Z.obj (by simp) λh1 z1 t=>?_);refine aFo ?_;refine wpAny_forIn_list _ (λC b s' =>∃j h' vals,s' ={s with heap:=h'}/\C=((qs.map λq=>Value.ref q.it).zipIdx).drop j/\j<=k/\HP s.heap h' z TI TO qs vals i j) _ ?turn ?fin _ _ ?start
 case start=>
  refine⟨0,h1,K,rfl,by simp,aH2 _,?_⟩;refine⟨z1,⟨K,n0,hx0,by simp,t.extBut _ _ D.ne2 hTO⟩,by simp,λq X=>?_,t.1,λc o F _ _ e=>t.extBut _ _ F e⟩;have N :q∈qs:=by simpa using X
  exact(Z.at_ q N).to λo e=>t.extBut _ _ (D.FH q N).1 e
 case fin=>
  rintro b s5 ⟨j,h',vals,rfl,hd,hj,h⟩;have:=aGs List.length hd;simp at this
  lia
 case turn=>
  rintro x C b s5 ⟨j,h',vals,rfl,hd,hj,h⟩;have u:j<qs.length:=by lia
  have O :=hd;rw[List.drop_eq_getElem_cons (by simpa using u)]at O;injection O with ex er;have P:x=(Value.ref qs[j].it,j):=by rw[ex];simp
  have d:qs[j]? =some qs[j]:=aFu u;generalize hqq:qs[j]=q at d P;subst P;have y:q∈qs:=aG3 d;have B:=D.FH q y;obtain⟨l1,l2,l3⟩:=D.src q y;have R:q.At h' i:=h.todo q (by rw[List.drop_eq_getElem_cons u,hqq];exact aFs);refine aFo (wpAny_onRaise ?_);show wpAny _ _ (Builtin.SmallTypes.nextOf (.ref q.it) >>=_) _ _ _;by_cases hjk:j=k
  ·subst hjk;obtain rfl:qk=q:=(aG8 (d.symm.trans L)).symm;have l :=hSk.to (h' :=h') λo e=>h.keep _ o l1 l2 l3 e;refine aFo (Src.done (s:={s with heap:=h'}) hh R l hik λI e f he=>?_);obtain⟨oe,G,S⟩:=he;have z2:I.get? z=some {cls:= .type "zip",dict:=none,data:= .fields #[.ellipsis,.bool false,.bool false,.ref TI,.ref TO],slots:= #[]}:=f _ _ (aGr B.1) h.obj;have hez:e≠z:=λx=>by subst x;rw[z2]at G;cases G;simp at S
   refine aGl z2 (by simp) λh3 _ T=>hE h3 e (λc o F J U q' =>T.extBut _ _ F (f _ _ (U _ y) (h.keep c o F J U q'))) ⟨oe,T.extBut _ _ hez G,S⟩
  ·obtain⟨items,v,hSq,hit⟩:=X j q d (by lia);have l :q.Sq h' items:=hSq.to λo e=>h.keep _ o l1 l2 l3 e;refine aFo (Src.item (s:={s with heap:=h'}) R l hit λI at2 f=>aFq ?_);obtain⟨xs,n,hxl,hxt,hO⟩:=h.own;have H:I.get? TO=some {cls:= .type "tuple",data:= .seq xs.toArray n}:=f.extBut _ _ (aGr B.2.2) hO;refine aFo (m:=seqItems? (.ref TO)) (aH3 H rfl ?_);refine aFo (aHk H rfl ?_);refine aFo (wpAny_letGo (aFq ?_))
   have apart:∀(k:Nat) p,qs[k]? =some p->k≠j->p.it≠q.it:=λk p g hne e=>by
    have h1:(qs.map (·.it))[k]? =some q.it:=by rw[List.getElem?_map,g];simp[e]
    have I:(qs.map (·.it))[j]? =some q.it:=by rw[List.getElem?_map,d];rfl
    obtain⟨a1,b1⟩:=aFp.mp h1;obtain⟨a2,b2⟩:=aFp.mp I;refine hne ?_;have pw:=aHe.mp D.nd;rcases aJf k j with hlt | heq | hlt
    ·exact absurd (b1.trans b2.symm) (pw k j a1 a2 hlt)
    ·exact heq
    ·exact absurd (b2.trans b1.symm) (pw j k a2 a1 hlt)
   have up:∀c o,c≠TO->c≠q.it->h'.get? c=some o->(I.update TO (Obj.mapSeq λx=>x.setIfInBounds j v)).get? c=some o:=λc o F J e=>(aGw ..).extBut _ _ F (f.extBut _ _ J e);refine⟨j+1,_,xs.set j v,rfl,er,by lia,⟨up _ _ (aGr D.ne2) (aGr B.1) h.obj,⟨xs.set j v,n,by simpa using hxl,rfl,?_⟩,λp V=>?_,λp V=>?_,?_,λc o F J U e=>up c o J (U q y) (h.keep c o F J U e)⟩⟩
   ·rw[Heap.get?_update_self _ H (by rfl)];simp[Obj.mapSeq]
   ·rw[List.take_add_one,d]at V;rcases aFv.mp V with z | z
    ·obtain⟨k,g⟩:=aHh z
     have hkj:k<j:=by
      have:=(aFp.mp g).1;rw[List.length_take]at this;lia
     rw[List.getElem?_take_of_lt hkj]at g;exact(h.done p z).to λo e=>up _ o (D.FH p (aG3 g)).2.2 (apart k p g (by lia)) e
    ·have:p=q:=by simpa using z
     subst this;exact at2.to λo e=>(aGw ..).extBut _ _ B.2.2 e
   ·obtain⟨k,g⟩:=aHh V;rw[List.getElem?_drop]at g;have hp' :p∈qs.drop j:=by rw[List.drop_eq_getElem_cons u];exact aFt _ V
    exact(h.todo p hp').to λo e=>up _ o (D.FH p (aG3 g)).2.2 (apart _ p g (by lia)) e
   ·rw[Heap.size_update,f.1];exact h.size
variable{Q:Option Value->Shared->Prop}
theorem nW{z TI TO:Addr}{vals:List Value}(D:dN z TI TO qs)(Z:fX s.heap z TI TO qs .none i)(a:qs≠[])
  (d:vals.length=qs.length) (e:∀(k:Nat) q x,qs[k]? =some q->vals[k]? =some x->∃items,q.Sq s.heap items/\items[i]? =some x) (hsz:qs.length<=sizeLine)
  (f:∀h',fX h' z TI TO qs (rawInt s.heap.objs.size) (i+1)->h'.get? s.heap.objs.size=some {cls:= .type "tuple",data:= .seq vals.toArray}->h'.objs.size=s.heap.objs.size+1->
   (∀c o,c≠z->c≠TO->(∀q∈qs,c≠q.it)->s.heap.get? c=some o->h'.get? c=some o)->Q (some (.ref s.heap.objs.size)) {s with heap:=h'}):
  wpAny (model prog w) A (pyNext (.ref z)) Q E s:=by
 have b:s.TypeIs (.ref z) "zip":=⟨_,Z.obj,rfl⟩
 unfold pyNext
 exact aFo (aHb (aGf (name:=Str.ofString "__next__") b aH5 (aGa aH5 b aIz
  (J8 D Z a d e hsz λh' g h j l=>aFq (f h' g h j l)) (aIr _))))
theorem pW{z TI TO:Addr}{i k:Nat}(d:A.handled=none)(D:dN z TI TO qs)(Z:fX s.heap z TI TO qs .none i)
  (f:∀(j:Nat) q,qs[j]? =some q->j<k->∃items x,q.Sq s.heap items/\items[i]? =some x) (g:∃q items,qs[k]? =some q/\q.Sq s.heap items/\items[i]? =none) (hsz:qs.length<=sizeLine)
  (h:∀h',(∀c o,c≠z->c≠TO->(∀q∈qs,c≠q.it)->s.heap.get? c=some o->h'.get? c=some o)->Q none {s with heap:=h'}):wpAny (model prog w) A (pyNext (.ref z)) Q E s:=by
 have a:s.TypeIs (.ref z) "zip":=⟨_,Z.obj,rfl⟩
 unfold pyNext
 refine aFo (aHb (aGf (name:=Str.ofString "__next__") a aH5 (aGa aH5 a aIz
  (O0 d D Z f g hsz λh' e kp he=>?_) (aIr _))))
 obtain⟨o,ho,l⟩:=he;refine aFo (aIg (T:= "StopIteration") (b:=true) ⟨o,ho,l⟩ isSubtype_stop ?_);exact aFq (h _ kp)
theorem YL{elts:List Expr}{x1}{z TI TO T:Addr}{Q:Unit->Shared->Prop}(D:dN z TI TO qs)(Z:fX s.heap z TI TO qs (rawInt T) i)
  (c:∀h',fX h' z TI TO qs .none i->Heap.SameBut z s.heap h' ->Q () {s with heap:=h'}):wpAny (model prog w) A (letOwnedTupleGo (.Tuple elts x1 pos) (.ref z) (.ref T)) Q E s:=by
 unfold letOwnedTupleGo;refine aFo (aJ8 Z.obj ?_);show wpAny _ _ (if (["enumerate","zip","dict_itemiterator","dict_reverseitemiterator","odict_iterator","itertools.zip_longest","itertools.pairwise"].contains "zip" && (#[rawInt T,.bool false,.bool false,.ref TI,.ref TO]:Array Value)[0]? ==some (rawInt T))=true then _ else _) Q E s;rw[if_pos (by simp)];refine aFo (aGx ?_);show wpAny _ _ (setField (.ref z) 0 .none) Q E s;refine aGl Z.obj (by simp) λh' a sb=>c h' ⟨a,?_,?_,λq b=>(Z.at_ q b).to λo e=>sb.extBut _ _ (D.FH q b).1 e⟩ sb
 ·obtain⟨n,e⟩:=Z.aJ;exact⟨n,sb.extBut _ _ D.ne1 e⟩
 ·obtain⟨xs,n,l,e⟩:=Z.own;exact⟨xs,n,l,sb.extBut _ _ D.ne2 e⟩
theorem C7{z TI TO:Addr}{f0:Value}{Q:aJk}(Z:fX s.heap z TI TO qs f0 i)(h:Q (.ref z) s):wpAny (model prog w) A (pyIter (.ref z)) Q E s:=by
 have a:s.TypeIs (.ref z) "zip":=⟨_,Z.obj,rfl⟩
 refine aI7 a aJ5 (aGa aJ5 a F.entry_zip_iter ?_ (F.args_zip_iter_1 _));exact aFq ⟨_,rfl,"zip",_,a,aH5.lookup,h⟩
end
section
variable {prog:Program}{w:World}{A:Around}{E:aJk}{s:Shared}
def bN:Nat->List Src->List Src
 | _,[]=>[]
 | n,q::r=>⟨n,q.l,q.tup⟩::bN (n+1) r
theorem fN:∀(n:Nat) (qs:List Src),(bN n qs).length=qs.length
 | _,[]=>rfl
 | n,_::r=>by simp[bN,fN (n+1) r]
theorem d5:∀{n:Nat} {qs:List Src} {p:Src},p∈bN n qs->n<=p.it/\p.it<n+qs.length/\∃q∈qs,p.l=q.l/\p.tup=q.tup
 | n,q::r,p,h=>by
  rcases aFx.mp h with rfl | h
  ·exact⟨aFw _,by simp,q,aFs,rfl,rfl⟩
  ·obtain⟨a,b,c,d,e⟩:=d5 h;exact⟨Nat.le_of_succ_le a,Nat.lt_of_lt_of_eq b (by simp only[List.length_cons];lia),c,aFt _ d,e⟩
theorem pZ:∀(n:Nat) (qs:List Src),((bN n qs).map (·.it)).Nodup
 | _,[]=>by simp[bN]
 | n,q::r=>by
  simp only[bN,List.map_cons,List.nodup_cons];refine⟨λh=>?_,pZ (n+1) r⟩;obtain⟨p,a,e⟩:=aG0.mp h;have b:=(d5 a).1;have c :p.it=n:=e;exact absurd b (by rw[c];exact Nat.not_succ_le_self n)
theorem rR{Q:Array Value->Shared->Prop}:∀(qs:List Src) (acc:Array Value) (s:Shared),(∀q∈qs,∃items,q.Sq s.heap items)->
  (∀h',h'.objs.size=s.heap.objs.size+qs.length->(∀b o,s.heap.get? b=some o->h'.get? b=some o)->(∀p∈bN s.heap.objs.size qs,p.At h' 0)->Q (acc++((bN s.heap.objs.size qs).map λp=>Value.ref p.it).toArray) {s with heap:=h'})->
  wpAny (model prog w) A (forIn (qs.map λq=>Value.ref q.l) acc λx aJ=>do let r<-holding aJ.toList (pyIter x);pure (ForInStep.yield (aJ.push r))) Q E s
 | [],acc,s,_,hQ=>by
  have:=hQ s.heap (by simp) (λ_ _ e=>e) (by simp[bN]);simp only[List.map_nil,List.forIn_nil];refine aFq ?_;simpa[bN] using this
 | q::r,acc,s,hs,hQ=>by
  obtain⟨items,m⟩:=hs q aFs;simp only[List.map_cons,List.forIn_cons];refine aFo (aFo (aGj (Src.start m λh' g sz kp=>aFq ?_)));refine rR r (acc.push (.ref s.heap.objs.size)) {s with heap:=h'} (λn h =>?_) λf i a j=>?_
  ·obtain⟨k,t⟩:=hs n (aFt _ h);exact⟨k,t.to λo e=>kp _ o e⟩
  ·have u:f.objs.size=s.heap.objs.size+(q::r).length:=by
    have:f.objs.size=h'.objs.size+r.length:=i;rw[this,sz,List.length_cons];lia
   have c :h'.objs.size=s.heap.objs.size+1:=sz;have d :∀p∈bN (s.heap.objs.size+1) r,p.At f 0:=by rw[<-c];exact j
   have:=hQ f u (λb o e=>a b o (kp b o e)) (λp hp=>by
    rcases aFx.mp hp with rfl | hp
    ·exact g.to λo e=>a _ o e
    ·exact d p hp)
   have v:(acc.push (.ref s.heap.objs.size)++((bN h'.objs.size r).map λp=>Value.ref p.it).toArray)=(acc++((bN s.heap.objs.size (q::r)).map λp=>Value.ref p.it).toArray):=by
    rw[c];simp[bN]
   show Q (acc.push (.ref s.heap.objs.size)++((bN h'.objs.size r).map λp=>Value.ref p.it).toArray) _;rw[v];exact this
theorem SQ:(5:Nat)<=sizeLine+2:=Nat.add_le_add_right (by decide:3<=sizeLine) 2
theorem E6(qs:List Src)(hsz:qs.length<=sizeLine):Meets (Builtin.«zip.__new__» ⟨.type "zip"::(qs.map λq=>Value.ref q.l),[]⟩) (λ_ R s=>(∀q∈qs,∃items,q.Sq s.heap items)/\
   ∀h' z TI TO,s.heap.objs.size+qs.length<=TI->TI≠TO->TI≠z->TO≠z->s.heap.objs.size+qs.length<=TO->s.heap.objs.size+qs.length<=z->fX h' z TI TO (bN s.heap.objs.size qs) .none 0->(∀b o,s.heap.get? b=some o->h'.get? b=some o)->R (.ok (.ret (.ref z))) {s with heap:=h'}):=
 .of_wp λprog w A R s h=>by
  obtain⟨r,i⟩:=h;unfold Builtin.«zip.__new__»;have j:=sub_zip;refine aFo (m:=Builtin.SmallTypes.newClass "zip" _) ?_;unfold Builtin.SmallTypes.newClass
  wp_walk
  refine rR qs #[] s r λh' sz kp a =>?_;have d:(bN s.heap.objs.size qs).length=qs.length:=fN _ _;have t:((#[]:Array Value)++((bN s.heap.objs.size qs).map λp=>Value.ref p.it).toArray).toList=(bN s.heap.objs.size qs).map λp=>Value.ref p.it:=by simp
  refine aFq ?_;simp only[t];refine aFo (aIa ?_ (by simp[d];exact hsz));refine aFo (aIa ?_ (by simp[d];exact hsz));unfold Builtin.SmallTypes.newRecord;dsimp only;refine aFo (aGg ?_ SQ);refine aFq ⟨_,rfl,?_⟩;generalize f:bN s.heap.objs.size qs=ls at d a i⊢;have u:(h'.push {cls:= .type "tuple",data:= .seq ((ls.map λp=>Value.ref p.it).toArray)}).objs.size=h'.objs.size+1:=aIb ..;have k:(h'.push {cls:= .type "tuple",data:= .seq ((ls.map λp=>Value.ref p.it).toArray)}).get? h'.objs.size=some _:=aFy _ rfl;have g:∀b o,h'.get? b=some o->(h'.push {cls:= .type "tuple",data:= .seq ((ls.map λp=>Value.ref p.it).toArray)}).get? b=some o:=λb o e=>aFr _ e;generalize v:h'.push {cls:= .type "tuple",data:= .seq ((ls.map λp=>Value.ref p.it).toArray)}=h1 at u k g⊢;have y:(h1.push {cls:= .type "tuple",data:= .seq ((List.map (λx=>Value.none) (ls.map λp=>Value.ref p.it)).toArray)}).objs.size=h1.objs.size+1:=aIb ..;have n:(h1.push {cls:= .type "tuple",data:= .seq ((List.map (λx=>Value.none) (ls.map λp=>Value.ref p.it)).toArray)}).get? h1.objs.size=some _:=aFy _ rfl;have c:∀b o,h1.get? b=some o->(h1.push {cls:= .type "tuple",data:= .seq ((List.map (λx=>Value.none) (ls.map λp=>Value.ref p.it)).toArray)}).get? b=some o:=λb o e=>aFr _ e;generalize B:h1.push {cls:= .type "tuple",data:= .seq ((List.map (λx=>Value.none) (ls.map λp=>Value.ref p.it)).toArray)}=h2 at y n c⊢;refine i _ h2.objs.size h'.objs.size h1.objs.size (by lia) (by lia) (by lia) (by lia) (by lia) (by lia) ⟨?_,⟨0,?_⟩,⟨List.map (λx=>Value.none) (ls.map λp=>Value.ref p.it),0,by simp[f],?_⟩,λq C=>?_⟩ λb o e=>aFr _ (c _ _ (g _ _ (kp b o e)))
  ·exact aFy _ rfl
  ·exact aFr _ (c _ _ k)
  ·exact aFr _ n
  ·exact(a q C).to λo e=>aFr _ (c _ _ (g _ _ e))
theorem yI{qs:List Src}(hsz:qs.length<=sizeLine)(k:checkTypeCall "zip" ⟨qs.map λq=>Value.ref q.l,[]⟩=pure ())(hN:checkBuiltinCall "zip.__new__" ⟨.type "zip"::qs.map λq=>Value.ref q.l,[]⟩=pure ())
  (m:∀obj,argsOk "object.__init__" ⟨obj::qs.map λq=>Value.ref q.l,[]⟩) (g:∀q∈qs,∃items,q.Sq s.heap items)
  (h:∀h' z TI TO,s.heap.objs.size<=TI->s.heap.objs.size<=TO->s.heap.objs.size<=z->dN z TI TO (bN s.heap.objs.size qs)->fX h' z TI TO (bN s.heap.objs.size qs) .none 0->(∀b o,s.heap.get? b=some o->h'.get? b=some o)->Q (.ref z) {s with heap:=h'}):
  wpAny (model prog w) A (call (.type "zip") (qs.map λq=>Value.ref q.l)) Q E s:=by
 refine callType_new F.called_zip (by decide) k hN m F.entry_zip_new (E6 qs hsz) ⟨g,λh' z TI TO p t u v i j Z kp=>?_⟩;refine⟨⟨_,Z.obj,rfl⟩,h h' z TI TO (by lia) (by lia) (by lia) ⟨u,v,t,λq d=>?_,pZ _ _,λq d=>?_⟩ Z kp⟩
 ·obtain⟨x,c,_⟩:=d5 d;exact⟨aG9 (aGb c j),aG9 (aGb c p),aG9 (aGb c i)⟩
 ·obtain⟨x,c,y,e,B,_⟩:=d5 d;obtain⟨items,f⟩:=g y e;obtain⟨o,n,ho,_⟩:=f.obj;have a:q.l<s.heap.objs.size:=by rw[B];exact aG2 ho
  exact⟨aG9 (aGb a (aGh (Nat.le_add_right _ _) j)),aG9 (aGb a (aGh (Nat.le_add_right _ _) i)),λr C=>aG9 (aGb a (d5 C).1)⟩
end
def F1(K:aJj)(H:Hp)(t:Bool)(a:Addr)(xs:List V):Prop:=match t with | true=>oU K H a xs | false=>oV K H a xs
def Itz(K:aJj)(src:List (Addr×Bool)):It where
 go:=λi H=>∃vs:List V,vs.length=src.length/\∀(k:Nat) a t v,src[k]? =some (a,t)->vs[k]? =some v->∃xs,F1 K H t a xs/\xs[i]? =some v
 ZL:=λi H x H' =>∃p vs,H p=none/\x= .ref p/\H' =upd H p (.tup vs)/\vs.length=src.length/\∀(k:Nat) a t v,src[k]? =some (a,t)->vs[k]? =some v->∀xs,F1 K H t a xs->xs[i]? =some v
 stop:=λi H=>∃(k:Nat) (a:Addr) (t:Bool) (xs:List V),src[k]? =some (a,t)/\F1 K H t a xs/\xs.length<=i/\∀(j:Nat) b u,j<k->src[j]? =some (b,u)->∃ys,F1 K H u b ys/\i<ys.length
section
variable {X:Cx}{pins:List (Addr×Obj)}{σ:St}{H:Hp}{s:Shared}
theorem Inv.ZN{t:Bool}{a:Addr}{xs:List V}(I:Inv X pins σ H s)(h:F1 X.K H t a xs):∃aJ:List Value,Vals xs aJ/\∀it,(⟨it,a,t⟩:Src).Sq s.heap aJ.toArray:=by
 cases t with
 | true=>obtain⟨aJ,r,p,_⟩:=I.tuple h;exact⟨aJ,r,λ_=>p⟩
 | false=>obtain⟨aJ,r,p,_⟩:=I.list h;exact⟨aJ,r,λ_=>p.isList⟩
theorem Inv.PU{t:Bool}{a:Addr}{xs ys:List V}(I:Inv X pins σ H s)(h:F1 X.K H t a xs)(h' :F1 X.K H t a ys):xs=ys:=by
 cases t with
 | true=>exact I.w9 h h'
 | false=>exact I.CU h h'
theorem Inv.aC9{fp:List Addr}{t' :Nat}{p:Addr}{o:HO}(I:Inv X pins σ H s)(a:∀b∈fp,nC X pins H b)(k:∀b o,b∉fp->s.heap.get? b=some o->h'.get? b=some o)
  (g:s.heap.objs.size<=p) (new:cW X.prog X.w (upd H p o) h' p o):Inv X pins σ (upd H p o) {s with heap:=h',toks:=t'}:=by
 have d:H p=none:=I.bY.fresh g;have f:∀b u,H b=some u->b∉fp:=λb u e z=>by rw[(a b z).1]at e;cases e
 refine I.step (g' :=s.gens) (d' :=s.drawn) (ch:=fp) (λb hb=>⟨(a b hb).2.2.2.1,(a b hb).2.1,(a b hb).2.2.2.2.1,(a b hb).2.2.2.2.2⟩) (λb o _ _ hc e _=>k b o hc e) (λb o _ _ hc e _=>⟨o.slots,k b o hc e⟩)
  (λb o _ e n=>by rw[aM (Nat.ne_of_lt (Nat.lt_of_lt_of_le (Heap.lt_size e) g))];exact n) (λb o hc e=>⟨o,k b o hc e⟩) (λb xs e=>by rw[aM (bK e d)];exact e) (λb o u e=>by rw[aM (bK e d)];exact e)
  (λb ps e=>⟨#[],by rw[aM (bK e d),e];simp⟩) (λm h=>?_) (λb u e=>?_) I.bare
 ·obtain⟨o,i,ep,ho,r⟩:=h;exact⟨o,i,ep,k _ o (λz=>(a _ z).2.1 rfl) ho,r⟩
 ·by_cases hb:b=p
  ·subst hb;rw[bR]at e;cases e;exact new
  ·rw[aM hb]at e;refine(I.bY b u e).qS (λc v hc q=>k c v ?_ q) (λc q=>by rw[aM (bK q d)];exact q) λc xs q=>by rw[aM (bK q d)];exact q
   rcases hc with rfl | hc
   ·exact f _ u e
   ·exact f _ _ hc
theorem Inv.YM{fp:List Addr}{t' :Nat}(I:Inv X pins σ H s)(a:∀b∈fp,nC X pins H b)(k:∀b o,b∉fp->s.heap.get? b=some o->h'.get? b=some o):Inv X pins σ H {s with heap:=h',toks:=t'}:=by
 have d:∀b u,H b=some u->b∉fp:=λb u e z=>by rw[(a b z).1]at e;cases e
 refine I.step (g' :=s.gens) (d' :=s.drawn) (ch:=fp) (λb hb=>⟨(a b hb).2.2.2.1,(a b hb).2.1,(a b hb).2.2.2.2.1,(a b hb).2.2.2.2.2⟩) (λb o _ _ hc e _=>k b o hc e) (λb o _ _ hc e _=>⟨o.slots,k b o hc e⟩)
  (λb o _ e n=>n) (λb o hc e=>⟨o,k b o hc e⟩) (λb xs e=>e) (λb o u e=>e) (λb ps e=>⟨#[],by rw[e];simp⟩) (λm f=>?_) (λb u e=>?_) I.bare
 ·obtain⟨o,g,ep,ho,r⟩:=f;exact⟨o,g,ep,k _ o (λz=>(a _ z).2.1 rfl) ho,r⟩
 ·refine(I.bY b u e).qS (λc v hc q=>k c v ?_ q) (λ_ q=>q) λ_ _ q=>q;rcases hc with rfl | hc
  ·exact d _ u e
  ·exact d _ _ hc
end
theorem LX{P:Nat->Value->Prop}:∀{vs:List V},(∀(k:Nat) v,vs[k]? =some v->∃u,RelV v u/\P k u)->∃us,Vals vs us/\∀(k:Nat) u,us[k]? =some u->P k u
 | [],_=>⟨[],.nil,λk u e=>by simp at e⟩
 | v::r,h=>by
  obtain⟨u,a,b⟩:=h 0 v rfl;obtain⟨us,rs,ps⟩:=LX (P:=λk u=>P (k+1) u) (vs:=r) λk v e=>h (k+1) v (by simpa using e);refine⟨u::us,.cons a rs,λk w e=>?_⟩
  cases k with
  | zero=>simp at e;subst e;exact b
  | succ k=>exact ps k w (by simpa using e)
theorem KQ{K:aJj}{elts:List Expr}{x1}{z TI TO:Addr}{qs:List Src}(D:dN z TI TO qs)(F:qs≠[])(hsz:qs.length<=sizeLine):
  Turn P w K (.Tuple elts x1 pos) (Itz K (qs.map λq=>(q.l,q.tup))) (z::TI::TO::qs.map (·.it)) z (λi h=>fX h z TI TO qs .none i) where
 mem:=aFs
 obj:=λi h Z b hb=>by
  rcases aFx.mp hb with rfl | hb
  ·exact⟨_,Z.obj,λv e=>by cases e⟩
  rcases aFx.mp hb with rfl | hb
  ·obtain⟨n,e⟩:=Z.aJ;exact⟨_,e,λv e=>by cases e⟩
  rcases aFx.mp hb with rfl | hb
  ·obtain⟨xs,n,_,e⟩:=Z.own;exact⟨_,e,λv e=>by cases e⟩
  obtain⟨q,c,rfl⟩:=aG0.mp hb;obtain⟨o,ho,hd⟩:=(Z.at_ q c).obj;exact⟨o,ho,λv e=>by rw[hd]at e;cases e⟩
 keep:=λi h h' Z k=>by
  refine⟨k z (by simp) _ Z.obj,?_,?_,λq c=>(Z.at_ q c).to λo e=>k q.it (by simp;exact .inr (.inr (.inr ⟨q,c,rfl⟩))) o e⟩
  ·obtain⟨n,e⟩:=Z.aJ;exact⟨n,k TI (by simp) _ e⟩
  ·obtain⟨xs,n,l,e⟩:=Z.own;exact⟨xs,n,l,k TO (by simp) _ e⟩
 item:=by
  intro X G J L hc i pins s σ H E I B Z hg;subst G J L;obtain⟨vs,C,hv⟩:=hg;have M:vs.length=qs.length:=by simpa using C
  obtain⟨us,ru,pu⟩:=LX (P:=λk u=>∀q,qs[k]? =some q->∃items,q.Sq s.heap items/\items[i]? =some u) (vs:=vs) λk v e=>by
   have g:k<qs.length:=by have:=(aFp.mp e).1;lia
   have d:qs[k]? =some qs[k]:=aFu g;obtain⟨xs,m,hi⟩:=hv k qs[k].l qs[k].tup v (by rw[List.getElem?_map,d];rfl) e;obtain⟨aJ,rv,p⟩:=I.ZN m;obtain⟨u,N,r⟩:=rv.get hi;refine⟨u,r,λq c=>?_⟩;rw[d]at c;cases c;exact⟨aJ.toArray,p qs[k].it,by simpa using N⟩
  have O:us.length=qs.length:=by rw[<-ru.length,M]
  refine nW D Z F O (λk q x c m=>pu k x m q c) hsz λh1 Z1 t1 z1 k1=>?_;refine⟨_,rfl,YL (s:={s with heap:=h1}) D Z1 λh2 Z2 y=>?_⟩;have f:s.heap.objs.size≠z:=aIe (aG2 Z.obj)
  have kk:∀b o,b∉(z::TI::TO::qs.map (·.it))->s.heap.get? b=some o->h2.get? b=some o:=λb o hb e=>by
   have b1:b≠z:=λz=>hb (by simp[z]);have b2:b≠TO:=λz=>hb (by simp[z]);exact y.extBut _ _ b1 (k1 b o b1 b2 (λq c z=>hb (by simp;exact .inr (.inr (.inr ⟨q,c,z.symm⟩)))) e)
  refine⟨.ref s.heap.objs.size,upd H s.heap.objs.size (.tup vs),I.aC9 (t' :=s.toks) B kk (aFw _) ⟨by lia,us,ru,⟨_,y.extBut _ _ f t1,rfl,0,rfl⟩,λo e=>by rw[y.extBut _ _ f t1]at e;cases e;rfl⟩,rfl,?_,Z2,λb hb=>?_⟩
  ·refine⟨s.heap.objs.size,vs,I.bY.fresh (aFw _),rfl,rfl,C,λk a t v p R xs m=>?_⟩;obtain⟨ys,S,hi⟩:=hv k a t v p R;rw[I.PU m S];exact hi
  ·have T:=(B b hb).1
   have:b≠s.heap.objs.size:=by
    rintro rfl
    have ho:∃o,s.heap.get? s.heap.objs.size=some o:=by
     rcases aFx.mp hb with e | hb
     ·rw[e];exact⟨_,Z.obj⟩
     rcases aFx.mp hb with e | hb
     ·rw[e];obtain⟨n,e⟩:=Z.aJ;exact⟨_,e⟩
     rcases aFx.mp hb with e | hb
     ·rw[e];obtain⟨xs,n,_,e⟩:=Z.own;exact⟨_,e⟩
     obtain⟨q,c,e⟩:=aG0.mp hb;have e' :q.it=s.heap.objs.size:=e;rw[<-e'];obtain⟨o,ho,_⟩:=(Z.at_ q c).obj;exact⟨o,ho⟩
    obtain⟨o,ho⟩:=ho;exact absurd (aG2 ho) (aHa _)
   rw[aM this];exact T
 done:=by
  intro X G J L hc i pins s σ H E I B Z hg;subst G J L;obtain⟨k,a,t,xs,g,m,hle,U⟩:=hg;rw[List.getElem?_map]at g
  cases d:qs[k]? with
  | none=>rw[d]at g;cases g
  | some q=>
   rw[d]at g;have V :(q.l,q.tup)=(a,t):=aG8 g;injection V with e1 e2;subst e1 e2
   refine pW (k:=k) (I.ok.hd hc) D Z (λj W hj Y=>?_) ⟨q,?_⟩ hsz λh' kp=>⟨rfl,I.YM (t' :=s.toks) B λb o hb e=>kp b o (λz=>hb (by simp[z])) (λz=>hb (by simp[z])) (λq c z=>hb (by simp;exact .inr (.inr (.inr ⟨q,c,z.symm⟩)))) e⟩
   ·obtain⟨ys,S,C⟩:=U j W.l W.tup Y (by rw[List.getElem?_map,hj];rfl);obtain⟨aJ,r,p⟩:=I.ZN S;obtain⟨u,N,_⟩:=r.get (aFu C);exact⟨aJ.toArray,u,p W.it,by simpa using N⟩
   ·obtain⟨aJ,r,p⟩:=I.ZN m;refine⟨aJ.toArray,d,p q.it,?_⟩;have:=r.length;rw[List.getElem?_toArray];exact aH0.mpr (by lia)
 self:=λA i s Q E Z h=>C7 Z h
structure JX(m:Nat):Prop where
 t:∀us:List Value,us.length=m->checkTypeCall "zip" ⟨us,[]⟩=pure ()
 n:∀us:List Value,us.length=m->checkBuiltinCall "zip.__new__" ⟨.type "zip"::us,[]⟩=pure ()
 i:∀(us:List Value) (o:Value),us.length=m->argsOk "object.__init__" ⟨o::us,[]⟩
theorem TU:JX 2:=⟨λus h=>match us,h with | [a,b],_=>F.typeCall_zip_2 a b,λus h=>match us,h with | [a,b],_=>F.newCall_zip_2 a b,λus o h=>match us,h with | [a,b],_=>F.args_object_init_3 o a b⟩
theorem UK(a b c d:Value):checkTypeCall "zip" ⟨[a,b,c,d],[]⟩=pure ():=by kernel_rfl
theorem UL(a b c d:Value):checkBuiltinCall "zip.__new__" ⟨[.type "zip",a,b,c,d],[]⟩=pure ():=by kernel_rfl
theorem UM(o a b c d:Value):argsOk "object.__init__" ⟨[o,a,b,c,d],[]⟩:=by
 unfold argsOk;rw[signature?_of (id:= "object.__init__") (n:=['_','_','t','i','n','i','_','_']) (o:=['t','c','e','j','b','o']) (by kernel_rfl) F.owner_object];kernel_rfl
theorem ZX:JX 4:=⟨λus h=>match us,h with | [a,b,c,d],_=>UK a b c d,λus h=>match us,h with | [a,b,c,d],_=>UL a b c d,λus o h=>match us,h with | [a,b,c,d],_=>UM o a b c d⟩
def aF5(K:aJj)(n:Nat)(b:TA):TI:=λσ H R=>b σ H λvs a=>∃src:List (Addr×Bool),vs=src.map (λp=>V.ref p.1)/\src.length=n/\(∀p∈src,∃xs,F1 K a p.2 p.1 xs)/\R (Itz K src) a
theorem gQ:∀{src:List (Addr×Bool)} {us:List Value},Vals (src.map λp=>V.ref p.1) us->us=src.map λp=>Value.ref p.1
 | [],us,h=>by cases h;rfl
 | p::r,us,h=>by
  cases h with
  | cons a b=>rw[gQ b];cases a;rfl
theorem oG:∀(src:List (Addr×Bool)) (m:Nat),((bN m (src.map λp=>(⟨0,p.1,p.2⟩:Src))).map λq=>(q.l,q.tup))=src
 | [],_=>rfl
 | p::r,m=>by simp only[List.map_cons,bN];rw[oG r (m+1)]
theorem LY{n:Nat}{e:Expr}{f:List Expr}{x:TA}{p pos:Pos}{elts:List Expr}{x1}{a:Pos}(z:JX n)(W:0<n/\n<=1000)(hg:Gl X "zip")(y:X.mg "zip"=none)(ha:PA X (e::f) x)
  (A:bootBuiltins "zip"=some (.type "zip"):=by decide+kernel)
  (he:starEach (e::f) X.env=(false,eval e X.env)::starEach f X.env:=by rfl) (o:(backTo pos (starEach f X.env)).any (·.1)=false:=by rfl):
  PI X (.Tuple elts x1 a) (.Call (.Name "zip" p) (e::f) [] pos) (aF5 X.K n x):=by
 intro pins s σ H R I h;refine aHl (oF I hg y A ?_);refine aH9 (cA (ha pos pins s σ H _ I h) λus s1 ⟨vs,r,k,B,C⟩=>?_) he o;obtain⟨src,rfl,u,E,F⟩:=C;have G:=gQ B;subst G;have em:(src.map λp=>Value.ref p.1)=(src.map λp=>(⟨0,p.1,p.2⟩:Src)).map λq=>Value.ref q.l:=by rw[List.map_map];rfl
 have hz:src.length<=sizeLine:=aHr (xB (by lia));rw[em];refine yI (by simpa using hz) (z.t _ (by simpa using u)) (z.n _ (by simpa using u)) (λobj=>z.i _ obj (by simpa using u)) (λq m=>?_) λh' J TI TO L M N D Z kp=>?_
 ·obtain⟨p,O,rfl⟩:=aG0.mp m;obtain⟨xs,Q⟩:=E p O;obtain⟨aJ,_,v⟩:=k.ZN Q;exact⟨aJ.toArray,v 0⟩
 ·generalize c:bN s1.heap.objs.size (src.map λp=>(⟨0,p.1,p.2⟩:Src))=qs at D Z;have g:qs.length=src.length:=by rw[<-c,fN];simp
  have d:(qs.map λq=>(q.l,q.tup))=src:=by rw[<-c];exact oG _ _
  have S:Inv X pins σ r {s1 with heap:=h'}:=k.kept (t' :=s1.toks) kp;have T:=KQ (P:=X.prog) (w:=X.w) (K:=X.K) (elts:=elts) (x1:=x1) (pos:=a) D (by intro U;rw[U]at g;simp at g;lia) (by lia);rw[d]at T;refine C7 Z ⟨J,_,_,Itz X.K src,r,rfl,S,T,Z,λb hb=>?_,F⟩
  have j:s1.heap.objs.size<=b:=by
   rcases aFx.mp hb with e | hb
   ·rw[e];exact N
   rcases aFx.mp hb with e | hb
   ·rw[e];exact L
   rcases aFx.mp hb with e | hb
   ·rw[e];exact M
   obtain⟨q,m,e⟩:=aG0.mp hb;rw[<-c]at m;have V :q.it=b:=e;rw[<-V];exact(d5 m).1
  exact(k.NV j (k.bY.fresh j):nC X pins r b)
variable {b:Bool}
abbrev cmA(b:Bool):String:=match b with
 | false=>"list.append"
 | true=>"set.add"
abbrev bP(b:Bool)(elt tg iter:Expr)(ifs:List Expr)(a c:Expr)(d:List Expr)(scope:Scope)(pos:Pos):Expr:=N8 b elt [⟨tg,iter,ifs,0⟩,⟨a,c,d,0⟩] scope pos
def BodyOk(X:Cx)(o1 o:Nat)(e c:Expr)(acc:Addr)(tb:ZU):Prop:=∀(pins:List (Addr×Obj)) (s:Shared) (σ:St) (H:Hp) (ys:List V) (N:List V->Hp->Prop),Inv X pins σ H s->(∀j,o1<=j->j<o->σ[j]? =some none)->tb ys σ H N->
 wpAny (model X.prog X.w) X.A (eval c X.env) (λx s1=>wpAny (model X.prog X.w) X.A (pyIter x) (λa s2=>
  codeAny (model X.prog X.w) X.A (.compStart e 1 a (.ref acc) X.env) (λr d =>r= .ok .next/\∃b H',Inv X pins σ H' d /\N b H') s2) (λ_ _=>False) s1) (λ_ _=>False) s
theorem AO(elt tg iter:Expr)(ifs:List Expr)(a d:Expr)(e:List Expr)(scope:Scope)(pos:Pos)(it:Value)(acc:Addr)(env:Env):
  compTurn (bP b elt tg iter ifs a d e scope pos) 0 it (.ref acc) env=(do
   standAt iter.pos
   match<-pyNext it with
   | none=>pure (.done .next)
   | some v=>
    letOwnedTupleGo tg it v
    assign tg env v
    let mut ok:=true
    for c in ifs do
     if ok then ok<-isTrue c env (eval c env)
    if ok then
     let x<-eval d env
     standAt d.pos
     let x<-foldedSetIterable d env x
     let _<-runOwn (.compStart (bP b elt tg iter ifs a d e scope pos) 1 (<-holding [x] (pyIter x)) (.ref acc) env) env
    again (.compLoop (bP b elt tg iter ifs a d e scope pos) 0 it (.ref acc) env)):=by cases b <;> rfl
theorem wJ(elt tg iter:Expr)(ifs:List Expr)(a d:Expr)(e:List Expr)(scope:Scope)(pos:Pos)(it acc:Value)(env:Env):
  compTurn (bP b elt tg iter ifs a d e scope pos) 1 it acc env=(do
   standAt d.pos
   match<-pyNext it with
   | none=>pure (.done .next)
   | some v=>
    letOwnedTupleGo a it v
    assign a env v
    let mut ok:=true
    for c in e do
     if ok then ok<-isTrue c env (eval c env)
    if ok then
     (match b with | false=>(do let _<-call (.builtin "list.append") [acc,<-eval elt env]) | true=>(do let v<-eval elt env;standAt elt.pos;let _<-call (.builtin "set.add") [acc,v]))
    again (.compLoop (bP b elt tg iter ifs a d e scope pos) 1 it acc env)):=by cases b <;> rfl
variable{cM:List Expr}
theorem AQ{elt a iter f q:Expr}{acc:Addr}(I:Nat->Shared->Prop)
  (t:∀n s,I n s->wpAny (model prog w) A (pyNext it) (λr d=>match r with
   | none=>R (.ok .next) d
   | some v=>wpAny (model prog w) A (letOwnedTupleGo a it v) (λ_ d=>wpAny (model prog w) A (assign a env v) (λ_ j=>
     wpAny (model prog w) A (forIn ifs true λc r=>if r=true then do let ok<-isTrue c env (eval c env);pure (ForInStep.yield ok) else pure (ForInStep.yield r)) (λok g=>
      if ok=true then wpAny (model prog w) A (eval q env) (λx k=>wpAny (model prog w) A (pyIter x) (λu l=>
       codeAny (model prog w) A (.compStart (bP b elt a iter ifs f q cM scope pos) 1 u (.ref acc) env) (λr o=>r= .ok .next/\∃m,m<n/\I m o) l) (λ_ _=>False) k) (λ_ _=>False) g
      else ∃m,m<n/\I m g) (λ_ _=>False) j) (λ_ _=>False) d) (λ_ _=>False) d) (λ_ _=>False) s)
  (n:Nat) (h:I n s) (C:∀x,foldedSetIterable q env x=pure x):codeAny (model prog w) A (.compLoop (bP b elt a iter ifs f q cM scope pos) 0 it (.ref acc) env) R s:=by
 refine codeAny_loop (by cases b <;> rfl) I (λn s D=>?_) n h;have hd:(model prog w).den (.compLoop (bP b elt a iter ifs f q cM scope pos) 0 it (.ref acc) env)=(compTurn (bP b elt a iter ifs f q cM scope pos) 0 it (.ref acc) env).onRaise (λx=>do noteFrame x env;theTreesLotGoes x):=by cases b <;> rfl
 have E:A.under (.compLoop (bP b elt a iter ifs f q cM scope pos) 0 it (.ref acc) env)=A:=by cases b <;> rfl
 rw[hd,E];refine wpAny_noted ?_;rw[AO];refine aFo (aI2 (aFo (aGi (t n s D) (λr d e=>?_) λ_ _ h' =>h'.elim)))
 cases r with
 | none=>exact aFq e
 | some v=>
  refine aFo (aGi e (λ_ d e=>?_) λ_ _ h' =>h'.elim);refine aFo (aGi e (λ_ j y=>aFo (aGi y (λok g p=>?_) λ_ _ h' =>h'.elim)) λ_ _ h' =>h'.elim)
  cases ok with
  | false=>exact aFq ⟨rfl,p⟩
  | true=>
   refine aFo (aGi p (λx k z=>aFo (aI2 ?_)) λ_ _ h' =>h'.elim);rw[C];refine aFo (aFq ?_);refine aFo (aGj (aGi z (λu l B=>?_) λ_ _ h' =>h'.elim));refine aFo (wpAny_runOwn (aHt B λr o i=>?_));obtain⟨rfl,i⟩:=i;exact aFq ⟨rfl,i⟩
theorem wK{elt a iter f u:Expr}(I:Nat->Shared->Prop)
  (q:∀n s,I n s->wpAny (model prog w) A (pyNext it) (λr d=>match r with
   | none=>R (.ok .next) d
   | some v=>wpAny (model prog w) A (letOwnedTupleGo f it v) (λ_ d=>wpAny (model prog w) A (assign f env v) (λ_ p=>
     wpAny (model prog w) A (forIn cM true λc r=>if r=true then do let ok<-isTrue c env (eval c env);pure (ForInStep.yield ok) else pure (ForInStep.yield r)) (λok g=>
      if ok=true then wpAny (model prog w) A (eval elt env) (λx i=>
       wpAny (model prog w) A (call (.builtin (cmA b)) [acc,x]) (λ_ j=>∃m,m<n/\I m j) (λ_ _=>False) i) (λ_ _=>False) g
      else ∃m,m<n/\I m g) (λ_ _=>False) p) (λ_ _=>False) d) (λ_ _=>False) d) (λ_ _=>False) s)
  (n:Nat) (h:I n s):codeAny (model prog w) A (.compLoop (bP b elt a iter ifs f u cM scope pos) 1 it acc env) R s:=by
 refine codeAny_loop (by cases b <;> rfl) I (λn s y=>?_) n h;have hd:(model prog w).den (.compLoop (bP b elt a iter ifs f u cM scope pos) 1 it acc env)=(compTurn (bP b elt a iter ifs f u cM scope pos) 1 it acc env).onRaise (λx=>do noteFrame x env;theTreesLotGoes x):=by cases b <;> rfl
 have z:A.under (.compLoop (bP b elt a iter ifs f u cM scope pos) 1 it acc env)=A:=by cases b <;> rfl
 rw[hd,z];refine wpAny_noted ?_;rw[wJ];refine aFo (aI2 (aFo (aGi (q n s y) (λr d e=>?_) λ_ _ h' =>h'.elim)))
 cases r with
 | none=>exact aFq e
 | some v=>
  refine aFo (aGi e (λ_ d e=>?_) λ_ _ h' =>h'.elim);refine aFo (aGi e (λ_ p t=>aFo (aGi t (λok g k=>?_) λ_ _ h' =>h'.elim)) λ_ _ h' =>h'.elim)
  cases ok with
  | false=>exact aFq ⟨rfl,k⟩
  | true=>
   refine aFo ?_
   cases b with
   | false=>exact aFo (aGi k (λx i l=>aFo (aGi l (λ_ j o=>aFq (aFq ⟨rfl,o⟩)) λ_ _ h' =>h'.elim)) λ_ _ h' =>h'.elim)
   | true=>exact aFo (aGi k (λx i l=>aFo (aI2 (aFo (aGi l (λ_ j o=>aFq (aFq ⟨rfl,o⟩)) λ_ _ h' =>h'.elim)))) λ_ _ h' =>h'.elim)
theorem VZ{tg iter a c elt:Expr}{wi:TI}{g:TG}{tt:TT}{tb:Addr->ZU}(own:List Str)(o1:Nat)(aH:List Nat)
  (hN:X.N=N) (hsc:X.env.scope=sc) (chk:iS N sc scope aH=true) (hcalm:X.calm=true) (hi:PI X tg iter wi) (f:o1<=own.length) (ho:F4 o1 g)
  (hg:∀cl C fp s₀ H₀,PG (aZ X own aH scope cl C fp s₀ H₀) tg g) (ht:∀cl C fp s₀ H₀,ZH (aZ X own aH scope cl C fp s₀ H₀) ifs tt)
  (he:∀acc cl C fp s₀ H₀,BodyOk (aZ X own aH scope cl C fp s₀ H₀) o1 own.length (bP b elt tg iter ifs a c cM scope pos) c acc (tb acc))
  (i:∀env x,foldedSetIterable c env x=pure x)
  (m:∀x,foldedSetIterable iter X.env x=pure x:=by intro _;rfl):PE X (bP b elt tg iter ifs a c cM scope pos) (PQ X.prog X.w b own aH wi g tt tb):=by
 intro pins s σ H Q I h;have o:eval (bP b elt tg iter ifs a c cM scope pos) X.env=comprehension (bP b elt tg iter ifs a c cM scope pos) scope X.env (firstIterPos [⟨tg,iter,ifs,0⟩,⟨a,c,cM,0⟩] pos) (cmN b) (firstAsync [⟨tg,iter,ifs,0⟩,⟨a,c,cM,0⟩]) (firstIter [⟨tg,iter,ifs,0⟩,⟨a,c,cM,0⟩] X.env):=by cases b <;> rfl
 rw[o]
 refine yE (bm:=b) own o1 aH (λenv acc K s=>wpAny (model X.prog X.w) X.A (eval c env) (λx s1=>wpAny (model X.prog X.w) X.A (pyIter x) (λd s2=>
  codeAny (model X.prog X.w) X.A (.compStart (bP b elt tg iter ifs a c cM scope pos) 1 d (.ref acc) env) (λr p =>r= .ok .next/\K p) s2) (λ_ _=>False) s1) (λ_ _=>False) s)
  hN hsc chk hcalm hi f ho hg ht (λacc cl C fp s₀ H₀ pins s σ H ys t K u fresh q k=>?_) (λit acc env R I e n s h=>AQ I e n h (i _)) m I h DU
 refine cA (he _ _ _ _ _ _ _ s σ H ys t u fresh q) λx sa ha=>cA ha λd sb hb=>aHt hb λr sc v=>?_;obtain⟨rfl,y,z,j,l⟩:=v;exact⟨rfl,k _ _ _ j l⟩
variable {b:Bool}
def GIn(lo hi:Nat)(g:TG):Prop:=∀v σ H Q,g v σ H Q->g v σ H λa H' =>Q a H' /\a.length=σ.length/\∀j,(j<lo\/hi<=j)->a[j]? =σ[j]?
theorem NT{lo hi i:Nat}(h:lo<=i)(a:i<hi):GIn lo hi (xX i):=λv σ H Q q=>⟨q,by simp,λj b=>by rw[List.getElem?_set_ne (by lia)]⟩
def EJ(P:Program)(w:World)(b:Bool)(wi:TI)(g:TG)(tt:TT)(te:TE)(acc:Addr):ZU:=λys σ H N=>wi σ H λJ j=>
 ∃W:Nat->Nat->List V->Hp->Prop,(∃m,W 0 m ys j)/\∀i m ys H,W i m ys H->
  ((J.stop i H/\N ys H)\/(J.go i H/\∃d:List V->Hp->Prop,(∀a H',d a H' ->∃e,e<m/\W (i+1) e a H')/\
   ∀x H',J.ZL i H x H' ->g x σ H' λc l=>tt c l λn f=>if n =true then (ys.length<sizeLine/\(b=true->(ST.aR [] (ys.filterMap qQ)).length+1<scanBound))/\te c f λy h=>(b=true->∃k,y=kV k)/\h acc=some (A6 P w b acc ys)/\d (ys++[y]) (upd h acc (A6 P w b acc (ys++[y]))) else d ys f))
theorem YY{σ:St}{H:Hp}{acc:Addr}{ys:List V}{y:V}{c:Value}{N:Hp->Prop}(I:Inv X pins σ H s)(hz:ys.length<sizeLine/\(b=true->(ST.aR [] (ys.filterMap qQ)).length+1<scanBound))(j:b=true->∃k,y=kV k)
  (ha:H acc=some (A6 X.prog X.w b acc ys)) (f:RelV y c) (q:N (upd H acc (A6 X.prog X.w b acc (ys++[y])))):
  wpAny (model X.prog X.w) X.A (call (.builtin (cmA b)) [.ref acc,c]) (λ_ l =>∃H',Inv X pins σ H' l /\N H') X.xe s:=by
 cases b with
 | false=>
  refine cA (qW _ s σ H (.ref acc) [y] (.ref acc) [c] (λv H' =>v= .cL/\N H') I rfl (.cons f .nil) ⟨_,_,_,rfl,rfl,ha,hz.1,rfl,q⟩) λ_ s1 m=>?_;obtain⟨_,n,o,_,_,p⟩:=m;exact⟨n,o,p⟩
 | true=>
  obtain⟨k,rfl⟩:=j rfl;have h:ST.gP (aW X.prog X.w) (ST.hC X.w) s.heap acc (ST.aR [] (ys.filterMap qQ)):=(I.bY acc _ ha).1;have a:=xS (P:=X.prog) (w:=X.w) f
  have hsc:c.scannable=true:=by
   cases k with
   | inl i=>obtain⟨t,rfl⟩:=f;rfl
   | inr x=>obtain⟨t,rfl⟩:=f;rfl
  have r:qQ (kV k)=some k:=by cases k <;> rfl
  show wpAny _ _ (call (.builtin "set.add") [.ref acc,c]) _ _ _;refine aGa F.slot_set_add h.typeIs F.entry_set_add ?_ (F.args_set_add_2 _ _);unfold Builtin.«set.add» Builtin.Frozenset.oneOther;simp only[List.isEmpty_nil,bind_assoc];unfold Builtin.Frozenset.addrOf setAdd;refine aFo (aFq ?_)
  try dsimp only
  refine aFo (aFq ?_);refine aFo (aGj (aFo ((aW X.prog X.w).pyHash (k:=k) a ?_)));refine ST.yO (s:={s with toks:=s.toks+1}) a hsc h (hz.2 rfl) λb h' g d=>?_;refine aFq ⟨_,rfl,upd H acc (A6 X.prog X.w true acc (ys++[kV k])),?_,q⟩;have e:ST.aR [] ((ys++[kV k]).filterMap qQ)=ST.mJ (ST.aR [] (ys.filterMap qQ)) k:=by simp[ST.aR,r]
  refine(show Inv X pins σ _ {s with heap:=h',toks:=s.toks+1} from AJ I (by rw[ha];trivial) g ⟨_,d.choose_spec.choose_spec.choose_spec.choose_spec.1⟩ ?_);unfold A6;rw[e];exact zA d
theorem JT{o1 o:Nat}{elt tg iter a B:Expr}{acc:Addr}{wi:TI}{g:TG}{tt:TT}{te:TE}(hc:X.calm=true)(C:X.xe=λ_ _=>False)(hi:PI X a B wi)(hg:PG X a g)(Y:GIn o1 o g)(ht:ZH X cM tt)(he:PE X elt te):
  BodyOk X o1 o (bP b elt tg iter ifs a B cM scope pos) B acc (EJ X.prog X.w b wi g tt te acc):=by
 intro pins s σ H ys N I fresh h;have D :=hi pins s σ H _ I h;rw[C]at D;refine cA D λv s1 h1=>cA h1 λitv s2 h2=>?_;obtain⟨it,fp,tn,J,H2,e,I2,T,E,f2,W,⟨m0,w0⟩,F⟩:=h2;subst e
 have c:∀{H' :Hp},(∀b∈fp,H' b=none)->∀b∈fp,nC X pins H' b:=λY b hb=>⟨Y b hb,(f2 b hb).2⟩
 have k:codeAny (model X.prog X.w) X.A (.compLoop (bP b elt tg iter ifs a B cM scope pos) 1 (.ref it) (.ref acc) X.env) (λr S =>r= .ok .next/\∃Z H',Inv X pins σ H' S /\N Z H') s2:=by
  refine wK (λn S =>∃i ys H',Inv X pins σ H' S /\tn i S.heap/\(∀b∈fp,H' b=none)/\W i n ys H') ?_ m0 ⟨0,ys,H2,I2,E,λb hb=>(f2 b hb).1,w0⟩;rintro n s3 ⟨i,G,U,I3,K,L,w3⟩
  rcases F i n G U w3 with ⟨stop,qn⟩ | ⟨go,NN,hNN,step⟩
  ·refine cA (T.done X rfl rfl rfl hc i pins s3 σ U (λ_ _=>False) I3 (c L) K stop) λr s4 zz0=>?_;obtain⟨hr,I4⟩:=zz0;subst hr;exact⟨rfl,G,U,I4,qn⟩
  ·refine cA (T.item X rfl rfl rfl hc i pins s3 σ U (λ_ _=>False) I3 (c L) K go) λr s4 zz1=>?_;obtain⟨u,hr,h4⟩:=zz1;subst hr;refine cA h4 λ_ s5 zz2=>?_;obtain⟨x,H5,I5,r5,y5,l,fr5⟩:=zz2;have I5' :=I5.pinned (c fr5) (T.obj _ _ l);have M :=hg _ s5 σ H5 x u _ I5' r5 (Y _ _ _ _ (step x H5 y5));rw[C]at M;refine cA M λ_ s6 zz3=>?_;obtain⟨p,H6,I6,q6,l6,k6⟩:=zz3;have O :=ht _ s6 p H6 _ I6 q6;rw[C]at O;refine cA O λok s7 zz4=>?_;obtain⟨H7,I7,P⟩:=zz4
   have again:∀{f:List V} {q:Hp} {z:Shared},Inv X (pins++qV fp s5.heap) p q z->NN f q->∃m,m<n/\∃i ys H',Inv X pins σ H' z/\tn i z.heap/\(∀b∈fp,H' b=none)/\W i m ys H' :=λ{f q z} Q n8=>by
    obtain⟨m',hm,w8⟩:=hNN f q n8
    have I8' :Inv X pins σ q z:=Q.lO.weak l6.symm λj v e=>by
     by_cases hj:j<o1\/o<=j
     ·rw[k6 j hj];exact e
     ·rw[fresh j (by lia) (by lia)]at e;cases e
    refine⟨m',hm,i+1,f,q,I8',T.keep _ _ _ l λb hb o e=>(Q.pin (b,o) (aFz _ (aFz _ (fC hb e)))).1,λb hb=>?_,w8⟩;obtain⟨o,e,d⟩:=T.obj _ _ l b hb;exact(Q.pin (b,o) (aFz _ (aFz _ (fC hb e)))).2.1
   cases ok with
   | false=>exact again I7 P
   | true=>
    rw[if_pos rfl]at P⊢;obtain⟨hsz,P⟩:=P;have R :=he _ s7 p H7 _ I7 P;rw[C]at R;refine cA R λyv z zz5=>?_;obtain⟨y,q,Q,ry,hk8,t,q8⟩:=zz5;have ma:=YY (b:=b) Q hsz hk8 t ry q8;rw[C]at ma;refine cA ma λ_ s9 zz6=>?_;obtain⟨H9,I9,q9⟩:=zz6;exact again I9 q9
 exact DW (g:=⟨a,B,cM,0⟩) rfl rfl k (T.self _ 0 _ _ _ E k)
end L2
namespace TS
open PySem PyProof.Rows
structure Wk(lt:aJl):Prop where
 rE:∀x y,lt x y=true->lt y x=false
 tr:∀x y z,lt y x=false->lt z y=false->lt z x=false
theorem Wk.JA{lt:aJl}(O:Wk lt)(x:Keyed):lt x x=false:=by
 cases h:lt x x with
 | false=>rfl
 | true=>exact(O.rE x x h).symm.trans h |>.symm▸rfl
def aO(xs:aJn)(i:Nat):Keyed:=(xs[i]?).getD (Value.none,Value.none)
variable{i j:Nat}
theorem IY{xs ys:aJn}(h:xs[i]? =ys[j]?):aO xs i=aO ys j:=by unfold aO;rw[h]
variable{xs:aJn}
theorem gL(h:i<xs.size):xs[i]? =some (aO xs i):=by unfold aO;rw[getElem?_pos xs i h];rfl
def Seg(lt:aJl)(xs:aJn)(i j:Nat):Prop:=∀p q,i<=p->p<=q->q<j->lt (aO xs q) (aO xs p)=false
def TQ(lt:aJl)(xs:aJn)(i j:Nat):Prop:=∀p q,i<=p->p<=q->q<j->lt (aO xs p) (aO xs q)=false
structure Base(κ:SortKind)(a₀:aJn)(st:SortSt):Prop where
 perm:(arrOf st).Perm a₀
 kind:kindOf st=κ
 JJ:failedOf st=none
variable{κ:SortKind}{st:SortSt}
theorem Base.size{a₀:aJn}(h:Base κ a₀ st):(arrOf st).size=a₀.size:=h.perm.size_eq
theorem Base.arr{a₀:aJn}(h:Base κ a₀ st)(p:xs.Perm (arrOf st)):Base κ a₀ (setArr st xs):=⟨p.trans h.perm,h.kind,h.JJ⟩
theorem Base.mem{a₀:aJn}(h:Base κ a₀ st)(hi:i<a₀.size):aO (arrOf st) i∈a₀.toList:=by
 have hz:i<(arrOf st).size:=by rw[h.size];exact hi
 have e:=gL hz;have:aO (arrOf st) i∈arrOf st:=Array.mem_of_getElem? e;exact(Array.perm_iff_toList_perm.mp h.perm).mem_iff.mp this.val
def m8(prog:Program)(w:World)(A:Around)(s:Shared)(κ:SortKind)(lt:aJl)(a₀:aJn):Prop:=
 ∀x y,x∈a₀.toList->y∈a₀.toList->∀Q:Bool->Shared->Prop,Q (lt x y) s->wpAny (model prog w) A (keyLt' κ x.1 y.1) Q (λ_ _=>False) s
section
variable {prog:Program}{w:World}{A:Around}{E:aJk}{s:Shared}{a₀:aJn}{κ:SortKind}{lt:aJl}
variable{Q:Option Bool->SortSt->Prop}
theorem Z3{x y:Keyed}(C:m8 prog w A s κ lt a₀)(c:kindOf st=κ)(d:x∈a₀.toList)(f:y∈a₀.toList)(h:Q (some (lt x y)) st):wpS (model prog w) A E s (lt' x y) Q st:=by
 rw[lt'_eq];refine aG1 (wpS_get ?_);rw[c];refine aG1 (wpS_lift (aHb (aGi (C x y d f (λb a =>b=lt x y/\a =s) ⟨rfl,rfl⟩) (λb a hb=>?_) λ_ _ e=>e.elim)));obtain⟨rfl,rfl⟩:=hb;exact⟨rfl,aG4 h⟩
theorem c8{arr:aJn}{Q:Keyed->SortSt->Prop}(hi:i<arr.size)(h:Q (aO arr i) st):wpS (model prog w) A E s (elem' arr i) Q st:=by
 rw[elem'_eq,gL hi];exact aG4 h
theorem BE(C:m8 prog w A s κ lt a₀)(a:Base κ a₀ st)(hi:i<a₀.size)(b:j<a₀.size)(h:Q (some (lt (aO (arrOf st) i) (aO (arrOf st) j))) st):
  wpS (model prog w) A E s (ltAt' i j) Q st:=by
 rw[ltAt'_eq];refine aG1 (wpS_get ?_);have z:=a.size;exact aG1 (c8 (by rw[z];exact hi) (aG1 (c8 (by rw[z];exact b) (Z3 C a.kind (a.mem hi) (a.mem b) h))))
theorem oH{src d:Nat}(a:src<xs.size)(hd:d<=src)(k:Nat):aO (bubble xs src d) k=if k=src-d then aO xs src else if src-d<k/\k<=src then aO xs (k-1) else aO xs k:=by
 have e:=getElem?_bubble a d hd k;unfold aO;rw[e]
 repeat' split
 all_goals rfl
theorem hG(a:j<=xs.size)(k:Nat):aO (mirror xs i j ((j-i) / 2)) k=if i<=k/\k<j then aO xs (i+j-1-k) else aO xs k:=by
 have e:=getElem?_mirror_all (i:=i) a k;unfold aO;rw[e];split <;> rfl
theorem O9(O:Wk lt)(C:m8 prog w A s κ lt a₀){lo n ok:Nat}{Q:Bool->SortSt->Prop}(J:lo+n<=a₀.size)(bY:ok<=n)(L:Base κ a₀ st)(M:Seg lt (arrOf st) lo (lo+ok))
  (h:∀a,Base κ a₀ a ->Seg lt (arrOf a) lo (lo+n)->(∀k,k<lo->aO (arrOf a) k=aO (arrOf st) k)->pendingOf a =pendingOf st->Q true a):wpS (model prog w) A E s (binarySort' lo n ok) Q st:=by
 rw[binarySort'_eq]
 refine aG1 (aHn (aHc (I:=λk c a =>c=(none,())/\Base κ a₀ a /\Seg lt (arrOf a) lo (lo+min k n)/\(∀k,k<lo->aO (arrOf a) k=aO (arrOf st) k)/\pendingOf a =pendingOf st)
  (Q:=λc a =>c=(none,())/\Base κ a₀ a /\Seg lt (arrOf a) lo (lo+n)/\(∀k,k<lo->aO (arrOf a) k=aO (arrOf st) k)/\pendingOf a =pendingOf st) ?step ?fin ?init) ?post)
 case post=>
  rintro c a ⟨rfl,e,d,o,t⟩;exact aG4 (h a e d o t)
 case init=>
  refine⟨rfl,L,λp q B u K=>?_,λ_ _=>rfl,rfl⟩;by_cases z:p=q
  ·subst z;exact O.JA _
  ·exact M p q B u (by lia)
 case fin=>
  rintro c a ⟨N,e,d,r⟩;refine⟨N,e,?_,r⟩
  rwa [show min (max (max ok 1) n) n=n by (clear r bY J;lia)]at d
 case step=>
  rintro k c a D F ⟨rfl,e,d,o,t⟩;rw[show min k n=k by lia]at d;have G:lo+k<a₀.size:=by lia
  refine aG1 (aHn (aHc (I:=λx c b =>b =a /\∃l r,c=(none,l,r)/\l<=r/\r<=k/\r-l<=k-x/\
    (∀i,i<l->lt (aO (arrOf a) (lo+k)) (aO (arrOf a) (lo+i))=false)/\(∀i,r<=i->i<k->lt (aO (arrOf a) (lo+k)) (aO (arrOf a) (lo+i))=true))
   (Q:=λc b =>b =a /\∃l r,c=(none,l,r)/\l<=k/\
    (∀i,i<l->lt (aO (arrOf a) (lo+k)) (aO (arrOf a) (lo+i))=false)/\(∀i,l<=i->i<k->lt (aO (arrOf a) (lo+k)) (aO (arrOf a) (lo+i))=true)) ?istep ?ifin ?iinit) ?ipost)
  case iinit=>exact⟨rfl,0,k,rfl,by lia,by lia,by lia,λi hi=>by lia,λi z P=>by lia⟩
  case ifin=>
   rintro c b ⟨rfl,l,r,rfl,H,v,R,f,g⟩;obtain rfl:l=r:=by lia
   exact⟨rfl,l,l,rfl,v,f,g⟩
  case istep=>
   rintro x c b _ S ⟨rfl,l,r,rfl,H,v,R,f,g⟩;dsimp only;by_cases y:l>=r
   ·rw[if_pos y];obtain rfl:l=r:=by lia
    exact aG4 ⟨rfl,l,l,rfl,v,f,g⟩
   ·rw[if_neg y];refine aG1 (BE C e G (by lia) ?_)
    cases hless:lt (aO (arrOf b) (lo+k)) (aO (arrOf b) (lo+(l+r) / 2)) with
    | true=>
     simp only[if_true];refine aG4 ⟨rfl,l,(l+r) / 2,rfl,by lia,by lia,by lia,f,λi z P=>?_⟩
     cases hx:lt (aO (arrOf b) (lo+k)) (aO (arrOf b) (lo+i)) with
     | true=>rfl
     | false=>rw[O.tr _ _ _ (d (lo+(l+r) / 2) (lo+i) (by lia) (by lia) (by lia)) hx]at hless;cases hless
    | false=>
     simp only[Bool.false_eq_true,if_false];refine aG4 ⟨rfl,(l+r) / 2+1,r,rfl,by lia,by lia,by lia,λi z=>?_,g⟩;exact O.tr _ _ _ (d (lo+i) (lo+(l+r) / 2) (by lia) (by lia) (by lia)) hless
  case ipost=>
   rintro c b ⟨rfl,l,r,rfl,T,f,g⟩;show wpS _ _ _ _ (do moveDown' (lo+k) (lo+l);pure (ForInStep.yield (none,()))) _ _;rw[moveDown'_eq];have m:lo+k<(arrOf b).size:=by rw[e.size];exact G
   have U:lo+k-(lo+l)=k-l:=by lia
   refine aG1 (aJ0 (aG4 ⟨rfl,e.arr (bubble_perm _ _ _),?_,λj V=>?_,t⟩))
   ·rw[show min (k+1) n=k+1 by lia];intro p q B u K;show lt (aO (bubble (arrOf b) (lo+k) (lo+k-(lo+l))) q) (aO (bubble (arrOf b) (lo+k) (lo+k-(lo+l))) p)=false;rw[oH m (by lia),oH m (by lia),show lo+k-(lo+k-(lo+l))=lo+l by (clear K u B U m G F D bY J;lia)]
    repeat' split
    all_goals first
     | (exfalso;lia)
     | exact O.JA _
     | (have:=f (p-lo) (by lia);rwa [show lo+(p-lo)=p by lia]at this)
     | (have:=O.rE _ _ (g (q-1-lo) (by lia) (by lia));rwa [show lo+(q-1-lo)=q-1 by lia]at this)
     | exact d _ _ (by lia) (by lia) (by lia)
   ·show aO (bubble (arrOf b) (lo+k) (lo+k-(lo+l))) j=_;rw[oH m (by lia),if_neg (by lia),if_neg (by lia)];exact o j V
end
def upL(lo a d:Nat):StateT SortSt Sem (Option (Option Nat)×Nat):=
 forIn [a:d] ((none,a):Option (Option Nat)×Nat) λ_ c=>do
  let x<-ltAt' (lo+c.snd) (lo+c.snd-1)
  match x with
  | some b=>if b=true then pure (ForInStep.done (none,c.snd)) else pure (ForInStep.yield (none,c.snd+1))
  | _=>pure (ForInStep.done (some none,c.snd))
def CY(lo n a:Nat):StateT SortSt Sem (Option Nat):=do
 reverseSlice' lo (lo+n)
 let c<-upL lo n a
 match c.fst with
 | some r=>pure r
 | none=>pure (some c.snd)
def HH(lo n d:Nat):StateT SortSt Sem (Option (Option Nat)×Nat×Nat):=
 forIn [n:d] ((none,n,0):Option (Option Nat)×Nat×Nat) λ_ c=>do
  let x<-ltAt' (lo+c.snd.fst) (lo+c.snd.fst-1)
  match x with
  | some a=>
   if a=true then
    if c.snd.snd > 0 then do
     reverseSlice' (lo+c.snd.fst-(c.snd.snd+1)) (lo+c.snd.fst)
     pure (ForInStep.yield (none,c.snd.fst+1,0))
    else pure (ForInStep.yield (none,c.snd.fst+1,0))
   else do
    let y<-ltAt' (lo+c.snd.fst-1) (lo+c.snd.fst)
    match y with
    | some b=>if b=true then pure (ForInStep.done (none,c.snd.fst,c.snd.snd)) else pure (ForInStep.yield (none,c.snd.fst+1,c.snd.snd+1))
    | _=>pure (ForInStep.done (some none,c.snd.fst,c.snd.snd))
  | _=>pure (ForInStep.done (some none,c.snd.fst,c.snd.snd))
def DE(lo n a:Nat):StateT SortSt Sem (Option Nat):=do
 liftM (rule "list.sort.descending-run")
 let c<-HH lo (n+1) a
 match c.fst with
 | some r=>pure r
 | none=>
  if c.snd.snd > 0 then do
   reverseSlice' (lo+c.snd.fst-(c.snd.snd+1)) (lo+c.snd.fst)
   CY lo c.snd.fst a
  else CY lo c.snd.fst a
theorem JO(lo e:Nat):countRun' lo e=(do
  let c<-upL lo 1 e
  match c.fst with
  | some r=>pure r
  | none=>
   if (c.snd==e)=true then pure (some c.snd)
   else if c.snd > 1 then do
    let x<-ltAt' lo (lo+c.snd-1)
    match x with
    | some b=>if b=true then pure (some c.snd) else do
      reverseSlice' lo (lo+c.snd)
      DE lo c.snd e
    | _=>pure none
   else DE lo c.snd e):=by
 rw[countRun'_eq];dsimp only;unfold DE CY HH upL;congr 1;funext c;obtain⟨r,n⟩:=c
 cases r with
 | some r=>rfl
 | none=>
  dsimp only;have fin:∀(a:Option (Option Nat)×Nat),(match a.fst with | some r=>(pure r:StateT SortSt Sem (Option Nat)) | none=>pure (some a.snd))=(match a.fst with | some r=>pure r | none=>pure (some a.snd)):=λ_=>rfl;split
  ·rfl
  ·split
   ·congr 1;funext x
    cases x with
    | none=>rfl
    | some b=>
     dsimp only;split
     ·rfl
     ·congr 1;funext u;congr 1;funext u1;congr 1;congr 1;funext c2;obtain⟨f,h,i⟩:=c2
      cases f with
      | some f=>rfl
      | none=>
       dsimp only;split
       ·congr 1;funext v;congr 1;funext v1;congr 1;funext a;obtain⟨d,g⟩:=a;cases d <;> rfl
       ·congr 1;funext v1;congr 1;funext a;obtain⟨d,g⟩:=a;cases d <;> rfl
   ·congr 1;funext u1;congr 1;congr 1;funext c2;obtain⟨f,h,i⟩:=c2
    cases f with
    | some f=>rfl
    | none=>
     dsimp only;split
     ·congr 1;funext v;congr 1;funext v1;congr 1;funext a;obtain⟨d,g⟩:=a;cases d <;> rfl
     ·congr 1;funext v1;congr 1;funext a;obtain⟨d,g⟩:=a;cases d <;> rfl
section
variable {prog:Program}{w:World}{A:Around}{E:aJk}{s:Shared}{a₀:aJn}{κ:SortKind}{lt:aJl}
theorem O6{Q:Unit->SortSt->Prop}(h:Q () (setArr st (mirror (arrOf st) i j ((j-i) / 2)))):wpS (model prog w) A E s (reverseSlice' i j) Q st:=by
 rw[reverseSlice'_eq];exact aJ0 h
def jM(lo:Nat)(st a :SortSt):Prop:=(∀k,k<lo->aO (arrOf a) k=aO (arrOf st) k)/\pendingOf a =pendingOf st
variable{lo:Nat}
theorem jM.refl:jM lo st st:=⟨λ_ _=>rfl,rfl⟩
theorem jM.trans{a b c:SortSt}(h:jM lo a b)(h' :jM lo b c):jM lo a c:=⟨λk d=>(h'.1 k d).trans (h.1 k d),h'.2.trans h.2⟩
theorem jM.mirror(hi:lo<=i)(a:j<=(arrOf st).size):jM lo st (setArr st (PyProof.Rows.mirror (arrOf st) i j ((j-i) / 2))):=
 ⟨λk b=>by show aO (PyProof.Rows.mirror (arrOf st) i j ((j-i) / 2)) k=_;rw[hG a,if_neg (by lia)],rfl⟩
theorem wup(O:Wk lt)(C:m8 prog w A s κ lt a₀){lo a e:Nat}{Q:Option (Option Nat)×Nat->SortSt->Prop}(t:lo+e<=a₀.size)(ha:1<=a)(f:a<=e)(m:Base κ a₀ st)(o:Seg lt (arrOf st) lo (lo+a))
  (h:∀n,a<=n->n<=e->Seg lt (arrOf st) lo (lo+n)->(n=e\/lt (aO (arrOf st) (lo+n)) (aO (arrOf st) (lo+n-1))=true)->Q (none,n) st):wpS (model prog w) A E s (upL lo a e) Q st:=by
 unfold upL;refine aHc (I:=λx c d =>d =st/\c=(none,x)/\Seg lt (arrOf st) lo (lo+x)) ?step ?fin ⟨rfl,rfl,o⟩
 case fin=>
  rintro c d ⟨rfl,rfl,b⟩;rw[show max a e=e by lia]at b ⊢;exact h e f (aFw _) b (.inl rfl)
 case step=>
  rintro x c d g r ⟨rfl,rfl,b⟩;dsimp only;refine aG1 (BE C m (by lia) (by lia) ?_)
  cases hless:lt (aO (arrOf d) (lo+x)) (aO (arrOf d) (lo+x-1)) with
  | true=>
   simp only[if_true];exact aG4 (h x g (by lia) b (.inr hless))
  | false=>
   simp only[Bool.false_eq_true,if_false];refine aG4 ⟨rfl,rfl,λp q l i u=>?_⟩;by_cases j:q<lo+x
   ·exact b p q l i j
   ·obtain rfl:q=lo+x:=by lia
    by_cases k :p=lo+x
    ·subst k;exact O.JA _
    ·exact O.tr _ _ _ (b p (lo+x-1) l (by lia) (by lia)) hless
variable{n b6:Nat}{Q:Option Nat->SortSt->Prop}
theorem TV(O:Wk lt)(C:m8 prog w A s κ lt a₀)(g:lo+b6<=a₀.size)(i:1<=n)(c:n<=b6)(f:Base κ a₀ st)(j:TQ lt (arrOf st) lo (lo+n))
  (h:∀m a,Base κ a₀ a ->1<=m->m<=b6->Seg lt (arrOf a) lo (lo+m)->jM lo st a ->Q (some m) a):wpS (model prog w) A E s (CY lo n b6) Q st:=by
 unfold CY;have hsz:lo+n<=(arrOf st).size:=by rw[f.size];lia
 refine aG1 (O6 ?_);have b :Base κ a₀ (setArr st (mirror (arrOf st) lo (lo+n) ((lo+n-lo) / 2))):=f.arr (mirror_perm _ _ _ _);refine aG1 (wup O C g i c b ?_ λm k d e _=>aG4 (h m _ b (by lia) d e (jM.mirror (aFw _) hsz)));intro p q o l r;show lt (aO (mirror (arrOf st) lo (lo+n) ((lo+n-lo) / 2)) q) (aO (mirror (arrOf st) lo (lo+n) ((lo+n-lo) / 2)) p)=false;rw[hG hsz,hG hsz,if_pos (by lia),if_pos (by lia)];exact j _ _ (by lia) (by lia) (by lia)
def Alike(lt:aJl)(xs:aJn)(i j:Nat):Prop:=∀p q,i<=p->p<j->i<=q->q<j->lt (aO xs p) (aO xs q)=false
theorem oK(O:Wk lt)(d:j<=xs.size)(he:Alike lt xs i j)(b:TQ lt xs lo n)(hi:lo<=i)(h:j<=n):TQ lt (mirror xs i j ((j-i) / 2)) lo n:=by
 intro p q e c f;rw[hG d,hG d];by_cases g:i<=p/\p<j
 ·rw[if_pos g];by_cases a:i<=q/\q<j
  ·rw[if_pos a];exact he _ _ (by lia) (by lia) (by lia) (by lia)
  ·rw[if_neg a];exact b _ _ (by lia) (by lia) f
 ·rw[if_neg g];by_cases a:i<=q/\q<j
  ·rw[if_pos a];exact b _ _ e (by lia) (by lia)
  ·rw[if_neg a];exact b _ _ e c f
theorem aA0(O:Wk lt)(C:m8 prog w A s κ lt a₀){Q:Option (Option Nat)×Nat×Nat->SortSt->Prop}(J:lo+b6<=a₀.size)(t:1<=n)(u:n<=b6)(z:Base κ a₀ st)(B:TQ lt (arrOf st) lo (lo+n))
  (h:∀m b a,Base κ a₀ a ->n<=m->m<=b6->TQ lt (arrOf a) lo (lo+m)->b+1<=m->Alike lt (arrOf a) (lo+m-(b+1)) (lo+m)->jM lo st a ->Q (none,m,b) a):wpS (model prog w) A E s (HH lo n b6) Q st:=by
 unfold HH
 have one:∀(xs:aJn) (x:Nat),1<=x->Alike lt xs (lo+x-(0+1)) (lo+x):=λxs x K p q t D F G=>by
  obtain rfl:p=q:=by lia
  exact O.JA _
 refine aHc (I:=λx c a =>∃b,c=(none,x,b)/\Base κ a₀ a /\TQ lt (arrOf a) lo (lo+x)/\b+1<=x/\Alike lt (arrOf a) (lo+x-(b+1)) (lo+x)/\jM lo st a) ?step ?fin ⟨0,rfl,z,B,by lia,one _ _ t,jM.refl⟩
 case fin=>
  rintro c a ⟨b,rfl,d,e,l,he,o⟩;rw[show max n b6=b6 by lia]at e l he⊢;exact h b6 b a d u (aFw _) e l he o
 case step=>
  rintro x c a v H ⟨b,rfl,d,e,l,he,o⟩;dsimp only;have hsz:lo+x<=(arrOf a).size:=by rw[d.size];lia
  refine aG1 (BE C d (by lia) (by lia) ?_)
  cases hless:lt (aO (arrOf a) (lo+x)) (aO (arrOf a) (lo+x-1)) with
  | true=>
   simp only[if_true]
   have g:TQ lt (arrOf a) lo (lo+x+1):=by
    intro p q r j l;by_cases f:q<lo+x
    ·exact e p q r j f
    ·obtain rfl:q=lo+x:=by lia
     by_cases k :p=lo+x
     ·subst k;exact O.JA _
     ·exact O.tr _ _ _ (O.rE _ _ hless) (e p (lo+x-1) r (by lia) (by lia))
   by_cases i:b > 0
   ·rw[if_pos i];refine aG1 (O6 (aG4 ⟨0,rfl,d.arr (mirror_perm _ _ _ _),?_,by lia,one _ _ (by lia),o.trans (jM.mirror (by lia) hsz)⟩));exact oK O hsz he g (by lia) (by lia)
   ·rw[if_neg i];exact aG4 ⟨0,rfl,d,g,by lia,one _ _ (by lia),o⟩
  | false=>
   simp only[Bool.false_eq_true,if_false];refine aG1 (BE C d (by lia) (by lia) ?_)
   cases hlarger:lt (aO (arrOf a) (lo+x-1)) (aO (arrOf a) (lo+x)) with
   | true=>
    simp only[if_true];exact aG4 (h x b a d v (by lia) e l he o)
   | false=>
    simp only[Bool.false_eq_true,if_false];refine aG4 ⟨b+1,rfl,d,λp q r j l=>?_,by lia,λp q t D F G=>?_,o⟩
    ·by_cases f:q<lo+x
     ·exact e p q r j f
     ·obtain rfl:q=lo+x:=by lia
      by_cases k :p=lo+x
      ·subst k;exact O.JA _
      ·exact O.tr _ _ _ hlarger (e p (lo+x-1) r (by lia) (by lia))
    ·by_cases y:p=lo+x
     ·subst y;by_cases f:q=lo+x
      ·subst f;exact O.JA _
      ·exact O.tr _ _ _ (he (lo+x-1) q (by lia) (by lia) (by lia) (by lia)) hless
     ·by_cases f:q=lo+x
      ·subst f;exact O.tr _ _ _ hlarger (he p (lo+x-1) (by lia) (by lia) (by lia) (by lia))
      ·exact he p q (by lia) (by lia) (by lia) (by lia)
theorem TY(O:Wk lt)(C:m8 prog w A s κ lt a₀)(g:lo+b6<=a₀.size)(i:n+1<=b6)(t:Base κ a₀ st)(u:TQ lt (arrOf st) lo (lo+(n+1)))
  (h:∀m a,Base κ a₀ a ->1<=m->m<=b6->Seg lt (arrOf a) lo (lo+m)->jM lo st a ->Q (some m) a):wpS (model prog w) A E s (DE lo n b6) Q st:=by
 unfold DE;refine aG1 (wpS_lift (aGx ⟨rfl,?_⟩));refine aG1 (aA0 O C g (by lia) i t u λm j a c v e f x he r=>?_);dsimp only;have hsz:lo+m<=(arrOf a).size:=by rw[c.size];lia
 by_cases b:j > 0
 ·rw[if_pos b];refine aG1 (O6 (TV O C g (by lia) e (c.arr (mirror_perm _ _ _ _)) ?_ λm d k l o p q=>h m d k l o p (r.trans ((jM.mirror (by lia) hsz).trans q))));exact oK O hsz he f (by lia) (aFw _)
 ·rw[if_neg b];exact TV O C g (by lia) e c f λm d k l o p q=>h m d k l o p (r.trans q)
theorem UP(O:Wk lt)(C:m8 prog w A s κ lt a₀)(l:lo+b6<=a₀.size)(x:1<=b6)(d:Base κ a₀ st)
  (h:∀m b,Base κ a₀ b ->1<=m->m<=b6->Seg lt (arrOf b) lo (lo+m)->jM lo st b ->Q (some m) b):wpS (model prog w) A E s (countRun' lo b6) Q st:=by
 rw[JO]
 refine aG1 (wup O C l (aFw 1) x d (λp q x K L=>by
  obtain rfl:p=q:=by lia
  exact O.JA _) λn g i c o=>?_)
 dsimp only;by_cases e:n=b6
 ·rw[if_pos (by simpa using e)];exact aG4 (h n st d g i c jM.refl)
 ·rw[if_neg (by simpa using e)];have j:lt (aO (arrOf st) (lo+n)) (aO (arrOf st) (lo+n-1))=true:=o.resolve_left e;by_cases k:n > 1
  ·rw[if_pos k];refine aG1 (BE C d (by lia) (by lia) ?_)
   cases hrose:lt (aO (arrOf st) lo) (aO (arrOf st) (lo+n-1)) with
   | true=>
    simp only[if_true];exact aG4 (h n st d g i c jM.refl)
   | false=>
    simp only[Bool.false_eq_true,if_false];have hsz:lo+n<=(arrOf st).size:=by rw[d.size];lia
    have a:Alike lt (arrOf st) lo (lo+n):=λp q M N y P=>by
     have z:=c lo p (aFw _) (by lia) (by lia);have B:=c q (lo+n-1) y (by lia) (by lia);exact O.tr _ _ _ (O.tr _ _ _ B hrose) z
    have hd:TQ lt (arrOf st) lo (lo+(n+1)):=λp q r t D=>by
     by_cases u:q<lo+n
     ·exact a p q r (by lia) (by lia) u
     ·obtain rfl:q=lo+n:=by lia
      by_cases f :p=lo+n
      ·subst f;exact O.JA _
      ·exact O.tr _ _ _ (O.rE _ _ j) (a p (lo+n-1) r (by lia) (by lia) (by lia))
    refine aG1 (O6 (TY O C l (by lia) (d.arr (mirror_perm _ _ _ _)) ?_ λm v F G H I J=>h m v F G H I ((jM.mirror (aFw _) hsz).trans J)));exact oK O hsz a hd (aFw _) (by lia)
  ·rw[if_neg k];obtain rfl:n=1:=by lia
   refine TY O C l (by lia) d (λp q r t D=>?_) h;by_cases f :p=q
   ·subst f;exact O.JA _
   ·obtain rfl:p=lo:=by lia
    obtain rfl:q=p+1:=by lia
    exact O.rE _ _ j
end
def dX:Bool->Keyed->Array Keyed->Nat->Nat->Nat->StateT SortSt Sem (Option Nat):=sortPriv% PySem.Builtin.gallop
def j9(left:Bool)(key:Keyed)(arr:aJn)(base i:Nat):StateT SortSt Sem (Option Bool):=do
 let x<-elem' arr (base+i)
 if left then lt' x key else return (<-lt' key x).map (!·)
theorem FL(left:Bool)(key:Keyed)(arr:aJn)(base n a:Nat):dX left key arr base n a=(do
 let mut lastofs:=0;let mut ofs:=1;let mut lo:=0;let mut hi:=0
 let some right<-j9 left key arr base a | return none
 if right then
  let maxofs:=n-a
  for _ in [0:n] do
   if ofs>=maxofs then break
   let some more<-j9 left key arr base (a+ofs) | return none
   if !more then break
   lastofs:=ofs;ofs:=2*ofs+1
  lo:=a+lastofs+1;hi:=a+min ofs maxofs
 else
  let maxofs:=a+1
  for _ in [0:n] do
   if ofs>=maxofs then break
   let some found<-j9 left key arr base (a-ofs) | return none
   if found then break
   lastofs:=ofs;ofs:=2*ofs+1
  lo:=a+1-min ofs maxofs;hi:=a-lastofs
 for _ in [0:n] do
  if lo>=hi then break
  let m:=lo+(hi-lo) / 2
  let some more<-j9 left key arr base m | return none
  if more then lo:=m+1 else hi:=m
 return some hi):=rfl
section
variable {prog:Program}{w:World}{A:Around}{E:aJk}{s:Shared}{a₀:aJn}{κ:SortKind}{lt:aJl}
def kA(lt:aJl)(left:Bool)(key:Keyed)(arr:aJn)(base i:Nat):Bool:=if left then lt (aO arr (base+i)) key else !(lt key (aO arr (base+i)))
variable{key:Keyed}{base:Nat}
theorem sL(C:m8 prog w A s κ lt a₀){left:Bool}{arr:aJn}{Q:Option Bool->SortSt->Prop}(a:kindOf st=κ)(hi:base+i<arr.size)(b:aO arr (base+i)∈a₀.toList)(c:key∈a₀.toList)
  (h:Q (some (kA lt left key arr base i)) st):wpS (model prog w) A E s (j9 left key arr base i) Q st:=by
 unfold j9;refine aG1 (c8 hi ?_)
 cases left with
 | true=>
  simp only[if_true];exact Z3 C a b c h
 | false=>
  simp only[Bool.false_eq_true,if_false];exact aG1 (Z3 C a c b (aG4 h))
variable{n:Nat}
theorem qD(O:Wk lt){left:Bool}{arr:aJn}(a:Seg lt arr base (base+n))(b:i<=j)(c:j<n)(h:kA lt left key arr base j=true):kA lt left key arr base i=true:=by
 have e:=a (base+i) (base+j) (by lia) (by lia) (by lia);unfold kA at h⊢
 cases left with
 | true=>
  simp only[if_true]at h⊢
  cases hx:lt (aO arr (base+i)) key with
  | true=>rfl
  | false=>rw[O.tr _ _ _ hx e]at h;cases h
 | false=>
  simp only[Bool.false_eq_true,if_false]at h⊢;have h' :lt key (aO arr (base+j))=false:=by simpa using h
  rw[O.tr _ _ _ e h'];rfl
theorem rC(O:Wk lt){left:Bool}{arr:aJn}(b:Seg lt arr base (base+n))(a:i<=j)(c:j<n)(h:kA lt left key arr base i=false):kA lt left key arr base j=false:=by
 cases hx:kA lt left key arr base j with
 | false=>rfl
 | true=>rw[qD O b a c hx]at h;cases h
def S7(left:Bool)(key:Keyed)(arr:aJn)(base n lo0 hi0:Nat):StateT SortSt Sem (Option Nat):=do
 let mut lo:=lo0;let mut hi:=hi0
 for _ in [0:n] do
  if lo>=hi then break
  let m:=lo+(hi-lo) / 2
  let some more<-j9 left key arr base m | return none
  if more then lo:=m+1 else hi:=m
 return some hi
variable{Q:Option Nat->SortSt->Prop}
theorem aA1(O:Wk lt)(C:m8 prog w A s κ lt a₀){left:Bool}{arr:aJn}{base n lo hi:Nat}(v:kindOf st=κ)(hb:base+n<=arr.size)(u:Seg lt arr base (base+n))
  (y:∀i,i<n->aO arr (base+i)∈a₀.toList) (z:key∈a₀.toList) (b:lo<=hi) (d:hi<=n) (p:∀i,i<lo->kA lt left key arr base i=true) (q:∀i,hi<=i->i<n->kA lt left key arr base i=false)
  (h:∀k,k<=n->(∀i,i<k->kA lt left key arr base i=true)->(∀i,k<=i->i<n->kA lt left key arr base i=false)->Q (some k) st):wpS (model prog w) A E s (S7 left key arr base n lo hi) Q st:=by
 unfold S7;dsimp only
 refine aG1 (aHn (aHc (I:=λx c a =>a =st/\∃l r,c=(none,l,r)/\l<=r/\r<=n/\r-l<=n-x/\(∀i,i<l->kA lt left key arr base i=true)/\(∀i,r<=i->i<n->kA lt left key arr base i=false))
  (Q:=λc a =>a =st/\∃r,c=(none,r,r)/\r<=n/\(∀i,i<r->kA lt left key arr base i=true)/\(∀i,r<=i->i<n->kA lt left key arr base i=false)) ?step ?fin ⟨rfl,lo,hi,rfl,b,d,by lia,p,q⟩) ?post)
 case post=>
  rintro c a ⟨rfl,r,rfl,f,e,g⟩;exact aG4 (h r f e g)
 case fin=>
  rintro c a ⟨rfl,l,r,rfl,f,e,g,m,o⟩;obtain rfl:l=r:=by lia
  exact⟨rfl,l,rfl,e,m,o⟩
 case step=>
  rintro x c a _ t ⟨rfl,l,r,rfl,f,e,g,m,o⟩;dsimp only;by_cases j:l>=r
  ·rw[if_pos j];obtain rfl:l=r:=by lia
   exact aG4 ⟨rfl,l,rfl,e,m,o⟩
  ·rw[if_neg j];refine aG1 (sL C v (by (clear g f t d b;lia)) (y _ (by (clear g f t d b hb;lia))) z ?_)
   cases hb' :kA lt left key arr base (l+(r-l) / 2) with
   | true=>
    simp only[if_true];exact aG4 ⟨rfl,_,r,rfl,by (clear g e f t d b hb;lia),e,by lia,λi hi=>qD O u (by lia) (by lia) hb',o⟩
   | false=>
    simp only[Bool.false_eq_true,if_false];exact aG4 ⟨rfl,l,_,rfl,by lia,by lia,by lia,m,λi B D=>rC O u B D hb'⟩
theorem mL(O:Wk lt)(C:m8 prog w A s κ lt a₀){left:Bool}{arr:aJn}{base n b:Nat}(r:kindOf st=κ)(hb:base+n<=arr.size)(v:b<n)(q:Seg lt arr base (base+n))
  (t:∀i,i<n->aO arr (base+i)∈a₀.toList) (u:key∈a₀.toList)
  (h:∀k,k<=n->(∀i,i<k->kA lt left key arr base i=true)->(∀i,k<=i->i<n->kA lt left key arr base i=false)->Q (some k) st):wpS (model prog w) A E s (dX left key arr base n b) Q st:=by
 rw[FL];refine aG1 (sL C r (by lia) (t b v) u ?_);dsimp only
 cases hr:kA lt left key arr base b with
 | true=>
  simp only[if_true]
  refine aG1 (aHn (aHc (I:=λx c e =>e =st/\∃a d,c=(none,a,d)/\a<d/\x+1<=d/\b+a<n/\kA lt left key arr base (b+a)=true)
   (Q:=λc e =>e =st/\∃a d,c=(none,a,d)/\a<d/\b+a<n/\kA lt left key arr base (b+a)=true/\(n-b<=d\/(b+d<n/\kA lt left key arr base (b+d)=false))) ?step ?fin ⟨rfl,0,1,rfl,by lia,by lia,by lia,by simpa using hr⟩) ?post)
  case fin=>
   rintro c e ⟨rfl,l,o,rfl,m,y,g,j⟩;exact⟨rfl,l,o,rfl,m,g,j,.inl (by lia)⟩
  case step=>
   rintro x c e _ F ⟨rfl,l,o,rfl,m,y,g,j⟩;dsimp only;by_cases f:o>=n-b
   ·rw[if_pos f];exact aG4 ⟨rfl,l,o,rfl,m,g,j,.inl f⟩
   ·rw[if_neg f];refine aG1 (sL C r (by lia) (t _ (by lia)) u ?_)
    cases hb' :kA lt left key arr base (b+o) with
    | true=>
     simp only[Bool.not_true,Bool.false_eq_true,if_false];exact aG4 ⟨rfl,o,_,rfl,by lia,by lia,by lia,hb'⟩
    | false=>
     simp only[Bool.not_false,if_true];exact aG4 ⟨rfl,l,o,rfl,m,g,j,.inr ⟨by lia,hb'⟩⟩
  case post=>
   rintro c e ⟨rfl,l,o,rfl,m,g,j,p⟩;dsimp only;show wpS _ _ _ _ (S7 left key arr base n (b+l+1) (b+min o (n-b))) _ _;refine aA1 (lo:=b+l+1) (hi:=b+min o (n-b)) O C r hb q t u (by (clear p v hb;lia)) (by (clear p g m hb;lia)) (λi hi=>qD O q (by lia) g j) (λi D z=>?_) h;rcases p with p | ⟨p,B⟩
   ·lia
   ·exact rC O q (by lia) z B
 | false=>
  simp only[Bool.false_eq_true,if_false]
  refine aG1 (aHn (aHc (I:=λx c e =>e =st/\∃a d,c=(none,a,d)/\a<d/\x+1<=d/\a<=b/\kA lt left key arr base (b-a)=false)
   (Q:=λc e =>e =st/\∃a d,c=(none,a,d)/\a<d/\a<=b/\kA lt left key arr base (b-a)=false/\(b+1<=d\/(d<=b/\kA lt left key arr base (b-d)=true))) ?step ?fin ⟨rfl,0,1,rfl,by lia,by lia,by lia,by simpa using hr⟩) ?post)
  case fin=>
   rintro c e ⟨rfl,l,o,rfl,m,y,g,j⟩;exact⟨rfl,l,o,rfl,m,g,j,.inl (by lia)⟩
  case step=>
   rintro x c e _ F ⟨rfl,l,o,rfl,m,y,g,j⟩;dsimp only;by_cases f:o>=b+1
   ·rw[if_pos f];exact aG4 ⟨rfl,l,o,rfl,m,g,j,.inl f⟩
   ·rw[if_neg f];refine aG1 (sL C r (by lia) (t _ (by lia)) u ?_)
    cases hb' :kA lt left key arr base (b-o) with
    | true=>
     simp only[if_true];exact aG4 ⟨rfl,l,o,rfl,m,g,j,.inr ⟨by lia,hb'⟩⟩
    | false=>
     simp only[Bool.false_eq_true,if_false];exact aG4 ⟨rfl,o,_,rfl,by lia,by lia,by lia,hb'⟩
  case post=>
   rintro c e ⟨rfl,l,o,rfl,m,g,j,p⟩;dsimp only;show wpS _ _ _ _ (S7 left key arr base n (b+1-min o (b+1)) (b-l)) _ _;refine aA1 (lo:=b+1-min o (b+1)) (hi:=b-l) O C r hb q t u (by (clear p g v hb;lia)) (by lia) (λi hi=>?_) (λi D z=>rC O q D z j) h;rcases p with p | ⟨p,B⟩
   ·lia
   ·exact qD O q (by lia) (by lia) B
end
structure Mg(lt:aJl)(all o p q:List Keyed):Prop where
 perm:(o++(p++q)).Perm all
 so:o.Pairwise λx y=>lt y x=false
 sp:p.Pairwise λx y=>lt y x=false
 sq:q.Pairwise λx y=>lt y x=false
 low:∀x∈o,∀y∈p++q,lt y x=false
theorem Mg.left{lt:aJl}{all o u p q:List Keyed}(M:Mg lt all o (u++p) q)(h:∀x∈u,∀y∈q,lt y x=false):Mg lt all (o++u) p q:=by
 have sp:=aG7.mp M.sp;refine⟨?_,aG7.mpr ⟨M.so,sp.1,λx hx y a=>M.low x hx y (by simp[a])⟩,sp.2.1,M.sq,λx hx y a=>?_⟩
 ·have:=M.perm;simpa[List.append_assoc] using this
 ·rcases aFv.mp hx with hx | hx
  ·exact M.low x hx y (by rcases aFv.mp a with z | z <;> simp[z])
  ·rcases aFv.mp a with z | z
   ·exact sp.2.2 x hx y z
   ·exact h x hx y z
theorem Mg.right{lt:aJl}{all o u p q:List Keyed}(M:Mg lt all o p (u++q))(h:∀x∈u,∀y∈p,lt y x=false):Mg lt all (o++u) p q:=by
 have sq:=aG7.mp M.sq;refine⟨?_,aG7.mpr ⟨M.so,sq.1,λx hx y a=>M.low x hx y (by simp[a])⟩,M.sp,sq.2.1,λx hx y a=>?_⟩
 ·refine List.Perm.trans ?_ M.perm;rw[List.append_assoc];refine aI3 o ?_;rw[<-List.append_assoc,<-List.append_assoc];exact aHz q aI4
 ·rcases aFv.mp hx with hx | hx
  ·exact M.low x hx y (by rcases aFv.mp a with z | z <;> simp[z])
  ·rcases aFv.mp a with z | z
   ·exact h x hx y z
   ·exact sq.2.2 x hx y z
def Good(lt:aJl)(all r:List Keyed):Prop:=r.Perm all/\r.Pairwise λx y=>lt y x=false
theorem Mg.fin{lt:aJl}{all o p q:List Keyed}(M:Mg lt all o p q)(h:p=[]\/q=[]):Good lt all (o++(p++q)):=by
 refine⟨M.perm,aG7.mpr ⟨M.so,?_,M.low⟩⟩;rcases h with rfl | rfl
 ·simpa using M.sq
 ·simpa using M.sp
variable{x:Keyed}
theorem Mg.aF9{lt:aJl}{all o q:List Keyed}(M:Mg lt all o [x] q)(h:∀y∈q,lt x y=false):Good lt all (o++(q++[x])):=by
 refine⟨(aI3 o aI4).trans M.perm,aG7.mpr ⟨M.so,aG7.mpr ⟨M.sq,by simp,λa ha b hb=>?_⟩,λa ha b hb=>M.low a ha b ?_⟩⟩
 ·have:b=x:=by simpa using hb
  rw[this];exact h a ha
 ·rcases aFv.mp hb with z | z <;> simp[z] <;> simp_all
def pX:Array Keyed->Array Keyed->StateT SortSt Sem (aJn):=sortPriv% PySem.Builtin.mergeLo
def fK(g:Nat):StateT SortSt Sem Unit:=modify λs=>SortSt.mk' (kindOf s) (arrOf s) (pendingOf s) g (failedOf s)
def eC(a b out:aJn)(ia ib:Nat):aJn:=out++a.extract ia a.size++b.extract ib b.size
def hV(a b out:aJn)(ia ib:Nat):aJn:=out++b.extract ib b.size++a.extract ia a.size
abbrev OX:=Option (aJn)×aJn×Nat×Nat×Nat×Nat×Nat
abbrev JY:=Option (aJn)×aJn×Nat×Nat×Nat×Nat
abbrev OL:=Option (aJn)×aJn×Nat×Nat×Nat
def lo4(a b:aJn)(mg c d:Nat)(out:aJn)(ia ib:Nat):StateT SortSt Sem (ForInStep OX):=do
 let y<-elem' a ia
 if (ia+1+1==a.size)=true then pure (.done (some (hV a b (out.push y) (ia+1) ib),out.push y,ia+1,ib,mg,c,d))
 else if (decide (c<7) && decide (d<7))=true then pure (.done (none,out.push y,ia+1,ib,mg,c,d)) else pure (.yield (none,out.push y,ia+1,ib,mg,c,d))
def lo3(a b:aJn)(mg c d:Nat)(out:aJn)(ia ib:Nat):StateT SortSt Sem (ForInStep OX):=do
 let x<-elem' a ia
 let r<-dX true x b ib (b.size-ib) 0
 match r with
 | some k=>if k > 0 then (if (ib+k==b.size)=true then pure (.done (some (eC a b (out++b.extract ib (ib+k)) ia (ib+k)),out++b.extract ib (ib+k),ia,ib+k,mg,c,k)) else lo4 a b mg c k (out++b.extract ib (ib+k)) ia (ib+k)) else lo4 a b mg c k out ia ib
 | _=>pure (.done (some (eC a b out ia ib),out,ia,ib,mg,c,d))
def lo2(a b:aJn)(mg c d:Nat)(out:aJn)(ia ib:Nat):StateT SortSt Sem (ForInStep OX):=do
 let y<-elem' b ib
 if (ib+1==b.size)=true then pure (.done (some (eC a b (out.push y) ia (ib+1)),out.push y,ia,ib+1,mg,c,d)) else lo3 a b mg c d (out.push y) ia (ib+1)
def lo1(a b:aJn)(mg d c:Nat)(out:aJn)(ia ib:Nat):StateT SortSt Sem (ForInStep OX):=do
 fK mg
 let x<-elem' b ib
 let r<-dX false x a ia (a.size-ia) 0
 match r with
 | some k=>if k > 0 then (if (ia+k+1==a.size)=true then pure (.done (some (hV a b (out++a.extract ia (ia+k)) (ia+k) ib),out++a.extract ia (ia+k),ia+k,ib,mg,k,c)) else
   if (ia+k==a.size)=true then pure (.done (some (eC a b (out++a.extract ia (ia+k)) (ia+k) ib),out++a.extract ia (ia+k),ia+k,ib,mg,k,c)) else lo2 a b mg k c (out++a.extract ia (ia+k)) (ia+k) ib) else lo2 a b mg k c out ia ib
 | _=>pure (.done (some (eC a b out ia ib),out,ia,ib,mg,d,c))
def loB(a b:aJn)(mg:Nat)(c:JY):StateT SortSt Sem (ForInStep JY):=do
 let y<-elem' b c.snd.snd.snd.fst
 if (c.snd.snd.snd.fst+1==b.size)=true then pure (.done (some (eC a b (c.snd.fst.push y) c.snd.snd.fst (c.snd.snd.snd.fst+1)),c.snd.fst.push y,c.snd.snd.fst,c.snd.snd.snd.fst+1,0,c.snd.snd.snd.snd.snd+1))
 else if c.snd.snd.snd.snd.snd+1>=mg then pure (.done (none,c.snd.fst.push y,c.snd.snd.fst,c.snd.snd.snd.fst+1,0,c.snd.snd.snd.snd.snd+1))
 else pure (.yield (none,c.snd.fst.push y,c.snd.snd.fst,c.snd.snd.snd.fst+1,0,c.snd.snd.snd.snd.snd+1))
def loA(a b:aJn)(mg:Nat)(c:JY):StateT SortSt Sem (ForInStep JY):=do
 let x<-elem' a c.snd.snd.fst
 if (c.snd.snd.fst+1+1==a.size)=true then pure (.done (some (hV a b (c.snd.fst.push x) (c.snd.snd.fst+1) c.snd.snd.snd.fst),c.snd.fst.push x,c.snd.snd.fst+1,c.snd.snd.snd.fst,c.snd.snd.snd.snd.fst+1,0))
 else if c.snd.snd.snd.snd.fst+1>=mg then pure (.done (none,c.snd.fst.push x,c.snd.snd.fst+1,c.snd.snd.snd.fst,c.snd.snd.snd.snd.fst+1,0))
 else pure (.yield (none,c.snd.fst.push x,c.snd.snd.fst+1,c.snd.snd.snd.fst,c.snd.snd.snd.snd.fst+1,0))
def lo0(a b:aJn)(mg:Nat)(c:JY):StateT SortSt Sem (ForInStep JY):=do
 let y<-elem' b c.snd.snd.snd.fst
 let x<-elem' a c.snd.snd.fst
 let r<-lt' y x
 match r with
 | some d=>if d=true then loB a b mg c else loA a b mg c
 | _=>pure (.done (some (eC a b c.snd.fst c.snd.snd.fst c.snd.snd.snd.fst),c.snd.fst,c.snd.snd.fst,c.snd.snd.snd.fst,c.snd.snd.snd.snd.fst,c.snd.snd.snd.snd.snd))
def FC(a b:aJn)(c:OL):StateT SortSt Sem (ForInStep OL):=do
 let d<-forIn [:a.size+b.size] ((none,c.snd.fst,c.snd.snd.fst,c.snd.snd.snd.fst,0,0):JY) λ_ d=>lo0 a b c.snd.snd.snd.snd d
 match d.fst with
 | some r=>pure (.done (some r,d.snd.fst,d.snd.snd.fst,d.snd.snd.snd.fst,c.snd.snd.snd.snd))
 | none=>do
  liftM (rule "list.sort.gallop")
  let e<-forIn [:a.size+b.size] ((none,d.snd.fst,d.snd.snd.fst,d.snd.snd.snd.fst,c.snd.snd.snd.snd+1,d.snd.snd.snd.snd.fst,d.snd.snd.snd.snd.snd):OX) λ_ e=>
   if e.snd.snd.snd.snd.fst > 1 then lo1 a b (e.snd.snd.snd.snd.fst-1) e.snd.snd.snd.snd.snd.fst e.snd.snd.snd.snd.snd.snd e.snd.fst e.snd.snd.fst e.snd.snd.snd.fst else lo1 a b e.snd.snd.snd.snd.fst e.snd.snd.snd.snd.snd.fst e.snd.snd.snd.snd.snd.snd e.snd.fst e.snd.snd.fst e.snd.snd.snd.fst
  match e.fst with
  | some r=>pure (.done (some r,e.snd.fst,e.snd.snd.fst,e.snd.snd.snd.fst,e.snd.snd.snd.snd.fst))
  | none=>do
   fK (e.snd.snd.snd.snd.fst+1)
   pure (.yield (none,e.snd.fst,e.snd.snd.fst,e.snd.snd.snd.fst,e.snd.snd.snd.snd.fst+1))
theorem CO(a b:aJn):pX a b=(do
 rule "list.sort.merge-lo"
 let total:=a.size+b.size;let mut out:aJn:= #[<-elem' b 0];let mut ia:=0;let mut ib:=1
 if ib==b.size then return eC a b out ia ib
 if ia+1==a.size then return hV a b out ia ib
 let mut minGallop:=gallopOf (<-get)
 for _ in [0:total] do
  let mut acount:=0;let mut bcount:=0
  for _ in [0:total] do
   let some bWins<-lt' (<-elem' b ib) (<-elem' a ia) | return eC a b out ia ib
   if bWins then
    out:=out.push (<-elem' b ib);ib:=ib+1;bcount:=bcount+1;acount:=0
    if ib==b.size then return eC a b out ia ib
    if bcount>=minGallop then break
   else
    out:=out.push (<-elem' a ia);ia:=ia+1;acount:=acount+1;bcount:=0
    if ia+1==a.size then return hV a b out ia ib
    if acount>=minGallop then break
  rule "list.sort.gallop"
  minGallop:=minGallop+1
  for _ in [0:total] do
   if minGallop > 1 then minGallop:=minGallop-1
   fK minGallop
   let some k<-dX false (<-elem' b ib) a ia (a.size-ia) 0 | return eC a b out ia ib
   acount:=k
   if k > 0 then
    out:=out++a.extract ia (ia+k);ia:=ia+k
    if ia+1==a.size then return hV a b out ia ib
    if ia==a.size then return eC a b out ia ib
   out:=out.push (<-elem' b ib);ib:=ib+1
   if ib==b.size then return eC a b out ia ib
   let some k<-dX true (<-elem' a ia) b ib (b.size-ib) 0 | return eC a b out ia ib
   bcount:=k
   if k > 0 then
    out:=out++b.extract ib (ib+k);ib:=ib+k
    if ib==b.size then return eC a b out ia ib
   out:=out.push (<-elem' a ia);ia:=ia+1
   if ia+1==a.size then return hV a b out ia ib
   if acount<7 && bcount<7 then break
  minGallop:=minGallop+1
  fK minGallop
 unsupported "internal:list.sort.merge-bound"):=rfl
theorem CN(a b:aJn):pX a b=(do
 liftM (rule "list.sort.merge-lo")
 let y<-elem' b 0
 if (1==b.size)=true then pure (eC a b #[y] 0 1)
 else if (0+1==a.size)=true then pure (hV a b #[y] 0 1)
 else do
  let g<-get
  let c<-forIn [:a.size+b.size] ((none,#[y],0,1,gallopOf g):OL) λ_ c=>FC a b c
  match c.fst with
  | some r=>pure r
  | none=>unsupported "internal:list.sort.merge-bound"):=by
 rw[CO];refine aH1 λu=>?_;refine aH1 λy=>?_;refine aIp rfl (λ_=>rfl) (λ_=>?_);refine aIp rfl (λ_=>rfl) (λ_=>?_);refine aH1 λg=>?_;have key:∀(f f' :Nat->OL->StateT SortSt Sem (ForInStep OL)) (k h :OL->StateT SortSt Sem (aJn)) (i:OL),f=f' ->k=h ->(forIn [:a.size+b.size] i f >>=k)=(forIn [:a.size+b.size] i f' >>=h):=λf f' k h i j l=>by rw[j,l]
 refine key _ _ _ _ _ (funext λx=>funext λc=>?_) ?_
 ·have m:∀(f f' :Nat->JY->StateT SortSt Sem (ForInStep JY)) (k h :JY->StateT SortSt Sem (ForInStep OL)) (i:JY),f=f' ->k=h ->(forIn [:a.size+b.size] i f >>=k)=(forIn [:a.size+b.size] i f' >>=h):=λf f' k h i j l=>by rw[j,l]
  refine m _ _ _ _ _ (funext λx=>funext λd=>?_) (funext λd=>?_)
  ·rfl
  ·obtain⟨o,s⟩:=d
   cases o with
   | some r=>rfl
   | none=>
    refine aH1 λv=>?_;have n:∀(f f' :Nat->OX->StateT SortSt Sem (ForInStep OX)) (k h :OX->StateT SortSt Sem (ForInStep OL)) (i:OX),f=f' ->k=h ->(forIn [:a.size+b.size] i f >>=k)=(forIn [:a.size+b.size] i f' >>=h):=λf f' k h i j l=>by rw[j,l]
    refine n _ _ _ _ _ (funext λx=>funext λe=>?_) (funext λe=>?_)
    ·refine aIp rfl (λ_=>?_) (λ_=>?_)
     ·rfl
     ·rfl
    ·obtain⟨p,t⟩:=e;cases p <;> rfl
 ·funext c;obtain⟨q,w⟩:=c;cases q <;> rfl
def bV(s t:SortSt):Prop:=kindOf t=kindOf s/\arrOf t=arrOf s/\pendingOf t=pendingOf s/\failedOf t=failedOf s
theorem bV.refl(s:SortSt):bV s s:=⟨rfl,rfl,rfl,rfl⟩
theorem bV.trans{a b c:SortSt}(h:bV a b)(h' :bV b c):bV a c:=⟨h'.1.trans h.1,h'.2.1.trans h.2.1,h'.2.2.1.trans h.2.2.1,h'.2.2.2.trans h.2.2.2⟩
variable{a:aJn}
theorem qB(h:i<a.size):a.toList.drop i=aO a i::a.toList.drop (i+1):=by
 have b:i<a.toList.length:=by simpa using h
 rw[List.drop_eq_getElem_cons b]
 have e:aO a i=a.toList[i]:=by
  have:=gL h;rw[getElem?_pos a i h]at this;have:=aG8 this;rw[<-this];simp
 rw[e]
theorem dW(h:i<a.size):aO a i∈a.toList:=by
 have:=qB h;exact List.mem_of_mem_drop (i:=i) (by rw[this];exact aFs)
theorem dI(h:x∈a.toList.drop i):∃j,i<=j/\j<a.size/\x=aO a j:=by
 obtain⟨n,b,e⟩:=aHd h;simp only[List.length_drop,Array.length_toList]at b;refine⟨i+n,by lia,by lia,?_⟩
 have c:aO a (i+n)=a.toList[i+n]'(by simp;lia):=by
  have:=gL (xs:=a) (i:=i+n) (by lia);rw[getElem?_pos a (i+n) (by lia)]at this;have:=aG8 this;rw[<-this];simp
 rw[c,<-e];simp
theorem DI{i k:Nat}:(a.extract i (i+k)).toList=(a.toList.drop i).take k:=by
 rw[Array.toList_extract,List.extract_eq_take_drop];congr 1;lia
theorem jX{i k:Nat}(h:x∈(a.toList.drop i).take k):∃j,j<k/\i+j<a.size/\x=aO a (i+j):=by
 obtain⟨n,b,e⟩:=aHd h;simp only[List.length_take,List.length_drop,Array.length_toList]at b;refine⟨n,by lia,by lia,?_⟩
 have c:aO a (i+n)=a.toList[i+n]'(by simp;lia):=by
  have:=gL (xs:=a) (i:=i+n) (by lia);rw[getElem?_pos a (i+n) (by lia)]at this;have:=aG8 this;rw[<-this];simp
 rw[c,<-e];simp
theorem bA{lt:aJl}(O:Wk lt)(h:a.toList.Pairwise λx y=>lt y x=false):∀p q,p<=q->q<a.size->lt (aO a q) (aO a p)=false:=by
 intro p q d b;by_cases e:p=q
 ·subst e;exact O.JA _
 ·rw[List.pairwise_iff_getElem]at h;have:=h p q (by simp;lia) (by simpa using b) (by lia)
  have c:∀i (hi:i<a.size),aO a i=a.toList[i]'(by simpa using hi):=λi hi=>by
   have:=gL (xs:=a) (i:=i) hi;rw[getElem?_pos a i hi]at this;have:=aG8 this;rw[<-this];simp
  rw[c p (by lia),c q b];exact this
theorem vL(a b out:aJn)(ia ib:Nat):(eC a b out ia ib).toList=out.toList++(a.toList.drop ia++b.toList.drop ib):=by
 unfold eC;simp only[Array.toList_append,Array.toList_extract,List.extract_eq_take_drop,List.append_assoc];rw[List.take_of_length_le (by simp),List.take_of_length_le (by simp)]
theorem DJ(a b out:aJn)(ia ib:Nat):(hV a b out ia ib).toList=out.toList++(b.toList.drop ib++a.toList.drop ia):=by
 unfold hV;simp only[Array.toList_append,Array.toList_extract,List.extract_eq_take_drop,List.append_assoc];rw[List.take_of_length_le (by simp),List.take_of_length_le (by simp)]
section
variable {prog:Program}{w:World}{A:Around}{E:aJk}{s:Shared}{a₀ a b:aJn}{κ:SortKind}{lt:aJl}
structure D8(lt:aJl)(a₀ a b:aJn):Prop where
 ma:∀x∈a.toList,x∈a₀.toList
 mb:∀x∈b.toList,x∈a₀.toList
 sa:a.toList.Pairwise λx y=>lt y x=false
 sb:b.toList.Pairwise λx y=>lt y x=false
 pa:1<=a.size
 pb:1<=b.size
 first:∀x∈a.toList,lt x (aO b 0)=false
 last:∀y∈b.toList,lt (aO a (a.size-1)) y=false
abbrev qI(lt:aJl)(a b out:aJn)(ia ib:Nat):Prop:=Mg lt (a.toList++b.toList) out.toList (a.toList.drop ia) (b.toList.drop ib)
variable{ia ib:Nat}
theorem qI.xJ(O:Wk lt){a b out:aJn}(M:qI lt a b out ia ib)(hb:ib<b.size)(h:∀z∈a.toList.drop ia,lt z (aO b ib)=false):qI lt a b (out.push (aO b ib)) ia (ib+1):=by
 unfold qI at*;rw[qB hb]at M;have:=Mg.right (u:=[aO b ib]) M (by simpa using h);simpa using this
theorem qI.xK(O:Wk lt){a b out:aJn}(M:qI lt a b out ia ib)(ha:ia<a.size)(h:∀z∈b.toList.drop ib,lt z (aO a ia)=false):qI lt a b (out.push (aO a ia)) (ia+1) ib:=by
 unfold qI at*;rw[qB ha]at M;have:=Mg.left (u:=[aO a ia]) M (by simpa using h);simpa using this
theorem qI.ML{a b out:aJn}{ia ib k:Nat}(M:qI lt a b out ia ib)(h:∀x∈(a.toList.drop ia).take k,∀y∈b.toList.drop ib,lt y x=false):qI lt a b (out++a.extract ia (ia+k)) (ia+k) ib:=by
 unfold qI at*;rw[<-List.take_append_drop k (a.toList.drop ia),List.drop_drop]at M;have:=Mg.left M h;rw[Array.toList_append,DI];exact this
theorem qI.MK{a b out:aJn}{ia ib k:Nat}(M:qI lt a b out ia ib)(h:∀x∈(b.toList.drop ib).take k,∀y∈a.toList.drop ia,lt y x=false):qI lt a b (out++b.extract ib (ib+k)) ia (ib+k):=by
 unfold qI at*;rw[<-List.take_append_drop k (b.toList.drop ib),List.drop_drop]at M;have:=Mg.right M h;rw[Array.toList_append,DI];exact this
theorem qI.AH{a b out:aJn}(M:qI lt a b out ia ib)(h:ib=b.size):Good lt (a.toList++b.toList) (eC a b out ia ib).toList:=by
 rw[vL];exact Mg.fin M (.inr (by rw[h];simp))
theorem qI.FP{a b out:aJn}(M:qI lt a b out ia ib)(h:ia=a.size):Good lt (a.toList++b.toList) (eC a b out ia ib).toList:=by
 rw[vL];exact Mg.fin M (.inl (by rw[h];simp))
theorem qI.G6(T:D8 lt a₀ a b){out:aJn}(M:qI lt a b out ia ib)(h:ia+1=a.size):Good lt (a.toList++b.toList) (hV a b out ia ib).toList:=by
 rw[DJ];unfold qI at M
 have e:a.toList.drop ia=[aO a ia]:=by
  rw[qB (by lia),List.drop_of_length_le (by simp;lia)]
 rw[e]at M⊢;refine Mg.aF9 M λy c=>?_;have:=T.last y (List.mem_of_mem_drop c)
 rwa [show a.size-1=ia by lia]at this
structure J(lt:aJl)(a b out:aJn)(ia ib:Nat):Prop where
 m:qI lt a b out ia ib
 ha:ia+1<a.size
 hb:ib<b.size
 n:out.size=ia+ib
variable{γ:Type}
def After(lt:aJl)(a b:aJn)(n:Nat)(c:Option (aJn)×aJn×Nat×Nat×γ):Prop:=
 (∃r,c.1=some r/\Good lt (a.toList++b.toList) r.toList)\/(c.1=none/\J lt a b c.2.1 c.2.2.1 c.2.2.2.1/\n<=c.2.1.size)
def n9(lt:aJl)(a b:aJn)(n:Nat)(st:SortSt)(r:ForInStep (Option (aJn)×aJn×Nat×Nat×γ))(d :SortSt):Prop:=
 bV st d /\match r with | .done c=>After lt a b n c | .yield c=>c.1=none/\After lt a b n c
variable{mg ac bc n:Nat}
theorem Z4(O:Wk lt)(T:D8 lt a₀ a b){out:aJn}(M:qI lt a b out ia ib)(ha:ia+1<a.size)(hb:ib<b.size)(e:out.size=ia+ib)(d:n<=out.size+1)(h:∀z∈b.toList.drop ib,lt z (aO a ia)=false):
  wpS (model prog w) A E s (lo4 a b mg ac bc out ia ib) (n9 lt a b n st) st:=by
 unfold lo4;refine aG1 (c8 (by lia) ?_);have M2:=M.xK O (by lia) h;by_cases c:ia+1+1=a.size
 ·rw[if_pos (by simp[c])];exact aG4 ⟨bV.refl _,.inl ⟨_,rfl,M2.G6 T c⟩⟩
 ·rw[if_neg (by simp[c])]
  have j:J lt a b (out.push (aO a ia)) (ia+1) ib:=⟨M2,by lia,hb,by simp;lia⟩
  split
  ·exact aG4 ⟨bV.refl _,.inr ⟨rfl,j,by simpa using d⟩⟩
  ·exact aG4 ⟨bV.refl _,rfl,.inr ⟨rfl,j,by simpa using d⟩⟩
theorem aDc(O:Wk lt)(C:m8 prog w A s κ lt a₀)(T:D8 lt a₀ a b){out:aJn}(u:kindOf st=κ)(M:qI lt a b out ia ib)(ha:ia+1<a.size)(hb:ib<b.size)(v:out.size=ia+ib)(g:n<=out.size+1):
  wpS (model prog w) A E s (lo3 a b mg ac bc out ia ib) (n9 lt a b n st) st:=by
 unfold lo3;have h:=bA O T.sa;have l:=bA O T.sb;refine aG1 (c8 (by lia) ?_);refine aG1 (mL O C u (by lia) (by lia) (λp q r m H=>l p q m (by lia)) (λi hi=>T.mb _ (dW (by lia))) (T.ma _ (dW (by lia))) λk B r m=>?_)
 have key:∀z∈a.toList.drop ia,lt z (aO a ia)=false:=λz hz=>by
  obtain⟨j,d,f,rfl⟩:=dI hz;exact h _ _ d f
 have D:∀x∈(b.toList.drop ib).take k,∀y∈a.toList.drop ia,lt y x=false:=λx F y G=>by
  obtain⟨j,d,f,rfl⟩:=jX F;have e:=r j d;simp only[kA,if_true]at e;exact O.tr _ _ _ (O.rE _ _ e) (key y G)
 have t:∀z∈b.toList.drop (ib+k),lt z (aO a ia)=false:=λz hz=>by
  obtain⟨j,d,f,rfl⟩:=dI hz;have e:=m (j-ib) (by lia) (by lia);simp only[kA,if_true]at e
  rwa [show ib+(j-ib)=j by lia]at e
 dsimp only;by_cases c:k > 0
 ·rw[if_pos c];have M2:=M.MK D;by_cases o:ib+k=b.size
  ·rw[if_pos (by simp[o])];exact aG4 ⟨bV.refl _,.inl ⟨_,rfl,M2.AH o⟩⟩
  ·rw[if_neg (by simp[o])];have sz:(b.extract ib (ib+k)).size=k:=by rw[Array.size_extract];lia
   exact Z4 O T M2 ha (by lia) (by rw[Array.size_append,sz];lia) (by rw[Array.size_append,sz];lia) t
 ·obtain rfl:k=0:=by lia
  rw[if_neg (by lia)];exact Z4 O T M ha hb v g t
theorem Z5(O:Wk lt)(C:m8 prog w A s κ lt a₀)(T:D8 lt a₀ a b){out:aJn}(d:kindOf st=κ)(M:qI lt a b out ia ib)(ha:ia+1<a.size)(hb:ib<b.size)(f:out.size=ia+ib)(e:n<=out.size+1)(h:∀z∈a.toList.drop ia,lt z (aO b ib)=false):
  wpS (model prog w) A E s (lo2 a b mg ac bc out ia ib) (n9 lt a b n st) st:=by
 unfold lo2;refine aG1 (c8 (by lia) ?_);have M2:=M.xJ O hb h;by_cases c:ib+1=b.size
 ·rw[if_pos (by simp[c])];exact aG4 ⟨bV.refl _,.inl ⟨_,rfl,M2.AH c⟩⟩
 ·rw[if_neg (by simp[c])];exact aDc O C T d M2 ha (by lia) (by simp;lia) (by simp;lia)
theorem sJ{g:Nat}{Q:Unit->SortSt->Prop}(h:∀a,bV st a ->Q () a):wpS (model prog w) A E s (fK g) Q st:=by
 unfold fK;exact aJ0 (h _ ⟨rfl,rfl,rfl,rfl⟩)
theorem EL{st c d:SortSt}{r:ForInStep (Option (aJn)×aJn×Nat×Nat×γ)}{a b:aJn}(h:bV st c)(q:n9 lt a b n c r d):n9 lt a b n st r d:=⟨h.trans q.1,q.2⟩
theorem Z6(O:Wk lt)(C:m8 prog w A s κ lt a₀)(T:D8 lt a₀ a b){out:aJn}(F:kindOf st=κ)(j:J lt a b out ia ib)(h:n<=out.size+1):
  wpS (model prog w) A E s (lo1 a b mg ac bc out ia ib) (n9 lt a b n st) st:=by
 unfold lo1;obtain⟨M,ha,hb,G⟩:=j;have l:=bA O T.sa;have m:=bA O T.sb;refine aG1 (sJ λo same=>?_);refine aHn ?_ λr H q=>EL same q;have f:kindOf o=κ:=same.1.trans F;refine aG1 (c8 (by lia) ?_);refine aG1 (mL O C f (by lia) (by lia) (λp q B t P=>l p q t (by lia)) (λi hi=>T.ma _ (dW (by lia))) (T.mb _ (dW (by lia))) λk I B t=>?_)
 have key:∀z∈b.toList.drop ib,lt z (aO b ib)=false:=λz hz=>by
  obtain⟨j,d,g,rfl⟩:=dI hz;exact m _ _ d g
 have K:∀x∈(a.toList.drop ia).take k,∀y∈b.toList.drop ib,lt y x=false:=λx L y N=>by
  obtain⟨j,d,g,rfl⟩:=jX L;have e:=B j d;simp only[kA,Bool.false_eq_true,if_false,Bool.not_eq_true']at e;exact O.tr _ _ _ e (key y N)
 have D:∀z∈a.toList.drop (ia+k),lt z (aO b ib)=false:=λz hz=>by
  obtain⟨j,d,g,rfl⟩:=dI hz;have e:=t (j-ia) (by lia) (by lia);simp only[kA,Bool.false_eq_true,if_false,Bool.not_eq_false']at e;rw[show ia+(j-ia)=j by lia]at e;exact O.rE _ _ e
 dsimp only;by_cases c:k > 0
 ·rw[if_pos c];have M2:=M.ML K;by_cases u:ia+k+1=a.size
  ·rw[if_pos (by simp[u])];exact aG4 ⟨bV.refl _,.inl ⟨_,rfl,M2.G6 T u⟩⟩
  ·rw[if_neg (by simp[u])];by_cases v:ia+k=a.size
   ·rw[if_pos (by simp[v])];exact aG4 ⟨bV.refl _,.inl ⟨_,rfl,M2.FP v⟩⟩
   ·rw[if_neg (by simp[v])];have sz:(a.extract ia (ia+k)).size=k:=by rw[Array.size_extract];lia
    exact Z5 O C T f M2 (by lia) hb (by rw[Array.size_append,sz];lia) (by rw[Array.size_append,sz];lia) D
 ·obtain rfl:k=0:=by lia
  rw[if_neg (by lia)];exact Z5 O C T f M ha hb G h D
theorem aDd(O:Wk lt)(C:m8 prog w A s κ lt a₀)(T:D8 lt a₀ a b){c:JY}(l:kindOf st=κ)(j:J lt a b c.2.1 c.2.2.1 c.2.2.2.1)(d:n<=c.2.1.size+1):
  wpS (model prog w) A E s (lo0 a b mg c) (n9 lt a b n st) st:=by
 obtain⟨M,ha,hb,m⟩:=j;have i:=bA O T.sa;have k:=bA O T.sb;unfold lo0;refine aG1 (c8 hb ?_);refine aG1 (c8 (by lia) ?_);refine aG1 (Z3 C l (T.mb _ (dW hb)) (T.ma _ (dW (by lia))) ?_);dsimp only
 cases hlt:lt (aO b c.2.2.2.1) (aO a c.2.2.1) with
 | true=>
  rw[if_pos rfl];unfold loB;refine aG1 (c8 hb ?_)
  have M2:=M.xJ O hb λz hz=>by
   obtain⟨j,e,f,rfl⟩:=dI hz;exact O.tr _ _ _ (O.rE _ _ hlt) (i _ _ e f)
  by_cases g:c.2.2.2.1+1=b.size
  ·rw[if_pos (by simpa using g)];exact aG4 ⟨bV.refl _,.inl ⟨_,rfl,M2.AH g⟩⟩
  ·rw[if_neg (by simpa using g)]
   have h:J lt a b (c.2.1.push (aO b c.2.2.2.1)) c.2.2.1 (c.2.2.2.1+1):=⟨M2,ha,by lia,by simp;lia⟩
   split
   ·exact aG4 ⟨bV.refl _,.inr ⟨rfl,h,by simpa using d⟩⟩
   ·exact aG4 ⟨bV.refl _,rfl,.inr ⟨rfl,h,by simpa using d⟩⟩
 | false=>
  rw[if_neg Bool.false_ne_true];unfold loA;refine aG1 (c8 (by lia) ?_)
  have M2:=M.xK O (by lia) λz hz=>by
   obtain⟨j,e,f,rfl⟩:=dI hz;exact O.tr _ _ _ hlt (k _ _ e f)
  by_cases g:c.2.2.1+1+1=a.size
  ·rw[if_pos (by simpa using g)];exact aG4 ⟨bV.refl _,.inl ⟨_,rfl,M2.G6 T g⟩⟩
  ·rw[if_neg (by simpa using g)]
   have h:J lt a b (c.2.1.push (aO a c.2.2.1)) (c.2.2.1+1) c.2.2.2.1:=⟨M2,by lia,hb,by simp;lia⟩
   split
   ·exact aG4 ⟨bV.refl _,.inr ⟨rfl,h,by simpa using d⟩⟩
   ·exact aG4 ⟨bV.refl _,rfl,.inr ⟨rfl,h,by simpa using d⟩⟩
theorem EE{a b:aJn}{f:Nat->(Option (aJn)×aJn×Nat×Nat×γ)->StateT SortSt Sem (ForInStep (Option (aJn)×aJn×Nat×Nat×γ))}{c:Option (aJn)×aJn×Nat×Nat×γ}{Q:(Option (aJn)×aJn×Nat×Nat×γ)->SortSt->Prop}(x:(Option (aJn)×aJn×Nat×Nat×γ)->Prop)(n:Nat)
  (B:c.1=none) (j:J lt a b c.2.1 c.2.2.1 c.2.2.2.1) (H:n=c.2.1.size)
  (step:∀i g d,bV st d ->g.1=none->J lt a b g.2.1 g.2.2.1 g.2.2.2.1->n+i<=g.2.1.size->wpS (model prog w) A E s (f i g) (λr k=>n9 lt a b (g.2.1.size+1) d r k/\∀l,r= .done l->x l) d)
  (h:∀g d,bV st d ->x g ->After lt a b (n+1) g ->Q g d):wpS (model prog w) A E s (forIn [:a.size+b.size] c f) Q st:=by
 refine aHc (I:=λi g d =>bV st d /\g.1=none/\J lt a b g.2.1 g.2.2.1 g.2.2.2.1/\n+i<=g.2.1.size) ?_ ?_ ⟨bV.refl _,B,j,by lia⟩
 ·rintro i g d _ hi ⟨p,C,m,t⟩;refine aHn (step i g d p C m t) λr k q=>?_;obtain⟨⟨y,o⟩,D⟩:=q
  cases r with
  | done l=>
   refine h l k (p.trans y) (D l rfl) ?_;rcases o with o | ⟨u,v,F⟩
   ·exact .inl o
   ·exact .inr ⟨u,v,by lia⟩
  | yield l=>
   obtain⟨G,z | ⟨u,v,F⟩⟩:=o
   ·obtain⟨r,e,_⟩:=z;rw[G]at e;cases e
   ·exact⟨p.trans y,u,v,by lia⟩
 ·rintro g d ⟨_,_,m,t⟩;exfalso;have:=m.n;have:=m.ha;have:=m.hb;simp at t
  lia
end
section
variable {prog:Program}{w:World}{A:Around}{E:aJk}{s:Shared}{a₀ a b:aJn}{κ:SortKind}{lt:aJl}
theorem O7(O:Wk lt)(C:m8 prog w A s κ lt a₀)(T:D8 lt a₀ a b){c:OL}(u:kindOf st=κ)(j:J lt a b c.2.1 c.2.2.1 c.2.2.2.1):
  wpS (model prog w) A E s (FC a b c) (λr l=>n9 lt a b (c.2.1.size+1) st r l/\∀m,r= .done m->∃x,m.1=some x) st:=by
 unfold FC;refine aG1 (EE (lt:=lt) (c:=((none,c.snd.fst,c.snd.snd.fst,c.snd.snd.snd.fst,0,0):JY)) (λ_=>True) c.2.1.size rfl j rfl (λi z n p _ t _=>aHn (aDd O C T (p.1.trans u) t (aFw _)) λ_ _ q=>⟨q,λ_ _=>trivial⟩) λd F f _ G=>?_);obtain⟨L,k⟩:=d
 rcases G with ⟨r,h,g⟩ | ⟨h,B,H⟩
 ·dsimp only at h;subst h;exact aG4 ⟨⟨f,.inl ⟨r,rfl,g⟩⟩,λm e=>by cases e;exact⟨r,rfl⟩⟩
 ·dsimp only at h B H;subst h;dsimp only;refine aG1 (wpS_lift (aGx ⟨rfl,?_⟩));refine aG1 (EE (lt:=lt) (c:=((none,k.fst,k.snd.fst,k.snd.snd.fst,c.snd.snd.snd.snd+1,k.snd.snd.snd.fst,k.snd.snd.snd.snd):OX)) (λ_=>True) k.1.size rfl B rfl (λi z n p _ t _=>aHn (Q:=n9 lt a b (z.2.1.size+1) n) ?_ λ_ _ q=>⟨q,λ_ _=>trivial⟩) λe l o _ v=>?_)
  ·split
   ·exact Z6 O C T (p.1.trans (f.1.trans u)) t (aFw _)
   ·exact Z6 O C T (p.1.trans (f.1.trans u)) t (aFw _)
  ·obtain⟨M,N⟩:=e
   rcases v with ⟨r,h,g⟩ | ⟨h,D,I⟩
   ·dsimp only at h;subst h;exact aG4 ⟨⟨f.trans o,.inl ⟨r,rfl,g⟩⟩,λm e=>by cases e;exact⟨r,rfl⟩⟩
   ·dsimp only at h D I;subst h;dsimp only;refine aG1 (sJ λK y=>?_);exact aG4 ⟨⟨(f.trans o).trans y,rfl,.inr ⟨rfl,D,by dsimp only;lia⟩⟩,λm e=>by cases e⟩
theorem KG(O:Wk lt)(C:m8 prog w A s κ lt a₀)(T:D8 lt a₀ a b){Q:Array Keyed->SortSt->Prop}(q:kindOf st=κ)
  (h:∀r f,bV st f ->Good lt (a.toList++b.toList) r.toList->Q r f):wpS (model prog w) A E s (pX a b) Q st:=by
 rw[CN];have pa:=T.pa;have pb:=T.pb;refine aG1 (wpS_lift (aGx ⟨rfl,?_⟩));refine aG1 (c8 (by lia) ?_)
 have t:qI lt a b #[] 0 0:=⟨by simp,by simp,by simpa using T.sa,by simpa using T.sb,by simp⟩
 have l:qI lt a b #[aO b 0] 0 1:=by
  have:=t.xJ O (by lia) λz hz=>T.first z (by simpa using hz);simpa using this
 by_cases m:1=b.size
 ·rw[if_pos (by simp[m])];exact aG4 (h _ _ (bV.refl _) (l.AH m))
 ·rw[if_neg (by simpa using m)];by_cases n:0+1=a.size
  ·rw[if_pos (by simpa using n)];exact aG4 (h _ _ (bV.refl _) (l.G6 T n))
  ·rw[if_neg (by simpa using n)];refine aG1 (wpS_get ?_)
   have j:J lt a b #[aO b 0] 0 1:=⟨l,by lia,by lia,by simp⟩
   refine aG1 (EE (lt:=lt) (c:=((none,#[aO b 0],0,1,gallopOf st):OL)) (λc=>∃x,c.1=some x) 1 rfl j rfl (λi D f u _ v _=>O7 O C T (u.1.trans q) v) λd o p y B=>?_);obtain⟨F,G⟩:=d;obtain⟨x,e⟩:=y;dsimp only at e;subst e
   rcases B with ⟨r,k,g⟩ | ⟨k,_⟩
   ·dsimp only at k;cases k;exact aG4 (h x o p g)
   ·cases k
end
def pY:Array Keyed->Array Keyed->StateT SortSt Sem (aJn):=sortPriv% PySem.Builtin.mergeHi
def eV(a b out:aJn)(na nb:Nat):aJn:=a.extract 0 na++b.extract 0 nb++out.reverse
def hZ(a b out:aJn)(na nb:Nat):aJn:=b.extract 0 nb++a.extract 0 na++out.reverse
abbrev OZ:=Option (aJn)×Nat×Nat×aJn×Nat×Nat×Nat
abbrev J1:=Option (aJn)×Nat×Nat×aJn×Nat×Nat
abbrev OO:=Option (aJn)×Nat×Nat×aJn×Nat
def hi4(a b:aJn)(mg c d:Nat)(out:aJn)(na nb:Nat):StateT SortSt Sem (ForInStep OZ):=do
 let y<-elem' a (na-1)
 if (na-1==0)=true then pure (.done (some (eV a b (out.push y) (na-1) nb),na-1,nb,out.push y,mg,c,d))
 else if (decide (c<7) && decide (d<7))=true then pure (.done (none,na-1,nb,out.push y,mg,c,d)) else pure (.yield (none,na-1,nb,out.push y,mg,c,d))
def hi3(a b:aJn)(mg c d:Nat)(out:aJn)(na nb:Nat):StateT SortSt Sem (ForInStep OZ):=do
 let x<-elem' a (na-1)
 let r<-dX true x b 0 nb (nb-1)
 match r with
 | some k=>if nb-k > 0 then (if (k==1)=true then pure (.done (some (hZ a b (out++(b.extract k nb).reverse) na k),na,k,out++(b.extract k nb).reverse,mg,c,nb-k)) else
   if (k==0)=true then pure (.done (some (eV a b (out++(b.extract k nb).reverse) na k),na,k,out++(b.extract k nb).reverse,mg,c,nb-k)) else hi4 a b mg c (nb-k) (out++(b.extract k nb).reverse) na k) else hi4 a b mg c (nb-k) out na nb
 | _=>pure (.done (some (eV a b out na nb),na,nb,out,mg,c,d))
def SI(a b:aJn)(mg c d:Nat)(out:aJn)(na nb:Nat):StateT SortSt Sem (ForInStep OZ):=do
 let y<-elem' b (nb-1)
 if (nb-1==1)=true then pure (.done (some (hZ a b (out.push y) na (nb-1)),na,nb-1,out.push y,mg,c,d)) else hi3 a b mg c d (out.push y) na (nb-1)
def hi1(a b:aJn)(mg d c:Nat)(out:aJn)(na nb:Nat):StateT SortSt Sem (ForInStep OZ):=do
 fK mg
 let x<-elem' b (nb-1)
 let r<-dX false x a 0 na (na-1)
 match r with
 | some k=>if na-k > 0 then (if (k==0)=true then pure (.done (some (eV a b (out++(a.extract k na).reverse) k nb),k,nb,out++(a.extract k na).reverse,mg,na-k,c)) else SI a b mg (na-k) c (out++(a.extract k na).reverse) k nb) else SI a b mg (na-k) c out na nb
 | _=>pure (.done (some (eV a b out na nb),na,nb,out,mg,d,c))
def hiA(a b:aJn)(mg:Nat)(c:J1):StateT SortSt Sem (ForInStep J1):=do
 let y<-elem' a (c.snd.fst-1)
 if (c.snd.fst-1==0)=true then pure (.done (some (eV a b (c.snd.snd.snd.fst.push y) (c.snd.fst-1) c.snd.snd.fst),c.snd.fst-1,c.snd.snd.fst,c.snd.snd.snd.fst.push y,c.snd.snd.snd.snd.fst+1,0))
 else if c.snd.snd.snd.snd.fst+1>=mg then pure (.done (none,c.snd.fst-1,c.snd.snd.fst,c.snd.snd.snd.fst.push y,c.snd.snd.snd.snd.fst+1,0))
 else pure (.yield (none,c.snd.fst-1,c.snd.snd.fst,c.snd.snd.snd.fst.push y,c.snd.snd.snd.snd.fst+1,0))
def hiB(a b:aJn)(mg:Nat)(c:J1):StateT SortSt Sem (ForInStep J1):=do
 let x<-elem' b (c.snd.snd.fst-1)
 if (c.snd.snd.fst-1==1)=true then pure (.done (some (hZ a b (c.snd.snd.snd.fst.push x) c.snd.fst (c.snd.snd.fst-1)),c.snd.fst,c.snd.snd.fst-1,c.snd.snd.snd.fst.push x,0,c.snd.snd.snd.snd.snd+1))
 else if c.snd.snd.snd.snd.snd+1>=mg then pure (.done (none,c.snd.fst,c.snd.snd.fst-1,c.snd.snd.snd.fst.push x,0,c.snd.snd.snd.snd.snd+1))
 else pure (.yield (none,c.snd.fst,c.snd.snd.fst-1,c.snd.snd.snd.fst.push x,0,c.snd.snd.snd.snd.snd+1))
def hi0(a b:aJn)(mg:Nat)(c:J1):StateT SortSt Sem (ForInStep J1):=do
 let y<-elem' b (c.snd.snd.fst-1)
 let x<-elem' a (c.snd.fst-1)
 let r<-lt' y x
 match r with
 | some d=>if d=true then hiA a b mg c else hiB a b mg c
 | _=>pure (.done (some (eV a b c.snd.snd.snd.fst c.snd.fst c.snd.snd.fst),c.snd.fst,c.snd.snd.fst,c.snd.snd.snd.fst,c.snd.snd.snd.snd.fst,c.snd.snd.snd.snd.snd))
def FK(a b:aJn)(c:OO):StateT SortSt Sem (ForInStep OO):=do
 let d<-forIn [:a.size+b.size] ((none,c.snd.fst,c.snd.snd.fst,c.snd.snd.snd.fst,0,0):J1) λ_ d=>hi0 a b c.snd.snd.snd.snd d
 match d.fst with
 | some r=>pure (.done (some r,d.snd.fst,d.snd.snd.fst,d.snd.snd.snd.fst,c.snd.snd.snd.snd))
 | none=>do
  liftM (rule "list.sort.gallop")
  let e<-forIn [:a.size+b.size] ((none,d.snd.fst,d.snd.snd.fst,d.snd.snd.snd.fst,c.snd.snd.snd.snd+1,d.snd.snd.snd.snd.fst,d.snd.snd.snd.snd.snd):OZ) λ_ e=>
   if e.snd.snd.snd.snd.fst > 1 then hi1 a b (e.snd.snd.snd.snd.fst-1) e.snd.snd.snd.snd.snd.fst e.snd.snd.snd.snd.snd.snd e.snd.snd.snd.fst e.snd.fst e.snd.snd.fst else hi1 a b e.snd.snd.snd.snd.fst e.snd.snd.snd.snd.snd.fst e.snd.snd.snd.snd.snd.snd e.snd.snd.snd.fst e.snd.fst e.snd.snd.fst
  match e.fst with
  | some r=>pure (.done (some r,e.snd.fst,e.snd.snd.fst,e.snd.snd.snd.fst,e.snd.snd.snd.snd.fst))
  | none=>do
   fK (e.snd.snd.snd.snd.fst+1)
   pure (.yield (none,e.snd.fst,e.snd.snd.fst,e.snd.snd.snd.fst,e.snd.snd.snd.snd.fst+1))
theorem CQ(a b:aJn):pY a b=(do
 rule "list.sort.merge-hi"
 let total:=a.size+b.size;let mut na:=a.size-1;let mut nb:=b.size;let mut out:aJn:= #[<-elem' a na]
 if na==0 then return eV a b out na nb
 if nb==1 then return hZ a b out na nb
 let mut minGallop:=gallopOf (<-get)
 for _ in [0:total] do
  let mut acount:=0;let mut bcount:=0
  for _ in [0:total] do
   let some aWins<-lt' (<-elem' b (nb-1)) (<-elem' a (na-1)) | return eV a b out na nb
   if aWins then
    na:=na-1;out:=out.push (<-elem' a na);acount:=acount+1;bcount:=0
    if na==0 then return eV a b out na nb
    if acount>=minGallop then break
   else
    nb:=nb-1;out:=out.push (<-elem' b nb);bcount:=bcount+1;acount:=0
    if nb==1 then return hZ a b out na nb
    if bcount>=minGallop then break
  rule "list.sort.gallop"
  minGallop:=minGallop+1
  for _ in [0:total] do
   if minGallop > 1 then minGallop:=minGallop-1
   fK minGallop
   let some at_<-dX false (<-elem' b (nb-1)) a 0 na (na-1) | return eV a b out na nb
   let k:=na-at_
   acount:=k
   if k > 0 then
    out:=out++(a.extract at_ na).reverse;na:=at_
    if na==0 then return eV a b out na nb
   nb:=nb-1;out:=out.push (<-elem' b nb)
   if nb==1 then return hZ a b out na nb
   let some at_<-dX true (<-elem' a (na-1)) b 0 nb (nb-1) | return eV a b out na nb
   let k:=nb-at_
   bcount:=k
   if k > 0 then
    out:=out++(b.extract at_ nb).reverse;nb:=at_
    if nb==1 then return hZ a b out na nb
    if nb==0 then return eV a b out na nb
   na:=na-1;out:=out.push (<-elem' a na)
   if na==0 then return eV a b out na nb
   if acount<7 && bcount<7 then break
  minGallop:=minGallop+1
  fK minGallop
 unsupported "internal:list.sort.merge-bound"):=rfl
theorem CP(a b:aJn):pY a b=(do
 liftM (rule "list.sort.merge-hi")
 let y<-elem' a (a.size-1)
 if (a.size-1==0)=true then pure (eV a b #[y] (a.size-1) b.size)
 else if (b.size==1)=true then pure (hZ a b #[y] (a.size-1) b.size)
 else do
  let g<-get
  let c<-forIn [:a.size+b.size] ((none,a.size-1,b.size,#[y],gallopOf g):OO) λ_ c=>FK a b c
  match c.fst with
  | some r=>pure r
  | none=>unsupported "internal:list.sort.merge-bound"):=by
 rw[CQ];refine aH1 λu=>?_;refine aH1 λy=>?_;refine aIp rfl (λ_=>rfl) (λ_=>?_);refine aIp rfl (λ_=>rfl) (λ_=>?_);refine aH1 λg=>?_;have key:∀(f f' :Nat->OO->StateT SortSt Sem (ForInStep OO)) (k h :OO->StateT SortSt Sem (aJn)) (i:OO),f=f' ->k=h ->(forIn [:a.size+b.size] i f >>=k)=(forIn [:a.size+b.size] i f' >>=h):=λf f' k h i j l=>by rw[j,l]
 refine key _ _ _ _ _ (funext λx=>funext λc=>?_) ?_
 ·have m:∀(f f' :Nat->J1->StateT SortSt Sem (ForInStep J1)) (k h :J1->StateT SortSt Sem (ForInStep OO)) (i:J1),f=f' ->k=h ->(forIn [:a.size+b.size] i f >>=k)=(forIn [:a.size+b.size] i f' >>=h):=λf f' k h i j l=>by rw[j,l]
  refine m _ _ _ _ _ (funext λx=>funext λd=>?_) (funext λd=>?_)
  ·rfl
  ·obtain⟨o,s⟩:=d
   cases o with
   | some r=>rfl
   | none=>
    refine aH1 λv=>?_;have n:∀(f f' :Nat->OZ->StateT SortSt Sem (ForInStep OZ)) (k h :OZ->StateT SortSt Sem (ForInStep OO)) (i:OZ),f=f' ->k=h ->(forIn [:a.size+b.size] i f >>=k)=(forIn [:a.size+b.size] i f' >>=h):=λf f' k h i j l=>by rw[j,l]
    refine n _ _ _ _ _ (funext λx=>funext λe=>?_) (funext λe=>?_)
    ·refine aIp rfl (λ_=>?_) (λ_=>?_)
     ·rfl
     ·rfl
    ·obtain⟨p,t⟩:=e;cases p <;> rfl
 ·funext c;obtain⟨q,w⟩:=c;cases q <;> rfl
structure Mh(lt:aJl)(all p q o:List Keyed):Prop where
 perm:(p++(q++o)).Perm all
 so:o.Pairwise λx y=>lt y x=false
 sp:p.Pairwise λx y=>lt y x=false
 sq:q.Pairwise λx y=>lt y x=false
 high:∀x∈p++q,∀y∈o,lt y x=false
theorem Mh.left{lt:aJl}{all u p q o:List Keyed}(M:Mh lt all (p++u) q o)(h:∀x∈q,∀y∈u,lt y x=false):Mh lt all p q (u++o):=by
 have sp:=aG7.mp M.sp;refine⟨?_,aG7.mpr ⟨sp.2.1,M.so,λx a y hy=>M.high x (by simp[a]) y hy⟩,sp.1,M.sq,λx a y hy=>?_⟩
 ·refine List.Perm.trans ?_ M.perm;rw[List.append_assoc];refine aI3 p ?_;rw[<-List.append_assoc,<-List.append_assoc];exact aHz o aI4
 ·rcases aFv.mp hy with hy | hy
  ·rcases aFv.mp a with z | z
   ·exact sp.2.2 x z y hy
   ·exact h x z y hy
  ·exact M.high x (by rcases aFv.mp a with z | z <;> simp[z]) y hy
theorem Mh.right{lt:aJl}{all u p q o:List Keyed}(M:Mh lt all p (q++u) o)(h:∀x∈p,∀y∈u,lt y x=false):Mh lt all p q (u++o):=by
 have sq:=aG7.mp M.sq;refine⟨?_,aG7.mpr ⟨sq.2.1,M.so,λx a y hy=>M.high x (by simp[a]) y hy⟩,M.sp,sq.1,λx a y hy=>?_⟩
 ·have:=M.perm;simpa[List.append_assoc] using this
 ·rcases aFv.mp hy with hy | hy
  ·rcases aFv.mp a with z | z
   ·exact h x z y hy
   ·exact sq.2.2 x z y hy
  ·exact M.high x (by rcases aFv.mp a with z | z <;> simp[z]) y hy
theorem Mh.fin{lt:aJl}{all p q o:List Keyed}(M:Mh lt all p q o)(h:p=[]\/q=[]):Good lt all (p++q++o):=by
 refine⟨by rw[List.append_assoc];exact M.perm,aG7.mpr ⟨?_,M.so,M.high⟩⟩;rcases h with rfl | rfl
 ·simpa using M.sq
 ·simpa using M.sp
theorem Mh.aF8{lt:aJl}{all p o:List Keyed}(M:Mh lt all p [x] o)(h:∀y∈p,lt y x=false):Good lt all ([x]++p++o):=by
 refine⟨?_,aG7.mpr ⟨?_,M.so,λa ha b hb=>M.high a ?_ b hb⟩⟩
 ·refine List.Perm.trans ?_ M.perm;rw[<-List.append_assoc];exact aHz o aI4
 ·exact aG7.mpr ⟨by simp,M.sp,λu c v d=>by rw[List.mem_singleton.mp c];exact h v d⟩
 ·rcases aFv.mp ha with z | z <;> simp[z] <;> simp_all
theorem tV(h0:1<=i)(h:i<=a.size):a.toList.take i=a.toList.take (i-1)++[aO a (i-1)]:=by
 have b:i-1<a.toList.length:=by simp;lia
 have e:aO a (i-1)=a.toList[i-1]:=by
  have:=gL (xs:=a) (i:=i-1) (by lia);rw[getElem?_pos a (i-1) (by lia)]at this;have:=aG8 this;rw[<-this];simp
 rw[e];have:=List.take_append_getElem (l:=a.toList) (i:=i-1) b;rw[this];congr 1;lia
theorem cU(h:x∈a.toList.take i):∃j,j<i/\j<a.size/\x=aO a j:=by
 have:=jX (i:=0) (k:=i) (a:=a) (by simpa using h);obtain⟨j,b,d,c⟩:=this;exact⟨j,b,by lia,by rw[c];congr 1;lia⟩
theorem AF{i k:Nat}:(a.extract i k).toList=(a.toList.take k).drop i:=by
 rw[Array.toList_extract,List.extract_eq_take_drop,List.take_drop];by_cases h:i<=k
 ·congr 2;lia
 ·rw[List.drop_of_length_le (by simp;lia),List.drop_of_length_le (by simp;lia)]
theorem mem_mid{i k:Nat}(h:x∈(a.toList.take k).drop i):∃j,i<=j/\j<k/\j<a.size/\x=aO a j:=by
 obtain⟨n,b,e⟩:=aHd h;simp only[List.length_take,List.length_drop,Array.length_toList]at b;refine⟨i+n,by lia,by lia,by lia,?_⟩
 have c:aO a (i+n)=a.toList[i+n]'(by simp;lia):=by
  have:=gL (xs:=a) (i:=i+n) (by lia);rw[getElem?_pos a (i+n) (by lia)]at this;have:=aG8 this;rw[<-this];simp
 rw[c,<-e];simp
theorem FO(a b out:aJn)(na nb:Nat):(eV a b out na nb).toList=a.toList.take na++b.toList.take nb++out.toList.reverse:=by
 unfold eV;simp[Array.toList_append,Array.toList_extract,List.extract_eq_take_drop]
theorem DL(a b out:aJn)(na nb:Nat):(hZ a b out na nb).toList=b.toList.take nb++a.toList.take na++out.toList.reverse:=by
 unfold hZ;simp[Array.toList_append,Array.toList_extract,List.extract_eq_take_drop]
section
variable {prog:Program}{w:World}{A:Around}{E:aJk}{s:Shared}{a₀ a b:aJn}{κ:SortKind}{lt:aJl}
abbrev sW(lt:aJl)(a b out:aJn)(na nb:Nat):Prop:=Mh lt (a.toList++b.toList) (a.toList.take na) (b.toList.take nb) out.toList.reverse
variable{na nb:Nat}
theorem sW.xK{out:aJn}(M:sW lt a b out na nb)(h0:1<=na)(c:na<=a.size)(h:∀z∈b.toList.take nb,lt (aO a (na-1)) z=false):sW lt a b (out.push (aO a (na-1))) (na-1) nb:=by
 unfold sW at*;rw[tV h0 c]at M;have:=Mh.left (u:=[aO a (na-1)]) M (by simpa using h);simpa using this
theorem sW.xJ{out:aJn}(M:sW lt a b out na nb)(h0:1<=nb)(c:nb<=b.size)(h:∀z∈a.toList.take na,lt (aO b (nb-1)) z=false):sW lt a b (out.push (aO b (nb-1))) na (nb-1):=by
 unfold sW at*;rw[tV h0 c]at M;have:=Mh.right (u:=[aO b (nb-1)]) M (by simpa using h);simpa using this
theorem sW.ML{out:aJn}{na nb k:Nat}(M:sW lt a b out na nb)(c:k<=na)(h:∀x∈b.toList.take nb,∀y∈(a.toList.take na).drop k,lt y x=false):sW lt a b (out++(a.extract k na).reverse) k nb:=by
 unfold sW at*
 have e:a.toList.take na=a.toList.take k++(a.toList.take na).drop k:=by
  have:=(aI5 k (a.toList.take na)).symm
  rwa [List.take_take,aJi c]at this
 rw[e]at M;have:=Mh.left M h;simp only[Array.toList_append,Array.toList_reverse,List.reverse_append,List.reverse_reverse,AF];exact this
theorem sW.MK{out:aJn}{na nb k:Nat}(M:sW lt a b out na nb)(c:k<=nb)(h:∀x∈a.toList.take na,∀y∈(b.toList.take nb).drop k,lt y x=false):sW lt a b (out++(b.extract k nb).reverse) na k:=by
 unfold sW at*
 have e:b.toList.take nb=b.toList.take k++(b.toList.take nb).drop k:=by
  have:=(aI5 k (b.toList.take nb)).symm
  rwa [List.take_take,aJi c]at this
 rw[e]at M;have:=Mh.right M h;simp only[Array.toList_append,Array.toList_reverse,List.reverse_append,List.reverse_reverse,AF];exact this
theorem sW.FP{out:aJn}(M:sW lt a b out na nb)(h:na=0\/nb=0):Good lt (a.toList++b.toList) (eV a b out na nb).toList:=by
 rw[FO];exact Mh.fin M (h.imp (λe=>by simp[e]) λe=>by simp[e])
theorem sW.AH(T:D8 lt a₀ a b){out:aJn}(M:sW lt a b out na nb)(h:nb=1):Good lt (a.toList++b.toList) (hZ a b out na nb).toList:=by
 rw[DL];have pb:=T.pb
 have e:b.toList.take nb=[aO b 0]:=by
  rw[h,tV (by lia) (by lia)];simp
 unfold sW at M;rw[e]at M⊢;exact Mh.aF8 M λy c=>T.first y (aH8 c)
structure Jh(lt:aJl)(a b out:aJn)(na nb:Nat):Prop where
 m:sW lt a b out na nb
 ha:1<=na
 hb:2<=nb
 la:na<=a.size
 lb:nb<=b.size
 n:out.size+na+nb=a.size+b.size
variable{γ:Type}
def F8(lt:aJl)(a b:aJn)(n:Nat)(c:Option (aJn)×Nat×Nat×aJn×γ):Prop:=
 (∃r,c.1=some r/\Good lt (a.toList++b.toList) r.toList)\/(c.1=none/\Jh lt a b c.2.2.2.1 c.2.1 c.2.2.1/\n<=c.2.2.2.1.size)
def oA(lt:aJl)(a b:aJn)(n:Nat)(st:SortSt)(r:ForInStep (Option (aJn)×Nat×Nat×aJn×γ))(d :SortSt):Prop:=
 bV st d /\match r with | .done c=>F8 lt a b n c | .yield c=>c.1=none/\F8 lt a b n c
variable{mg ac bc n:Nat}
theorem Z7(T:D8 lt a₀ a b){out:aJn}(j:Jh lt a b out na nb)(d:n<=out.size+1)(h:∀z∈b.toList.take nb,lt (aO a (na-1)) z=false):
  wpS (model prog w) A E s (hi4 a b mg ac bc out na nb) (oA lt a b n st) st:=by
 obtain⟨M,ha,hb,la,lb,f⟩:=j;unfold hi4;refine aG1 (c8 (by lia) ?_);have M2:=M.xK ha la h;by_cases c:na-1=0
 ·rw[if_pos (by simp[c])];exact aG4 ⟨bV.refl _,.inl ⟨_,rfl,M2.FP (.inl c)⟩⟩
 ·rw[if_neg (by simpa using c)]
  have e:Jh lt a b (out.push (aO a (na-1))) (na-1) nb:=⟨M2,by lia,hb,by lia,lb,by simp;lia⟩
  split
  ·exact aG4 ⟨bV.refl _,.inr ⟨rfl,e,by simpa using d⟩⟩
  ·exact aG4 ⟨bV.refl _,rfl,.inr ⟨rfl,e,by simpa using d⟩⟩
theorem aDe(O:Wk lt)(C:m8 prog w A s κ lt a₀)(T:D8 lt a₀ a b){out:aJn}(B:kindOf st=κ)(j:Jh lt a b out na nb)(g:n<=out.size+1):
  wpS (model prog w) A E s (hi3 a b mg ac bc out na nb) (oA lt a b n st) st:=by
 have D:=j;obtain⟨M,ha,hb,la,lb,J⟩:=j;unfold hi3;have h:=bA O T.sa;have l:=bA O T.sb;refine aG1 (c8 (by lia) ?_);refine aG1 (mL O C B (by lia) (by lia) (λp q u m K=>l p q m (by lia)) (λi hi=>T.mb _ (dW (by lia))) (T.ma _ (dW (by lia))) λk F u m=>?_)
 have key:∀z∈a.toList.take na,lt (aO a (na-1)) z=false:=λz hz=>by
  obtain⟨j,d,f,rfl⟩:=cU hz;exact h _ _ (by lia) (by lia)
 have G:∀x∈a.toList.take na,∀y∈(b.toList.take nb).drop k,lt y x=false:=λx H y I=>by
  obtain⟨j,o,d,f,rfl⟩:=mem_mid I;have e:=m j o d;simp only[kA,if_true,Nat.zero_add]at e;exact O.tr _ _ _ (key x H) e
 have v:∀z∈b.toList.take k,lt (aO a (na-1)) z=false:=λz hz=>by
  obtain⟨j,d,f,rfl⟩:=cU hz;have e:=u j d;simp only[kA,if_true,Nat.zero_add]at e;exact O.rE _ _ e
 dsimp only;by_cases c:nb-k > 0
 ·rw[if_pos c];have M2:=M.MK (k:=k) (by lia) G;have sz:(b.extract k nb).reverse.size=nb-k:=by rw[Array.size_reverse,Array.size_extract];lia
  by_cases r:k=1
  ·rw[if_pos (by simpa using r)];exact aG4 ⟨bV.refl _,.inl ⟨_,rfl,M2.AH T r⟩⟩
  ·rw[if_neg (by simpa using r)];by_cases t:k=0
   ·rw[if_pos (by simpa using t)];exact aG4 ⟨bV.refl _,.inl ⟨_,rfl,M2.FP (.inr t)⟩⟩
   ·rw[if_neg (by simpa using t)];exact Z7 T ⟨M2,ha,by lia,la,by lia,by rw[Array.size_append,sz];lia⟩ (by rw[Array.size_append,sz];lia) v
 ·obtain rfl:k=nb:=by lia
  rw[if_neg c];exact Z7 T D g v
theorem Z8(O:Wk lt)(C:m8 prog w A s κ lt a₀)(T:D8 lt a₀ a b){out:aJn}(d:kindOf st=κ)(j:Jh lt a b out na nb)(e:n<=out.size+1)(h:∀z∈a.toList.take na,lt (aO b (nb-1)) z=false):
  wpS (model prog w) A E s (SI a b mg ac bc out na nb) (oA lt a b n st) st:=by
 obtain⟨M,ha,hb,la,lb,f⟩:=j;unfold SI;refine aG1 (c8 (by lia) ?_);have M2:=M.xJ (by lia) lb h;by_cases c:nb-1=1
 ·rw[if_pos (by simpa using c)];exact aG4 ⟨bV.refl _,.inl ⟨_,rfl,M2.AH T c⟩⟩
 ·rw[if_neg (by simpa using c)];exact aDe O C T d ⟨M2,ha,by lia,la,by lia,by simp;lia⟩ (by simp;lia)
theorem EM{st c d:SortSt}{r:ForInStep (Option (aJn)×Nat×Nat×aJn×γ)}(h:bV st c)(q:oA lt a b n c r d):oA lt a b n st r d:=⟨h.trans q.1,q.2⟩
theorem Z9(O:Wk lt)(C:m8 prog w A s κ lt a₀)(T:D8 lt a₀ a b){out:aJn}(F:kindOf st=κ)(j:Jh lt a b out na nb)(h:n<=out.size+1):
  wpS (model prog w) A E s (hi1 a b mg ac bc out na nb) (oA lt a b n st) st:=by
 have G:=j;obtain⟨M,ha,hb,la,lb,N⟩:=j;unfold hi1;have l:=bA O T.sa;have m:=bA O T.sb;refine aG1 (sJ λo same=>?_);refine aHn ?_ λr H q=>EM same q;have f:kindOf o=κ:=same.1.trans F;refine aG1 (c8 (by lia) ?_);refine aG1 (mL O C f (by lia) (by lia) (λp q B t P=>l p q t (by lia)) (λi hi=>T.ma _ (dW (by lia))) (T.mb _ (dW (by lia))) λk I B t=>?_)
 have key:∀z∈b.toList.take nb,lt (aO b (nb-1)) z=false:=λz hz=>by
  obtain⟨j,d,g,rfl⟩:=cU hz;exact m _ _ (by lia) (by lia)
 have J:∀x∈b.toList.take nb,∀y∈(a.toList.take na).drop k,lt y x=false:=λx K y L=>by
  obtain⟨j,u,d,g,rfl⟩:=mem_mid L;have e:=t j u d;simp only[kA,Bool.false_eq_true,if_false,Bool.not_eq_false',Nat.zero_add]at e;exact O.tr _ _ _ (key x K) (O.rE _ _ e)
 have D:∀z∈a.toList.take k,lt (aO b (nb-1)) z=false:=λz hz=>by
  obtain⟨j,d,g,rfl⟩:=cU hz;have e:=B j d;simp only[kA,Bool.false_eq_true,if_false,Bool.not_eq_true',Nat.zero_add]at e;exact e
 dsimp only;by_cases c:na-k > 0
 ·rw[if_pos c];have M2:=M.ML (k:=k) (by lia) J;have sz:(a.extract k na).reverse.size=na-k:=by rw[Array.size_reverse,Array.size_extract];lia
  by_cases v:k=0
  ·rw[if_pos (by simpa using v)];exact aG4 ⟨bV.refl _,.inl ⟨_,rfl,M2.FP (.inl v)⟩⟩
  ·rw[if_neg (by simpa using v)];exact Z8 O C T f ⟨M2,by lia,hb,by lia,lb,by rw[Array.size_append,sz];lia⟩ (by rw[Array.size_append,sz];lia) D
 ·obtain rfl:k=na:=by lia
  rw[if_neg c];exact Z8 O C T f G h D
theorem aDf(O:Wk lt)(C:m8 prog w A s κ lt a₀)(T:D8 lt a₀ a b){c:J1}(l:kindOf st=κ)(j:Jh lt a b c.2.2.2.1 c.2.1 c.2.2.1)(d:n<=c.2.2.2.1.size+1):
  wpS (model prog w) A E s (hi0 a b mg c) (oA lt a b n st) st:=by
 obtain⟨M,ha,hb,la,lb,m⟩:=j;have g:=bA O T.sa;have h:=bA O T.sb;unfold hi0;refine aG1 (c8 (by lia) ?_);refine aG1 (c8 (by lia) ?_);refine aG1 (Z3 C l (T.mb _ (dW (by lia))) (T.ma _ (dW (by lia))) ?_);dsimp only
 cases hlt:lt (aO b (c.2.2.1-1)) (aO a (c.2.1-1)) with
 | true=>
  rw[if_pos rfl];unfold hiA;refine aG1 (c8 (by lia) ?_)
  have M2:=M.xK ha la λz hz=>by
   obtain⟨j,i,k,rfl⟩:=cU hz;exact O.tr _ _ _ (h _ _ (by lia) (by lia)) (O.rE _ _ hlt)
  by_cases e:c.2.1-1=0
  ·rw[if_pos (by simpa using e)];exact aG4 ⟨bV.refl _,.inl ⟨_,rfl,M2.FP (.inl e)⟩⟩
  ·rw[if_neg (by simpa using e)]
   have f:Jh lt a b (c.2.2.2.1.push (aO a (c.2.1-1))) (c.2.1-1) c.2.2.1:=⟨M2,by lia,hb,by lia,lb,by simp;lia⟩
   split
   ·exact aG4 ⟨bV.refl _,.inr ⟨rfl,f,by simpa using d⟩⟩
   ·exact aG4 ⟨bV.refl _,rfl,.inr ⟨rfl,f,by simpa using d⟩⟩
 | false=>
  rw[if_neg Bool.false_ne_true];unfold hiB;refine aG1 (c8 (by lia) ?_)
  have M2:=M.xJ (by lia) lb λz hz=>by
   obtain⟨j,i,k,rfl⟩:=cU hz;exact O.tr _ _ _ (g _ _ (by lia) (by lia)) hlt
  by_cases e:c.2.2.1-1=1
  ·rw[if_pos (by simpa using e)];exact aG4 ⟨bV.refl _,.inl ⟨_,rfl,M2.AH T e⟩⟩
  ·rw[if_neg (by simpa using e)]
   have f:Jh lt a b (c.2.2.2.1.push (aO b (c.2.2.1-1))) c.2.1 (c.2.2.1-1):=⟨M2,ha,by lia,la,by lia,by simp;lia⟩
   split
   ·exact aG4 ⟨bV.refl _,.inr ⟨rfl,f,by simpa using d⟩⟩
   ·exact aG4 ⟨bV.refl _,rfl,.inr ⟨rfl,f,by simpa using d⟩⟩
theorem yS{f:Nat->(Option (aJn)×Nat×Nat×aJn×γ)->StateT SortSt Sem (ForInStep (Option (aJn)×Nat×Nat×aJn×γ))}{c:Option (aJn)×Nat×Nat×aJn×γ}{Q:(Option (aJn)×Nat×Nat×aJn×γ)->SortSt->Prop}(x:(Option (aJn)×Nat×Nat×aJn×γ)->Prop)(n:Nat)
  (B:c.1=none) (j:Jh lt a b c.2.2.2.1 c.2.1 c.2.2.1) (H:n=c.2.2.2.1.size)
  (step:∀i g d,bV st d ->g.1=none->Jh lt a b g.2.2.2.1 g.2.1 g.2.2.1->n+i<=g.2.2.2.1.size->wpS (model prog w) A E s (f i g) (λr k=>oA lt a b (g.2.2.2.1.size+1) d r k/\∀l,r= .done l->x l) d)
  (h:∀g d,bV st d ->x g ->F8 lt a b (n+1) g ->Q g d):wpS (model prog w) A E s (forIn [:a.size+b.size] c f) Q st:=by
 refine aHc (I:=λi g d =>bV st d /\g.1=none/\Jh lt a b g.2.2.2.1 g.2.1 g.2.2.1/\n+i<=g.2.2.2.1.size) ?_ ?_ ⟨bV.refl _,B,j,by lia⟩
 ·rintro i g d _ hi ⟨p,C,m,t⟩;refine aHn (step i g d p C m t) λr k q=>?_;obtain⟨⟨y,o⟩,D⟩:=q
  cases r with
  | done l=>
   refine h l k (p.trans y) (D l rfl) ?_;rcases o with o | ⟨u,v,F⟩
   ·exact .inl o
   ·exact .inr ⟨u,v,by lia⟩
  | yield l=>
   obtain⟨G,z | ⟨u,v,F⟩⟩:=o
   ·obtain⟨r,e,_⟩:=z;rw[G]at e;cases e
   ·exact⟨p.trans y,u,v,by lia⟩
 ·rintro g d ⟨_,_,m,t⟩;exfalso;have:=m.n;have:=m.ha;have:=m.hb;simp at t
  lia
theorem O8(O:Wk lt)(C:m8 prog w A s κ lt a₀)(T:D8 lt a₀ a b){c:OO}(u:kindOf st=κ)(j:Jh lt a b c.2.2.2.1 c.2.1 c.2.2.1):
  wpS (model prog w) A E s (FK a b c) (λr l=>oA lt a b (c.2.2.2.1.size+1) st r l/\∀m,r= .done m->∃x,m.1=some x) st:=by
 unfold FK;refine aG1 (yS (lt:=lt) (c:=((none,c.snd.fst,c.snd.snd.fst,c.snd.snd.snd.fst,0,0):J1)) (λ_=>True) c.2.2.2.1.size rfl j rfl (λi z n p _ t _=>aHn (aDf O C T (p.1.trans u) t (aFw _)) λ_ _ q=>⟨q,λ_ _=>trivial⟩) λd F f _ G=>?_);obtain⟨K,k⟩:=d
 rcases G with ⟨r,h,g⟩ | ⟨h,B,H⟩
 ·dsimp only at h;subst h;exact aG4 ⟨⟨f,.inl ⟨r,rfl,g⟩⟩,λm e=>by cases e;exact⟨r,rfl⟩⟩
 ·dsimp only at h B H;subst h;dsimp only;refine aG1 (wpS_lift (aGx ⟨rfl,?_⟩));refine aG1 (yS (lt:=lt) (c:=((none,k.fst,k.snd.fst,k.snd.snd.fst,c.snd.snd.snd.snd+1,k.snd.snd.snd.fst,k.snd.snd.snd.snd):OZ)) (λ_=>True) k.2.2.1.size rfl B rfl (λi z n p _ t _=>aHn (Q:=oA lt a b (z.2.2.2.1.size+1) n) ?_ λ_ _ q=>⟨q,λ_ _=>trivial⟩) λe l o _ v=>?_)
  ·split
   ·exact Z9 O C T (p.1.trans (f.1.trans u)) t (aFw _)
   ·exact Z9 O C T (p.1.trans (f.1.trans u)) t (aFw _)
  ·obtain⟨L,M⟩:=e
   rcases v with ⟨r,h,g⟩ | ⟨h,D,I⟩
   ·dsimp only at h;subst h;exact aG4 ⟨⟨f.trans o,.inl ⟨r,rfl,g⟩⟩,λm e=>by cases e;exact⟨r,rfl⟩⟩
   ·dsimp only at h D I;subst h;dsimp only;refine aG1 (sJ λJ y=>?_);exact aG4 ⟨⟨(f.trans o).trans y,rfl,.inr ⟨rfl,D,by dsimp only;lia⟩⟩,λm e=>by cases e⟩
theorem KH(O:Wk lt)(C:m8 prog w A s κ lt a₀)(T:D8 lt a₀ a b){Q:Array Keyed->SortSt->Prop}(u:kindOf st=κ)
  (h:∀r f,bV st f ->Good lt (a.toList++b.toList) r.toList->Q r f):wpS (model prog w) A E s (pY a b) Q st:=by
 rw[CP];have pa:=T.pa;have pb:=T.pb;refine aG1 (wpS_lift (aGx ⟨rfl,?_⟩));refine aG1 (c8 (by lia) ?_)
 have v:sW lt a b #[] a.size b.size:=by
  have q:a.toList.take a.size=a.toList:=aIs (by simp);have t:b.toList.take b.size=b.toList:=aIs (by simp);refine⟨by simp[q,t],by simp,by rw[q];exact T.sa,by rw[t];exact T.sb,by simp⟩
 have l:sW lt a b #[aO a (a.size-1)] (a.size-1) b.size:=by
  have:=v.xK pa (aFw _) λz hz=>T.last z (aH8 hz);simpa using this
 by_cases m:a.size-1=0
 ·rw[if_pos (by simp[m])];exact aG4 (h _ _ (bV.refl _) (l.FP (.inl m)))
 ·rw[if_neg (by simpa using m)];by_cases n:b.size=1
  ·rw[if_pos (by simpa using n)];exact aG4 (h _ _ (bV.refl _) (l.AH T n))
  ·rw[if_neg (by simpa using n)];refine aG1 (wpS_get ?_)
   have j:Jh lt a b #[aO a (a.size-1)] (a.size-1) b.size:=⟨l,by lia,by lia,by lia,aFw _,by simp;lia⟩
   refine aG1 (yS (lt:=lt) (c:=((none,a.size-1,b.size,#[aO a (a.size-1)],gallopOf st):OO)) (λc=>∃x,c.1=some x) 1 rfl j rfl (λi G f y _ B _=>O8 O C T (y.1.trans u) B) λd o p D F=>?_);obtain⟨H,I⟩:=d;obtain⟨x,e⟩:=D;dsimp only at e;subst e
   rcases F with ⟨r,k,g⟩ | ⟨k,_⟩
   ·dsimp only at k;cases k;exact aG4 (h x o p g)
   ·cases k
end
theorem lY(h:i<a.size):aO a i=a.toList[i]'(by simpa using h):=by
 have:=gL (xs:=a) (i:=i) h;rw[getElem?_pos a i h]at this;have:=aG8 this;rw[<-this];simp
def part(a:aJn)(i j:Nat):List Keyed:=(a.toList.take j).drop i
theorem lV(h:x∈part a i j):∃k,i<=k/\k<j/\k<a.size/\x=aO a k:=mem_mid h
theorem g8(h:j<=a.size):(part a i j).length=j-i:=by simp[part];lia
theorem EZ{i m j:Nat}(b:i<=m)(c:m<=j):part a i j=part a i m++part a m j:=by
 unfold part;have e:(a.toList.take j).drop i=((a.toList.take j).drop i).take (m-i)++((a.toList.take j).drop i).drop (m-i):=(aI5 _ _).symm;rw[e,List.drop_drop,show i+(m-i)=m by lia];congr 1;rw[<-List.drop_take,List.take_take];congr 2;lia
theorem uG{lt:aJl}(O:Wk lt)(b:j<=a.size):Seg lt a i j↔(part a i j).Pairwise λx y=>lt y x=false:=by
 constructor
 ·intro h;rw[List.pairwise_iff_getElem];intro p q d f g;rw[g8 b]at d f
  have e:∀k (c:k<j-i),(part a i j)[k]'(by rw[g8 b];exact c)=aO a (i+k):=λk c=>by
   rw[lY (by lia)];simp[part]
  rw[e p d,e q f];exact h _ _ (by lia) (by lia) (by lia)
 ·intro h p q d g f;by_cases l:p=q
  ·subst l;exact O.JA _
  ·rw[List.pairwise_iff_getElem]at h;have:=h (p-i) (q-i) (by rw[g8 b];lia) (by rw[g8 b];lia) (by lia)
   have e:∀k (c:k<j-i),(part a i j)[k]'(by rw[g8 b];exact c)=aO a (i+k):=λk c=>by
    rw[lY (by lia)];simp[part]
   rw[e _ (by lia),e _ (by lia),show i+(p-i)=p by lia,show i+(q-i)=q by lia]at this;exact this
theorem BF(b:i<=j)(c:j<=a.size):a.toList=a.toList.take i++(part a i j++a.toList.drop j):=by
 unfold part;rw[<-List.append_assoc]
 have:a.toList.take i++(a.toList.take j).drop i=a.toList.take j:=by
  have:=aI5 i (a.toList.take j)
  rwa [List.take_take,aJi b]at this
 rw[this,List.take_append_drop]
theorem B9(s:Nat):∀(r:List Keyed) (n:Nat) (a:aJn),s+n+r.length<=a.size->
  ((r.zipIdx n).foldl (λa (x:Keyed×Nat)=>a.setIfInBounds (s+x.2) x.1) a).toList=a.toList.take (s+n)++r++a.toList.drop (s+n+r.length)
 | [],n,a,h=>by simp
 | p::t,n,a,h=>by
  simp only[List.length_cons]at h;rw[List.zipIdx_cons,List.foldl_cons,B9 s t (n+1) _ (by simp;lia)];have b:(a.setIfInBounds (s+n) p).toList=a.toList.set (s+n) p:=by simp
  simp only[b]
  have c:(a.toList.set (s+n) p).take (s+(n+1))=a.toList.take (s+n)++[p]:=by
   rw[show s+(n+1)=s+n+1 by lia,List.take_add_one,List.take_set_of_le (Nat.le_refl _),List.getElem?_set_self (by simp;lia)];simp
  have d:(a.toList.set (s+n) p).drop (s+(n+1)+t.length)=a.toList.drop (s+n+(p::t).length):=by
   rw[List.drop_set_of_lt (by lia)];congr 1;simp;lia
  rw[c,d];simp
theorem vB{a b:aJn}(h:a.toList[i]? =b.toList[j]?):aO a i=aO b j:=IY (by simpa using h)
theorem CS(i:Nat):mergeAt' i=(do
 let s<-get
 match ((pendingOf s)[i]?,(pendingOf s)[i+1]?) with
 | (some (sa,na,power),some (sb,nb,_))=>do
  set (setPending s (((pendingOf s).setIfInBounds i (sa,na+nb,power)).eraseIdxIfInBounds (i+1)))
  let x<-elem' (arrOf s) sb
  let r<-dX false x (arrOf s) sa na 0
  match r with
  | some k=>
   if (na-k==0)=true then pure true else do
    let y<-elem' (arrOf s) (sa+k+(na-k)-1)
    let r<-dX true y (arrOf s) sb nb (nb-1)
    match r with
    | some m=>
     if (m==0)=true then pure true else do
      let merged<-if na-k<=m then pX ((arrOf s).extract (sa+k) sb) ((arrOf s).extract sb (sb+m)) else pY ((arrOf s).extract (sa+k) sb) ((arrOf s).extract sb (sb+m))
      modify λs=>setArr s (merged.toList.zipIdx.foldl (λa (x:Keyed×Nat)=>a.setIfInBounds (sa+k+x.2) x.1) (arrOf s))
      let s<-get
      pure (failedOf s).isNone
    | _=>pure false
  | _=>pure false
 | _=>unsupported "internal:list.sort.pending"):=by
 rfl
section
variable {prog:Program}{w:World}{A:Around}{E:aJk}{s:Shared}{a₀:aJn}{κ:SortKind}{lt:aJl}
theorem KD{σ:Type}{M:Model}{A:Around}{E:aJk}{s:Shared}{x:σ}{Q:PUnit->σ->Prop}{st:σ}(h:Q ⟨⟩ x):wpS M A E s (set x:StateT σ Sem PUnit) Q st:=aJ0 (f:=λ_=>x) h
theorem dU{i k:Nat}:(a.extract i k).toList=part a i k:=AF
theorem HF{i k j:Nat}(h:k<=a.size)(c:i+j<k):aO (a.extract i k) j=aO a (i+j):=by
 have b:j<(a.extract i k).size:=by rw[Array.size_extract];lia
 rw[lY b,lY (by lia)];simp
theorem QI{r:List Keyed}{s:Nat}(h:s+r.length<=a.size):∀b:aJn,b.toList=a.toList.take s++r++a.toList.drop (s+r.length)->∀j,(j<s\/s+r.length<=j)->aO b j=aO a j:=by
 intro b e j hj;refine vB ?_;rw[e];have c:(a.toList.take s).length=s:=by simp;lia
 rcases hj with hj | hj
 ·rw[List.append_assoc,List.getElem?_append_left (by lia),List.getElem?_take_of_lt hj]
 ·rw[List.getElem?_append_right (by simp;lia),List.getElem?_drop];congr 1;simp;lia
theorem KI(O:Wk lt)(C:m8 prog w A s κ lt a₀){i sa na pw nb pw2:Nat}{Q:Bool->SortSt->Prop}(hi:(pendingOf st)[i]? =some (sa,na,pw))(hj:(pendingOf st)[i+1]? =some (sa+na,nb,pw2))
  (o:1<=na) (l:1<=nb) (hz:sa+na+nb<=a₀.size) (hB:Base κ a₀ st) (J:Seg lt (arrOf st) sa (sa+na)) (K:Seg lt (arrOf st) (sa+na) (sa+na+nb))
  (h:∀z,Base κ a₀ z ->Seg lt (arrOf z) sa (sa+na+nb)->(∀k,(k<sa\/sa+na+nb<=k)->aO (arrOf z) k=aO (arrOf st) k)->
   pendingOf z =((pendingOf st).setIfInBounds i (sa,na+nb,pw)).eraseIdxIfInBounds (i+1)->Q true z):wpS (model prog w) A E s (mergeAt' i) Q st:=by
 rw[CS];refine aG1 (wpS_get ?_);rw[hi,hj];dsimp only;refine aG1 (KD ?_);have u:=hB.size;generalize G:setPending st (((pendingOf st).setIfInBounds i (sa,na+nb,pw)).eraseIdxIfInBounds (i+1))=st1;have L:Base κ a₀ st1:=by rw[<-G];exact⟨hB.perm,hB.kind,hB.JJ⟩
 have B:arrOf st1=arrOf st:=by rw[<-G]
 have W:pendingOf st1=((pendingOf st).setIfInBounds i (sa,na+nb,pw)).eraseIdxIfInBounds (i+1):=by rw[<-G]
 clear G;have mem:∀k,k<a₀.size->aO (arrOf st) k∈a₀.toList:=λk D=>hB.mem D;refine aG1 (c8 (by lia) ?_);refine aG1 (mL O C L.kind (by lia) (by lia) J (λi hi=>mem _ (by lia)) (mem _ (by lia)) λk D b1 b2=>?_);dsimp only
 have low:∀j,j<k->lt (aO (arrOf st) (sa+na)) (aO (arrOf st) (sa+j))=false:=λj hj=>by
  have e:=b1 j hj;simpa only[kA,Bool.false_eq_true,if_false,Bool.not_eq_true'] using e
 have upp:∀j,k<=j->j<na->lt (aO (arrOf st) (sa+na)) (aO (arrOf st) (sa+j))=true:=λj h3 h4=>by
  have e:=b2 j h3 h4;simpa only[kA,Bool.false_eq_true,if_false,Bool.not_eq_false'] using e
 by_cases n:na-k=0
 ·rw[if_pos (by simpa using n)];refine aG4 (h st1 L ?_ (λj _=>by rw[B]) W);rw[B];intro p q v c H;by_cases cp:p<sa+na
  ·by_cases X:q<sa+na
   ·exact J p q v c X
   ·have e:=low (p-sa) (by lia);rw[show sa+(p-sa)=p by lia]at e;exact O.tr _ _ _ e (K (sa+na) q (aFw _) (by lia) (by lia))
  ·exact K p q (by lia) c (by lia)
 rw[if_neg (by simpa using n)];refine aG1 (c8 (by lia) ?_);have b:sa+k+(na-k)-1=sa+na-1:=by lia
 rw[b];refine aG1 (mL O C L.kind (by lia) (by lia) K (λi hi=>mem _ (by lia)) (mem _ (by (clear b n D u l;lia))) λm t d1 d2=>?_);dsimp only
 have dlow:∀j,j<m->lt (aO (arrOf st) (sa+na+j)) (aO (arrOf st) (sa+na-1))=true:=λj hj=>by
  have e:=d1 j hj;simpa only[kA,if_true] using e
 have M:∀j,m<=j->j<nb->lt (aO (arrOf st) (sa+na+j)) (aO (arrOf st) (sa+na-1))=false:=λj h3 h4=>by
  have e:=d2 j h3 h4;simpa only[kA,if_true] using e
 by_cases g:m=0
 ·rw[if_pos (by simpa using g)];refine aG4 (h st1 L ?_ (λj _=>by rw[B]) W);rw[B];intro p q v c H;by_cases cp:p<sa+na
  ·by_cases X:q<sa+na
   ·exact J p q v c X
   ·have e:=M (q-(sa+na)) (by lia) (by lia);rw[show sa+na+(q-(sa+na))=q by lia]at e;exact O.tr _ _ _ (J p (sa+na-1) v (by (clear X H c v g t b n D u hz l o;lia)) (by (clear X cp H c v g t b n D u hz l;lia))) e
  ·exact K p q (by lia) c (by lia)
 rw[if_neg (by simpa using g)]
 have T:D8 lt a₀ ((arrOf st).extract (sa+k) (sa+na)) ((arrOf st).extract (sa+na) (sa+na+m)):=by
  refine⟨λx N=>?_,λx N=>?_,?_,?_,by rw[Array.size_extract];(clear g t b D l o;lia),by rw[Array.size_extract];lia,λx N=>?_,λy hy=>?_⟩
  ·rw[dU]at N;obtain⟨j,_,_,_,rfl⟩:=lV N;exact mem _ (by lia)
  ·rw[dU]at N;obtain⟨j,_,_,_,rfl⟩:=lV N;exact mem _ (by lia)
  ·rw[dU,<-uG O (by lia)];exact λp q v c H=>J p q (by lia) c H
  ·rw[dU,<-uG O (by lia)];exact λp q v c H=>K p q v c (by lia)
  ·rw[dU]at N;obtain⟨j,j1,j2,_,rfl⟩:=lV N;rw[HF (by lia) (by lia)];have e:=upp (j-sa) (by lia) (by lia);rw[show sa+(j-sa)=j by lia]at e;exact O.rE _ _ e
  ·rw[dU]at hy;obtain⟨j,j1,j2,_,rfl⟩:=lV hy;rw[Array.size_extract,HF (by lia) (by (clear j2 j1 g t b D u hz l o;lia)),show sa+k+(min (sa+na) (arrOf st).size-(sa+k)-1)=sa+na-1 by lia];have e:=dlow (j-(sa+na)) (by lia);rw[show sa+na+(j-(sa+na))=j by lia]at e;exact O.rE _ _ e
 have fin:∀(r:aJn) (d:SortSt),bV st1 d->Good lt (((arrOf st).extract (sa+k) (sa+na)).toList++((arrOf st).extract (sa+na) (sa+na+m)).toList) r.toList->
   wpS (model prog w) A E s (do
    modify λs=>setArr s (r.toList.zipIdx.foldl (λa (x:Keyed×Nat)=>a.setIfInBounds (sa+k+x.2) x.1) (arrOf s))
    let s<-get
    pure (failedOf s).isNone) Q d:=λr d P Y=>by
  refine aG1 (aJ0 ?_);refine aG1 (wpS_get ?_);have ar2:arrOf d=arrOf st:=P.2.1.trans B;have hf2:failedOf d=none:=P.2.2.2.trans L.JJ
  have R:r.toList.length=na-k+m:=by
   have:=Y.1.length_eq;rw[List.length_append,dU,dU,g8 (by lia),g8 (by lia)]at this
   lia
  have pl:=B9 (sa+k) r.toList 0 (arrOf st) (by (clear g b n l o;lia));simp only[Nat.add_zero]at pl;generalize ha2:(r.toList.zipIdx.foldl (λa (x:Keyed×Nat)=>a.setIfInBounds (sa+k+x.2) x.1) (arrOf st))=a2 at pl;have hset:setArr d (r.toList.zipIdx.foldl (λa (x:Keyed×Nat)=>a.setIfInBounds (sa+k+x.2) x.1) (arrOf d))=setArr d a2:=by rw[ar2,ha2]
  rw[hset];have fn:(failedOf (setArr d a2)).isNone=true:=by show (failedOf d).isNone=true;rw[hf2];rfl
  rw[fn]
  have rp:r.toList.Perm (part (arrOf st) (sa+k) (sa+na+m)):=by
   have:=Y.1;rw[dU,dU,<-EZ (by lia) (by lia)]at this;exact this
  have S:a2.Perm (arrOf st):=by
   rw[Array.perm_iff_toList_perm,pl];have e:=BF (a:=arrOf st) (i:=sa+k) (j:=sa+na+m) (by lia) (by lia);rw[show sa+k+r.toList.length=sa+na+m by (clear g t b n u hz l o;lia),List.append_assoc];rw[e]
   conv=>lhs;rw[<-e]
   exact aI3 _ (aHz _ rp)
  have f:a2.size=(arrOf st).size:=S.size_eq;have U:=QI (a:=arrOf st) (r:=r.toList) (s:=sa+k) (by (clear f g b n l o;lia)) a2 pl;rw[show sa+k+r.toList.length=sa+na+m by (clear f g t b n u hz l o;lia)]at U
  have mid:part a2 (sa+k) (sa+na+m)=r.toList:=by
   unfold part;rw[pl,show sa+k+r.toList.length=sa+na+m by (clear f g t b n u hz l o;lia)];have l1:((arrOf st).toList.take (sa+k)).length=sa+k:=by simp;(clear f R g t b n l o;lia)
   rw[List.append_assoc,List.take_append,l1,List.drop_append,List.length_take,l1,List.drop_of_length_le (by simp;(clear l1 f R g t b n D u hz l o;lia))];rw[show sa+k-min (sa+na+m) (sa+k)=0 by (clear l1 f R g t b n u hz l o;lia),List.drop_zero,List.nil_append,List.take_append,R,show sa+na+m-(sa+k)-(na-k+m)=0 by (clear l1 f R g t b n D u hz l o;lia)];simp;rw[List.take_of_length_le (by simp at R⊢;(clear l1 f g t b n u hz l o;lia))]
  refine aG4 (h (setArr d a2) ⟨S.trans hB.perm,P.1.trans L.kind,hf2⟩ ?_ (λj hj=>U j (by lia)) (P.2.2.1.trans W));show Seg lt a2 sa (sa+na+nb)
  have F:∀j,sa+k<=j->j<sa+na+m->∃i,sa+k<=i/\i<sa+na+m/\aO a2 j=aO (arrOf st) i:=λj h3 h4=>by
   have:aO a2 j∈part a2 (sa+k) (sa+na+m):=by
    unfold part;rw[lY (by lia)];have hl:j-(sa+k)<((a2.toList.take (sa+na+m)).drop (sa+k)).length:=by simp;lia
    have:=aHx hl;simp only[List.getElem_drop,List.getElem_take]at this;simpa[show sa+k+(j-(sa+k))=j by lia] using this
   rw[mid]at this;obtain⟨i,I,V,_,e⟩:=lV (rp.mem_iff.mp this);exact⟨i,I,V,e⟩
  have smid:Seg lt a2 (sa+k) (sa+na+m):=by rw[uG O (by lia),mid];exact Y.2
  have z1:∀p i,sa<=p->p<sa+k->sa+k<=i->i<sa+na+nb->lt (aO (arrOf st) i) (aO (arrOf st) p)=false:=λp i p1 p2 I V=>by
   by_cases ci:i<sa+na
   ·exact J p i p1 (by lia) ci
   ·have e:=low (p-sa) (by lia);rw[show sa+(p-sa)=p by lia]at e;exact O.tr _ _ _ e (K (sa+na) i (aFw _) (by lia) (by lia))
  have z3:∀i q,sa+k<=i->i<sa+na+m->sa+na+m<=q->q<sa+na+nb->lt (aO (arrOf st) q) (aO (arrOf st) i)=false:=λi q I V q1 q2=>by
   by_cases ci:i<sa+na
   ·have e:=M (q-(sa+na)) (by lia) (by lia);rw[show sa+na+(q-(sa+na))=q by lia]at e;exact O.tr _ _ _ (J i (sa+na-1) (by lia) (by (clear q2 q1 V I f R g t b n D u hz l o;lia)) (by (clear ci q2 q1 V I f R g t b n D u hz l;lia))) e
   ·exact K i q (by lia) (by lia) (by lia)
  intro p q v c H;by_cases cp:p<sa+k
  ·rw[U p (.inl cp)];by_cases X:q<sa+k
   ·rw[U q (.inl X)];exact J p q v c (by lia)
   ·by_cases Z:q<sa+na+m
    ·obtain⟨i,I,V,e⟩:=F q (by lia) Z;rw[e];exact z1 p i v cp I (by lia)
    ·rw[U q (.inr (by lia))];exact z1 p q v cp (by lia) H
  ·by_cases cp2:p<sa+na+m
   ·by_cases Z:q<sa+na+m
    ·exact smid p q (by lia) c Z
    ·rw[U q (.inr (by lia))];obtain⟨i,I,V,e⟩:=F p (by lia) cp2;rw[e];exact z3 i q I V (by lia) H
   ·rw[U p (.inr (by lia)),U q (.inr (by lia))];exact K p q (by lia) c (by lia)
 by_cases c3:na-k<=m
 ·rw[if_pos c3];exact aG1 (KG O C T L.kind λr d P Y=>fin r d P Y)
 ·rw[if_neg c3];exact aG1 (KH O C T L.kind λr d P Y=>fin r d P Y)
end
abbrev Run:=Nat×Nat×Nat
def eE(r:Run):Nat×Nat:=(r.1,r.2.1)
def Chain:Nat->List (Nat×Nat)->Nat->Prop
 | s,[],e=>s=e
 | s,r::l,e=>r.1=s/\1<=r.2/\Chain (s+r.2) l e
theorem m5:∀{l m:List (Nat×Nat)} {s e:Nat},Chain s (l++m) e↔∃x,Chain s l x/\Chain x m e
 | [],m,s,e=>by simp[Chain]
 | r::l,m,s,e=>by
  simp only[List.cons_append,Chain,m5 (l:=l) (m:=m)];constructor
  ·rintro⟨a,b,x,c,d⟩;exact⟨x,⟨a,b,c⟩,d⟩
  ·rintro⟨x,⟨a,b,c⟩,d⟩;exact⟨a,b,x,c,d⟩
theorem m4:∀{l:List (Nat×Nat)} {s e:Nat},Chain s l e->s+l.length<=e
 | [],s,e,h=>by simp[Chain]at h;simp;lia
 | r::l,s,e,h=>by
  obtain⟨_,b,a⟩:=h;have:=m4 a;simp;lia
theorem m3:∀{l:List (Nat×Nat)} {s e:Nat},Chain s l e->∀r∈l,s<=r.1/\r.1+r.2<=e/\1<=r.2
 | [],s,e,h,r,a=>by cases a
 | q::l,s,e,h,r,a=>by
  obtain⟨d,c,b⟩:=h;rcases aFx.mp a with z | z
  ·subst z;have:=m4 b;exact⟨by lia,by lia,c⟩
  ·have:=m3 b r z;exact⟨by lia,this.2⟩
structure Wait(κ:SortKind)(lt:aJl)(a₀:aJn)(st:SortSt)(lo:Nat):Prop where
 base:Base κ a₀ st
 ch:Chain 0 ((pendingOf st).toList.map eE) lo
 sg:∀r∈(pendingOf st).toList,Seg lt (arrOf st) r.1 (r.1+r.2.1)
 le:lo<=a₀.size
section
variable {prog:Program}{w:World}{A:Around}{E:aJk}{s:Shared}{a₀:aJn}{κ:SortKind}{lt:aJl}
theorem pI{a b:aJn}(h:∀k,i<=k->k<j->aO b k=aO a k)(g:Seg lt a i j):Seg lt b i j:=λp q d c e=>by
 rw[h p d (by lia),h q (by lia) e];exact g p q d c e
theorem VB{p:List Run}(h:i+1<p.length):∃pre b c a,p=pre++b::c::a/\pre.length=i:=by
 refine⟨p.take i,p[i]'(by lia),p[i+1],p.drop (i+2),?_,by simp;lia⟩;have d:=List.drop_eq_getElem_cons (l:=p) (i:=i) (by lia);have e:=List.drop_eq_getElem_cons (l:=p) (i:=i+1) h;rw[<-e,<-d,List.take_append_drop]
theorem GA(O:Wk lt)(C:m8 prog w A s κ lt a₀){i lo:Nat}{Q:Bool->SortSt->Prop}(W:Wait κ lt a₀ st lo)(hi:i+1<(pendingOf st).size)
  (h:∀a,Wait κ lt a₀ a lo->(pendingOf a).size+1=(pendingOf st).size->(∀k,lo<=k->aO (arrOf a) k=aO (arrOf st) k)->Q true a):wpS (model prog w) A E s (mergeAt' i) Q st:=by
 obtain⟨pre,g,j,b,e,m⟩:=VB (p:=(pendingOf st).toList) (i:=i) (by simpa using hi)
 have H:(pendingOf st)[i]? =some g:=by
  have:(pendingOf st).toList[i]? =some g:=by rw[e,<-m];simp
  simpa using this
 have I:(pendingOf st)[i+1]? =some j:=by
  have:(pendingOf st).toList[i+1]? =some j:=by rw[e,<-m];simp
  simpa using this
 have ch:=W.ch;rw[e,List.map_append]at ch;obtain⟨x,t,u⟩:=m5.mp ch;simp only[List.map_cons,Chain,eE]at u;obtain⟨v,y,D,F,l⟩:=u;have len:=m4 l;have s1:=W.sg g (by rw[e];simp);have s2:=W.sg j (by rw[e];simp);obtain⟨c,d,J⟩:=g;obtain⟨N,f,P⟩:=j;dsimp only at v y D F l s1 s2 len;subst v D;have le:=W.le;refine KI O C H I y F (by lia) W.base s1 s2 λa B sg n K=>?_
 have o:(pendingOf a).toList=pre++(c,d+f,J)::b:=by
  rw[K,Array.toList_eraseIdxIfInBounds,Array.toList_setIfInBounds,e,<-m];simp;rw[List.eraseIdx_append_of_length_le (by lia)];simp[show pre.length+1-pre.length=1 by lia]
 refine h a ⟨B,?_,λr G=>?_,W.le⟩ ?_ λk R=>n k (.inr (by lia))
 ·rw[o,List.map_append];refine m5.mpr ⟨c,t,?_⟩;simp only[List.map_cons,Chain,eE];exact⟨trivial,by lia,by rw[show c+(d+f)=c+d+f by lia];exact l⟩
 ·rw[o]at G;rcases aFv.mp G with z | z
  ·have q:eE r∈pre.map eE:=aG0.mpr ⟨r,z,rfl⟩;have:=m3 t _ q;simp only[eE]at this;exact pI (λk L M=>n k (.inl (by lia))) (W.sg r (by rw[e];simp[z]))
  ·rcases aFx.mp z with z | z
   ·subst z;show Seg lt _ c (c+(d+f));rw[show c+(d+f)=c+d+f by lia];exact sg
   ·have q:eE r∈b.map eE:=aG0.mpr ⟨r,z,rfl⟩;have:=m3 l _ q;simp only[eE]at this;exact pI (λk L M=>n k (.inr (by lia))) (W.sg r (by rw[e];simp[z]))
 ·have:=aGs List.length o;have:=aGs List.length e;simp at*
  lia
theorem CK{p:Array Run}{i pw:Nat}:(p.modify i λ(x:Run)=>(x.1,x.2.1,pw)).toList.map eE=p.toList.map eE/\(p.modify i λ(x:Run)=>(x.1,x.2.1,pw)).size=p.size:=by
 refine⟨?_,by simp⟩;rw[Array.toList_modify];apply aIt;intro j;simp only[List.getElem?_map,List.getElem?_modify];by_cases h:i=j
 ·subst h;cases p.toList[i]? <;> simp[eE]
 ·simp[h]
end
section
variable {prog:Program}{w:World}{A:Around}{E:aJk}{s:Shared}{a₀:aJn}{κ:SortKind}{lt:aJl}
theorem Wait.power{lo pw i:Nat}(W:Wait κ lt a₀ st lo):Wait κ lt a₀ (setPending st ((pendingOf st).modify i λ(x:Run)=>(x.1,x.2.1,pw))) lo:=by
 obtain⟨b,c,g,l⟩:=W;have mb:=CK (p:=pendingOf st) (i:=i) (pw:=pw);refine⟨⟨b.perm,b.kind,b.JJ⟩,?_,λr d=>?_,l⟩
 ·show Chain 0 (((pendingOf st).modify i λ(x:Run)=>(x.1,x.2.1,pw)).toList.map eE) lo;rw[mb.1];exact c
 ·have a :r∈((pendingOf st).modify i λ(x:Run)=>(x.1,x.2.1,pw)).toList:=d;have:eE r∈(pendingOf st).toList.map eE:=by rw[<-mb.1];exact aG0.mpr ⟨r,a,rfl⟩
  obtain⟨q,f,e⟩:=aG0.mp this;simp only[eE,Prod.mk.injEq]at e;have:=g q f;rw[e.1,e.2]at this;exact this
theorem Wait.push{lo n:Nat}(W:Wait κ lt a₀ st lo)(d:1<=n)(e:lo+n<=a₀.size)(g:Seg lt (arrOf st) lo (lo+n)):Wait κ lt a₀ (setPending st ((pendingOf st).push (lo,n,0))) (lo+n):=by
 obtain⟨b,c,f,l⟩:=W;refine⟨⟨b.perm,b.kind,b.JJ⟩,?_,λr h=>?_,e⟩
 ·show Chain 0 (((pendingOf st).push (lo,n,0)).toList.map eE) (lo+n);simp only[Array.toList_push,List.map_append];exact m5.mpr ⟨lo,c,rfl,d,rfl⟩
 ·have a :r∈((pendingOf st).push (lo,n,0)).toList:=h;simp only[Array.toList_push]at a;rcases aFv.mp a with z | z
  ·exact f r z
  ·simp at z;subst z;exact g
theorem Wait.held{st a :SortSt}{lo:Nat}(W:Wait κ lt a₀ st lo)(B:Base κ a₀ a)(k:∀j,j<lo->aO (arrOf a) j=aO (arrOf st) j)(p:pendingOf a =pendingOf st):Wait κ lt a₀ a lo:=by
 obtain⟨b,c,e,l⟩:=W;refine⟨B,by rw[p];exact c,λr d=>?_,l⟩;rw[p]at d;have:=m3 c (eE r) (aG0.mpr ⟨r,d,rfl⟩);simp only[eE]at this;exact pI (λj f g=>k j (by lia)) (e r d)
def GX(lo n size:Nat):StateT SortSt Sem (ForInStep (Option Unit×Nat)):=do
 modify λs=>setPending s ((pendingOf s).push (lo,n,0))
 pure (.yield (none,lo+n))
def xY(lo n size:Nat):StateT SortSt Sem (ForInStep (Option Unit×Nat)):=do
 let g<-get
 match (pendingOf g).back? with
 | some (s1,d,_)=>do
  let c<-forIn [:size] ((none,()):Option Unit×Unit) λ_ _=>do
   let g<-get
   match (if (pendingOf g).size > 1 then (pendingOf g)[(pendingOf g).size-2]? else none) with
   | some (_,_,a)=>if a<=power' size (2*s1+d) (2*s1+d+d+n) size then pure (.done (none,())) else do
     let b<-mergeAt' ((pendingOf g).size-2)
     if (!b)=true then pure (.done (some (),())) else pure (.yield (none,()))
   | _=>pure (.done (none,()))
  match c.fst with
  | some r=>pure (.done (some r,lo))
  | none=>do
   modify λs=>setPending s ((pendingOf s).modify ((pendingOf s).size-1) λ(x:Run)=>(x.1,x.2.1,power' size (2*s1+d) (2*s1+d+d+n) size))
   GX lo n size
 | _=>GX lo n size
def GJ(size a lo:Nat):StateT SortSt Sem (ForInStep (Option Unit×Nat)):=
 if lo>=size then pure (.done (none,lo)) else countRun' lo (size-lo) >>=λr=>match r with
  | some n=>if n<a then liftM (rule "list.sort.binary-insertion") >>=λ_=>binarySort' lo (min (size-lo) a) n >>=λb=>if (!b)=true then pure (.done (some (),lo)) else xY lo (min (size-lo) a) size
    else xY lo n size
  | none=>pure (.done (some (),lo))
def UA(size:Nat):StateT SortSt Sem (ForInStep (Option Unit×Unit)):=do
 let g<-get
 if (pendingOf g).size<=1 then pure (.done (none,())) else do
  let b<-mergeAt' (if (if (pendingOf g).size-2 > 0 then (pendingOf g)[(pendingOf g).size-2-1]?.map (·.2.1) else none).any (· < ((pendingOf g)[(pendingOf g).size-2+1]?.elim 0 (·.2.1))) then (pendingOf g).size-2-1 else (pendingOf g).size-2)
  if (!b)=true then pure (.done (some (),())) else pure (.yield (none,()))
theorem K3:sortRuns' =(do
  let g<-get
  let c<-forIn [:(arrOf g).size] ((none,0):Option Unit×Nat) λ_ c=>GJ (arrOf g).size (minRun' (arrOf g).size (arrOf g).size 0) c.snd
  match c.fst with
  | some r=>pure r
  | none=>do
   let d<-forIn [:(arrOf g).size] ((none,()):Option Unit×Unit) λ_ _=>UA (arrOf g).size
   match d.fst with
   | some r=>pure r
   | none=>pure ()):=by
 rw[sortRuns'_eq];refine aH1 λg=>?_;dsimp only;have key:∀(n:Nat) (f f' :Nat->Option Unit×Nat->StateT SortSt Sem (ForInStep (Option Unit×Nat))) (k e :Option Unit×Nat->StateT SortSt Sem Unit) (i:Option Unit×Nat),f=f' ->k=e ->(forIn [:n] i f >>=k)=(forIn [:n] i f' >>=e):=λn f f' k e i l m=>by rw[l,m]
 refine key _ _ _ _ _ _ (funext λx=>funext λc=>?_) (funext λc=>?_)
 ·have a:∀(n:Nat) (f f' :Nat->Option Unit×Unit->StateT SortSt Sem (ForInStep (Option Unit×Unit))) (k e :Option Unit×Unit->StateT SortSt Sem (ForInStep (Option Unit×Nat))) (i:Option Unit×Unit),f=f' ->k=e ->(forIn [:n] i f >>=k)=(forIn [:n] i f' >>=e):=λn f f' k e i l m=>by rw[l,m]
  unfold GJ;refine aIp rfl (λ_=>rfl) (λ_=>?_);refine aH1 λr=>?_
  cases r with
  | none=>rfl
  | some n=>
   refine aIp rfl (λ_=>?_) (λ_=>?_)
   ·refine aH1 λ_=>?_;refine aH1 λb=>?_;refine aIp rfl (λ_=>rfl) (λ_=>?_);unfold xY;refine aH1 λo=>?_
    cases (pendingOf o).back? with
    | none=>rfl
    | some r=>
     obtain⟨s1,q,s⟩:=r;refine a _ _ _ _ _ _ (funext λx=>funext λc=>aH1 λh=>?_) (funext λc=>?_)
     ·cases (if (pendingOf h).size > 1 then (pendingOf h)[(pendingOf h).size-2]? else none) with
      | none=>rfl
      | some r=>rfl
     ·obtain⟨j,p⟩:=c;cases j <;> rfl
   ·unfold xY;refine aH1 λo=>?_
    cases (pendingOf o).back? with
    | none=>rfl
    | some r=>
     obtain⟨s1,q,s⟩:=r;refine a _ _ _ _ _ _ (funext λx=>funext λc=>aH1 λh=>?_) (funext λc=>?_)
     ·cases (if (pendingOf h).size > 1 then (pendingOf h)[(pendingOf h).size-2]? else none) with
      | none=>rfl
      | some r=>rfl
     ·obtain⟨j,p⟩:=c;cases j <;> rfl
 ·obtain⟨j,p⟩:=c
  cases j with
  | some r=>rfl
  | none=>
   refine aH1 λd=>?_;obtain⟨t,u⟩:=d;cases t <;> rfl
variable{Q:ForInStep (Option Unit×Nat)->SortSt->Prop}
theorem TX(O:Wk lt)(C:m8 prog w A s κ lt a₀){lo n size:Nat}(W:Wait κ lt a₀ st lo)(l:1<=n)(m:lo+n<=a₀.size)(g:Seg lt (arrOf st) lo (lo+n))
  (h:∀d,Wait κ lt a₀ d (lo+n)->Q (.yield (none,lo+n)) d):wpS (model prog w) A E s (xY lo n size) Q st:=by
 have push:∀a,Wait κ lt a₀ a lo->Seg lt (arrOf a) lo (lo+n)->wpS (model prog w) A E s (GX lo n size) Q a:=λa b o=>by
  unfold GX;exact aG1 (aJ0 (aG4 (h _ (b.push l m o))))
 unfold xY;refine aG1 (wpS_get ?_)
 cases hb:(pendingOf st).back? with
 | none=>exact push st W g
 | some r=>
  obtain⟨s1,v,y⟩:=r;dsimp only;refine aG1 (aHn (aHc (I:=λ_ c a=>c=(none,())/\Wait κ lt a₀ a lo/\∀k,lo<=k->aO (arrOf a) k=aO (arrOf st) k) (Q:=λc a=>c=(none,())/\Wait κ lt a₀ a lo/\∀k,lo<=k->aO (arrOf a) k=aO (arrOf st) k) ?_ (λ_ _ r=>r) ⟨rfl,W,λ_ _=>rfl⟩) ?_)
  ·rintro x c a _ _ ⟨rfl,b,f⟩;refine aG1 (wpS_get ?_);by_cases i:(pendingOf a).size > 1
   ·rw[if_pos i];have e:(pendingOf a)[(pendingOf a).size-2]? =some ((pendingOf a)[(pendingOf a).size-2]'(by lia)):=by simp
    rw[e];generalize (pendingOf a)[(pendingOf a).size-2]'(by lia)=r;obtain⟨z,B,D⟩:=r;dsimp only;split
    ·exact aG4 ⟨rfl,b,f⟩
    ·refine aG1 (GA O C b (by lia) λp q _ t=>?_);exact aG4 ⟨rfl,q,λk j=>(t k j).trans (f k j)⟩
   ·rw[if_neg i];exact aG4 ⟨rfl,b,f⟩
  ·rintro c a ⟨rfl,b,f⟩;dsimp only;refine aG1 (aJ0 ?_);exact push _ b.power (pI (λk u _=>f k u) g)
theorem ZZ(O:Wk lt)(C:m8 prog w A s κ lt a₀){lo g:Nat}(W:Wait κ lt a₀ st lo)
  (hd:lo=a₀.size->Q (.done (none,lo)) st) (h:∀n a,1<=n->Wait κ lt a₀ a (lo+n)->Q (.yield (none,lo+n)) a):wpS (model prog w) A E s (GJ a₀.size g lo) Q st:=by
 have le:=W.le;unfold GJ;by_cases c:lo>=a₀.size
 ·rw[if_pos c];exact aG4 (hd (by lia))
 ·rw[if_neg c];refine aG1 (UP O C (by lia) (by lia) W.base λm d i m1 m2 b held=>?_);have j:Wait κ lt a₀ d lo:=W.held i held.1 held.2;dsimp only;by_cases less:m<g
  ·rw[if_pos less];refine aG1 (wpS_lift (aGx ⟨rfl,?_⟩));refine aG1 (O9 O C (by lia) (by lia) i b λk l e o p=>?_);exact TX O C (j.held l o p) (by lia) (by lia) e λa f =>h _ a (by lia) f
  ·rw[if_neg less];exact TX O C j m1 (by lia) b λa f =>h _ a m1 f
theorem idx(b:Prop)[Decidable b](n:Nat)(h:2<=n):(if b then n-2-1 else n-2)+1<n:=by split <;> lia
theorem UO(O:Wk lt)(C:m8 prog w A s κ lt a₀){Q:Unit->SortSt->Prop}(j:Base κ a₀ st)(f:pendingOf st= #[])
  (h:∀b,Base κ a₀ b ->Seg lt (arrOf b) 0 a₀.size->Q () b):wpS (model prog w) A E s sortRuns' Q st:=by
 have o:=j.size;rw[K3];refine aG1 (wpS_get ?_);simp only[o]
 have t:Wait κ lt a₀ st 0:=⟨j,by rw[f];rfl,λr k=>by rw[f]at k;simp at k,by lia⟩
 refine aG1 (aHn (aHc
  (I:=λx c b =>∃lo,c=(none,lo)/\x<=lo/\Wait κ lt a₀ b lo)
  (Q:=λc b =>c=(none,a₀.size)/\Wait κ lt a₀ b a₀.size) ?turn ?last ⟨0,rfl,aFw _,t⟩) ?rest)
 case last=>
  rintro c b ⟨lo,rfl,m,W⟩;have:=W.le;obtain rfl:lo=a₀.size:=by lia
  exact⟨rfl,W⟩
 case turn=>
  rintro x c b _ m ⟨lo,rfl,u,W⟩
  refine ZZ O C W (λe=>?_) λn a z d=>⟨lo+n,rfl,by lia,d⟩
  subst e;exact⟨rfl,W⟩
 case rest=>
  rintro c b ⟨rfl,W⟩;dsimp only
  have hsz:(pendingOf b).size<=a₀.size:=by
   have:=m4 W.ch;simp at this;lia
  refine aG1 (aHn (aHc (I:=λx c a=>c=(none,())/\Wait κ lt a₀ a a₀.size/\((pendingOf a).size<=1\/(pendingOf a).size+x<=a₀.size)) (Q:=λc a=>c=(none,())/\Wait κ lt a₀ a a₀.size/\(pendingOf a).size<=1) ?_ ?_ ⟨rfl,W,.inr (by lia)⟩) ?_)
  ·rintro x c a _ m ⟨rfl,d,g⟩;unfold UA;refine aG1 (wpS_get ?_);by_cases i:(pendingOf a).size<=1
   ·rw[if_pos i];exact aG4 ⟨rfl,d,i⟩
   ·rw[if_neg i];refine aG1 (GA O C d (idx _ _ (by lia)) λv y B _=>?_);exact aG4 ⟨rfl,y,.inr (by lia)⟩
  ·rintro c a ⟨rfl,d,g⟩;exact⟨rfl,d,by simp at g;lia⟩
  ·rintro c a ⟨rfl,d,g⟩;dsimp only;refine aG4 (h a d.base ?_);have ch:=d.ch
   cases hl:(pendingOf a).toList with
   | nil=>
    rw[hl]at ch;simp[Chain]at ch;intro p q _ _ D;lia
   | cons r l=>
    have:l=[]:=by
     have:=aGs List.length hl;simp at this;exact aH7.mp (by lia)
    subst this;rw[hl]at ch;simp only[List.map_cons,List.map_nil,Chain,eE]at ch;have:=d.sg r (by rw[hl];simp);rw[ch.1,ch.2.2]at this;exact this
end
section
variable {prog:Program}{w:World}{A:Around}{E:aJk}{s:Shared}{a₀:aJn}{κ:SortKind}{lt:aJl}
variable{vs:List Value}
theorem PZ(g:xs.Perm (pairsOf vs))(sg:Seg lt xs 0 vs.length):
  ((xs.map (·.2)).toList).Perm vs/\((xs.map (·.2)).toList).Pairwise (λx y=>lt (y,y) (x,x)=false):=by
 have h:xs.toList.Perm (vs.zip vs):=by rw[<-pairsOf_toList];exact Array.perm_iff_toList_perm.mp g
 have same:∀p∈xs.toList,p=(p.2,p.2):=λp b=>by
  have m:=h.mem_iff.mp b
  have:∀(l:List Value) (q:Keyed),q∈l.zip l->q=(q.2,q.2):=λl q c=>by
   induction l with
   | nil=>simp at c
   | cons v r n=>
    rw[List.zip_cons_cons]at c;rcases aFx.mp c with e | e
    ·rw[e]
    ·exact n e
  exact this vs p m
 have hsz:xs.size=vs.length:=by have:=g.size_eq;rw[pairsOf_size]at this;exact this
 refine⟨?_,?_⟩
 ·rw[Array.toList_map];have:=h.map (·.2)
  rwa [show (vs.zip vs).map (·.2)=vs from List.map_snd_zip (aFw _)]at this
 ·rw[Array.toList_map,List.pairwise_map];rw[List.pairwise_iff_getElem];intro i j hi k d;have f :i<xs.size:=by simpa using hi
  have a :j<xs.size:=by simpa using k
  have q:=sg i j (aH2 _) (aHr d) (by rw[<-hsz];exact a);have o:aO xs i=xs.toList[i]:=by unfold aO;rw[getElem?_pos xs i f];simp
  have s:aO xs j=xs.toList[j]:=by unfold aO;rw[getElem?_pos xs j a];simp
  rw[o,s]at q;rw[same _ (List.getElem_mem hi),same _ (List.getElem_mem k)]at q;exact q
theorem EN(O:Wk lt){a:Addr}{n:Nat}{P:PySem.Fin->Shared->Prop}(ho:s.heap.get? a=some (seqObj "list" vs.toArray n))(u:vs.length<4000)
  (v:2<=vs.length->∀h' :Heap,(∀b o,b≠a->s.heap.get? b=some o->h'.get? b=some o)->m8 prog w A {s with heap:=h'} κ lt (pairsOf vs)/\
   ∀l,l κ {s with heap:=h'}->wpAny (model prog w) A (keyKind' vs.toArray) l E {s with heap:=h'})
  (h:∀out:List Value,out.Perm vs->out.Pairwise (λx y=>lt (y,y) (x,x)=false)->P (.done (.ret .none)) {s with heap:=sortedHeap s.heap a vs out.toArray}):
  wpAny (model prog w) A (Builtin.«list.sort» ⟨[.ref a],[]⟩) P E s:=by
 have la:a<s.heap.objs.size:=aG2 ho;have G:sizeLine=16777216:=aGe
 obtain⟨j,o1⟩:∃j,(s.heap.update a (Obj.mapSeq λ_=>#[])).get? a=some (seqObj "list" #[] j):=⟨_,get?_update_seq ho λ_=>#[]⟩
 have m:(((s.heap.update a (Obj.mapSeq λ_=>#[])).push (seqObj "tuple" vs.toArray 0)).push (seqObj "list" #[] 0)).get? a=some (seqObj "list" #[] j):=aFr _ (aFr _ o1)
 have f:∀b o,b≠a->s.heap.get? b=some o->(((s.heap.update a (Obj.mapSeq λ_=>#[])).push (seqObj "tuple" vs.toArray 0)).push (seqObj "list" #[] 0)).get? b=some o:=λb o hb e=>
  aFr _ (aFr _ (by rw[Heap.get?_update_ne _ _ _ _ hb];exact e))
 have d:∀c :SortSt,(arrOf c).Perm (pairsOf vs)->Seg lt (arrOf c) 0 vs.length->failedOf c =none->wpAny (model prog w) A (do
   let touched:=(<-seqEpoch a) !=j
   Builtin.List.listUpdate (.ref a) λ_=>(arrOf c).map (·.2)
   if let some e:=failedOf c then rule "list.sort.comparison-raised";throw e
   if touched then rule "list.sort.modified";raiseError "ValueError" "list modified during sort"
   ret .none) P E {s with heap:=((s.heap.update a (Obj.mapSeq λ_=>#[])).push (seqObj "tuple" vs.toArray 0)).push (seqObj "list" #[] 0)}:=λc t sg z=>by
  obtain⟨B,C⟩:=PZ t sg
  have H:((arrOf c).map (·.2)).size<=sizeLine:=by
   rw[Array.size_map];have:=t.size_eq;rw[pairsOf_size]at this
   lia
  refine aFo (seqEpoch_at m rfl ?_);refine aFo (listUpdate_at m rfl ?_ (hsz2:=by lia));rw[z];simp only[bne_self_eq_false,Bool.false_eq_true,if_false];have fin:=h _ B C;rw[Array.toArray_toList]at fin;exact aFq fin
 rw[list_sort_plain];refine aFo (listItems_at ho rfl ?_);refine aFo (listUpdate_at ho rfl ?_ (by rw[List.size_toArray];lia) (aH2 _));refine aFo (seqEpoch_at o1 rfl ?_);refine aFo (aIa ?_ (by show vs.length<=_;lia));refine aFo (aJg ?_ (aH2 _));refine aGj ?_;dsimp only;by_cases J4:vs.length<2
 ·have g :vs.toArray.size<2:=by rw[List.size_toArray];exact J4
  rw[if_pos g,if_pos g];refine aFo (aFq ?_);rw[StateT.run_pure];refine aFo (aFq ?_)
  exact d (SortSt.mk' general' (vs.toArray.zip vs.toArray) #[] 7 none) (Array.Perm.refl _) (λp q _ D I=>by
   obtain rfl:p=q:=by lia
   exact O.JA _) rfl
 ·have i:¬vs.toArray.size<2:=by rw[List.size_toArray];exact J4
  rw[if_neg i,if_neg i];obtain⟨k,kind⟩:=v (by lia) _ f;refine aFo (kind _ ?_)
  refine aFo (aGi (UO (Q:=λ_ c =>Base κ (pairsOf vs) c /\Seg lt (arrOf c) 0 (pairsOf vs).size) O k (st:=SortSt.mk' κ (vs.toArray.zip vs.toArray) #[] 7 none) ⟨Array.Perm.refl _,rfl,rfl⟩ rfl
   λc b sg=>⟨b,sg⟩) (λr J F=>?_) λ_ _ e=>e)
  obtain⟨⟨⟩,c⟩:=r;obtain⟨rfl,b,sg⟩:=F;rw[pairsOf_size]at sg;exact d c b.perm sg b.JJ
theorem K1(O:Wk lt){l:Addr}{Q:aJk}(d:s.heap.IsList l vs.toArray)(c:vs.length<4000)
  (f:2<=vs.length->∀h' :Heap,(∀b o,s.heap.get? b=some o->h'.get? b=some o)->m8 prog w A.in1.in1 {s with heap:=h'} κ lt (pairsOf vs)/\
   ∀a g,a κ {s with heap:=h'}->wpAny (model prog w) A.in1.in1 (keyKind' vs.toArray) a g {s with heap:=h'})
  (h:∀out:List Value,out.Perm vs->out.Pairwise (λx y=>lt (y,y) (x,x)=false)->Q (.ref (s.heap.objs.size+1)) {s with heap:=sortedAll s.heap vs out.toArray}):
  wpAny (model prog w) A (call (.builtin "sorted") [.ref l]) Q E s:=by
 have t:sizeLine=16777216:=aGe;have grown:((s.heap.push (seqObj "list" #[] 0)).update s.heap.objs.size (Obj.mapSeq (· ++vs.toArray))).objs.size=s.heap.objs.size+1:=by rw[Heap.size_update,size_push']
 have kept:∀b o,s.heap.get? b=some o->(((s.heap.push (seqObj "list" #[] 0)).update s.heap.objs.size (Obj.mapSeq (· ++vs.toArray))).push (seqObj "list" vs.toArray 0)).get? b=some o:=λb o e=>by
  have lb:=aG2 e;refine aFr _ ?_;rw[Heap.get?_update_ne _ _ _ _ (Nat.ne_of_lt lb)];exact aFr _ e
 refine aIh kind_sorted plain_sorted entry_sorted (args_sorted1 _) ?_;unfold Builtin.«sorted»;refine aFo (m:=checkCount "sorted" 1 1 _) (aFq ?_);refine aFo (collect_list d ?_ (by lia));refine aFo (aJg ?_ (by lia))
 have ob:(((s.heap.push (seqObj "list" #[] 0)).update s.heap.objs.size (Obj.mapSeq (· ++vs.toArray))).push (seqObj "list" vs.toArray 0)).get? (s.heap.objs.size+1)=some (seqObj "list" vs.toArray 0):=by
  rw[<-grown];exact aFy _ rfl
 show wpAny _ _ _ _ _ {s with heap:=((s.heap.push (seqObj "list" #[] 0)).update s.heap.objs.size (Obj.mapSeq (· ++vs.toArray))).push (seqObj "list" vs.toArray 0)};rw[grown];refine aFo (aGj (aGa slot_list_sort ⟨_,ob,rfl⟩ entry_list_sort (EN (κ:=κ) (s:={s with heap:=((s.heap.push (seqObj "list" #[] 0)).update s.heap.objs.size (Obj.mapSeq (· ++vs.toArray))).push (seqObj "list" vs.toArray 0)}) O ob c (λi h' k=>?_) λout j n=>⟨_,rfl,aFq ⟨_,rfl,h out j n⟩⟩) (args_list_sort _)));obtain⟨p,r⟩:=f i h' λb o e=>k b o (aG9 (aGt (aG2 e))) (kept b o e);exact⟨p,λa q=>r a _ q⟩
end
end TS
namespace D3
open PySem PySem.Spec PyProof.Rows L2
inductive D where
 | cL | bl (b:Bool) | int (i:Int) | str (x:Str) | ty (n:String)
 | tup (ds:List D) | fl (ds:List D) | ref (n:Nat)
inductive MO where
 | lst (ds:List D)
 | dic (t:Bool) (kvs:List (D×D))
 | fdc (t:Bool) (kvs:List (D×D)) (ob:Obj)
abbrev MH:=List MO
abbrev eK:=List (Option D)
def OY(K:aJj)(H:Hp)(a:Addr)(xs:List V):Prop:=
 (∃o,H a=some (.frz o (.lst xs)))\/
  ∃(o:Obj) (aJ:Array Value) (n:Nat),K.lookup a=some o/\o.cls= .type "list"/\o.dict=none/\o.data= .seq aJ n/\aJ.size<=sizeLine/\Vals xs aJ.toList
variable{K:aJj}{H:Hp}{a:Addr}
theorem OY.sq{xs:List V}(h:OY K H a xs):oV K H a xs:=by
 rcases h with h | h
 ·exact .inl (.inr h)
 ·exact .inr h
mutual
def Is(K:aJj)(μ:List Addr)(H:Hp):D->V->Prop
 | .cL,v=>v= .cL
 | .bl b,v=>v= .bl b
 | .int i,v=>v= .int i
 | .str x,v=>v= .str x
 | .ty n,v=>v= .ty n
 | .tup ds,v=>∃a vs,v= .ref a/\oU K H a vs/\IsL K μ H ds vs
 | .fl ds,v=>∃a vs,v= .ref a/\OY K H a vs/\IsL K μ H ds vs
 | .ref n,v=>∃a,μ[n]? =some a/\v= .ref a
def IsL(K:aJj)(μ:List Addr)(H:Hp):List D->List V->Prop
 | [],vs=>vs=[]
 | d::ds,vs=>∃v r,vs=v::r/\Is K μ H d v/\IsL K μ H ds r
end
def bJ:Key->D
 | .inl i=>.int i
 | .inr x=>.str x
def HQ(o:Option HO)(ks:List D)(vs:List V):Bool->Prop
 | false=>∃kk:List (Key×V),o=some (.dK kk)/\ks=kk.map (λp=>bJ p.1)/\vs=kk.map (·.2)
 | true=>∃kk:List (List Key×V),o=some (.dT kk)/\ks=kk.map (λp=>.tup (p.1.map bJ))/\vs=kk.map (·.2)
def oB(K:aJj)(μ:List Addr)(H:Hp):MO->Addr->Prop
 | .lst ds,a=>∃vs,H a=some (.lst vs)/\IsL K μ H ds vs
 | .dic t kvs,a=>∃vs,HQ (H a) (kvs.map (·.1)) vs t/\IsL K μ H (kvs.map (·.2)) vs
 | .fdc t kvs ob,a=>∃vs u,H a=some (.frz ob u)/\HQ (some u) (kvs.map (·.1)) vs t/\IsL K μ H (kvs.map (·.2)) vs
def Own:Option HO->Prop
 | some (.frz _ (.dK _))=>True
 | some (.frz _ (.dT _))=>True
 | o=>JZ o
structure Rep(K:aJj)(μ:List Addr)(mh:MH)(H:Hp):Prop where
 len:μ.length=mh.length
 nd:μ.Nodup
 obj:∀(n:Nat) a o,μ[n]? =some a->mh[n]? =some o->oB K μ H o a
structure aK(μ:List Addr)(H:Hp)(μ' :List Addr)(H' :Hp):Prop where
 pre:∃t,μ' =μ++t
 fr:∀b o,H b=some o->b∉μ->H' b=some o
 nw:∀a∈μ',a∈μ\/H a=none
def bZ(K:aJj)(μ:List Addr)(H:Hp)(a:eK)(σ:L2.St):Prop:=
 a.length=σ.length/\∀(i:Nat) d,a[i]? =some (some d)->∃v,σ[i]? =some (some v)/\Is K μ H d v
section
variable {K:aJj}{μ μ1 μ2 μ' :List Addr}{mh mh' :MH}{H H1 H2 H' :Hp}
theorem oB.mut{o:MO}(h:oB K μ H o a):Own (H a):=by
 cases o with
 | lst ds=>obtain⟨vs,e,_⟩:=h;rw[e];trivial
 | dic t kvs=>cases t <;> (obtain⟨vs,⟨kk,e,_⟩,_⟩:=h;rw[e];trivial)
 | fdc t kvs ob=>cases t <;> (obtain⟨vs,u,e,⟨kk,b,_⟩,_⟩:=h;cases b;rw[e];trivial)
theorem Rep.at(R:Rep K μ mh H)(h:a∈μ):∃(n:Nat) (o:MO),μ[n]? =some a/\mh[n]? =some o/\oB K μ H o a:=by
 obtain⟨n,b⟩:=aGk.mp h;have c:n<mh.length:=by rw[<-R.len];exact(aFp.mp b).1
 exact⟨n,mh[n],b,by simp[c],R.obj n a _ b (by simp[c])⟩
theorem Rep.mut(R:Rep K μ mh H)(h:a∈μ):Own (H a):=let ⟨_,_,_,_,q⟩:=R.at h;q.mut
theorem aK.refl:aK μ H μ H:=⟨⟨[],by simp⟩,λ_ _ h _=>h,λ_ h=>.inl h⟩
theorem aK.trans(p:aK μ H μ1 H1)(q:aK μ1 H1 μ2 H2):aK μ H μ2 H2:=by
 refine⟨?_,λb o e n=>?_,λa ha=>?_⟩
 ·obtain⟨t,rfl⟩:=p.pre;obtain⟨u,rfl⟩:=q.pre;exact⟨t++u,by simp⟩
 ·refine q.fr b o (p.fr b o e n) λhb=>?_;rcases p.nw b hb with z | z
  ·exact n z
  ·rw[e]at z;cases z
 ·rcases q.nw a ha with z | z
  ·exact p.nw a z
  ·by_cases c:a∈μ
   ·exact .inl c
   ·right
    cases e:H a with
    | none=>rfl
    | some o=>rw[p.fr a o e c]at z;cases z
variable{n:Nat}
theorem aK.get(p:aK μ H μ' H')(h:μ[n]? =some a):μ'[n]? =some a:=by
 obtain⟨t,rfl⟩:=p.pre;rw[List.getElem?_append_left (List.getElem?_eq_some_iff.mp h).1];exact h
variable{vs:List V}
theorem Rep.sqT(R:Rep K μ mh H)(p:aK μ H μ' H')(h:oU K H a vs):oU K H' a vs:=by
 rcases h with (h | ⟨o,h⟩) | h
 ·refine .inl (.inl (p.fr _ _ h λb=>?_));have:=R.mut b;rw[h]at this;exact this
 ·refine .inl (.inr ⟨o,p.fr _ _ h λb=>?_⟩);have:=R.mut b;rw[h]at this;exact this
 ·exact .inr h
theorem Rep.sqF(R:Rep K μ mh H)(p:aK μ H μ' H')(h:OY K H a vs):OY K H' a vs:=by
 rcases h with ⟨o,h⟩ | h
 ·refine .inl ⟨o,p.fr _ _ h λb=>?_⟩;have:=R.mut b;rw[h]at this;exact this
 ·exact .inr h
mutual
theorem Is.mono(R:Rep K μ mh H)(p:aK μ H μ' H'):∀(d:D) (v:V),Is K μ H d v->Is K μ' H' d v
 | .cL,v,h=>by unfold Is at*;exact h
 | .bl _,v,h=>by unfold Is at*;exact h
 | .int _,v,h=>by unfold Is at*;exact h
 | .str _,v,h=>by unfold Is at*;exact h
 | .ty _,v,h=>by unfold Is at*;exact h
 | .tup ds,v,h=>by
  unfold Is at*;obtain⟨a,vs,e,s,l⟩:=h;exact⟨a,vs,e,R.sqT p s,IsL.mono R p ds vs l⟩
 | .fl ds,v,h=>by
  unfold Is at*;obtain⟨a,vs,e,s,l⟩:=h;exact⟨a,vs,e,R.sqF p s,IsL.mono R p ds vs l⟩
 | .ref n,v,h=>by
  unfold Is at*;obtain⟨a,e,q⟩:=h;exact⟨a,p.get e,q⟩
theorem IsL.mono(R:Rep K μ mh H)(p:aK μ H μ' H'):∀(ds:List D) (vs:List V),IsL K μ H ds vs->IsL K μ' H' ds vs
 | [],vs,h=>by unfold IsL at*;exact h
 | d::ds,vs,h=>by
  unfold IsL at*;obtain⟨v,r,e,q,l⟩:=h;exact⟨v,r,e,Is.mono R p d v q,IsL.mono R p ds r l⟩
end
theorem bZ.mono{a:eK}{σ:L2.St}(R:Rep K μ mh H)(p:aK μ H μ' H')(E:bZ K μ H a σ):bZ K μ' H' a σ:=⟨E.1,λi d e=>by
 obtain⟨v,b,c⟩:=E.2 i d e
 exact⟨v,b,Is.mono R p d v c⟩⟩
theorem oB.mono{o:MO}(R:Rep K μ mh H)(p:aK μ H μ' H')(e:H' a=H a)(h:oB K μ H o a):oB K μ' H' o a:=by
 cases o with
 | lst ds=>obtain⟨vs,q,l⟩:=h;exact⟨vs,by rw[e];exact q,IsL.mono R p ds vs l⟩
 | dic t kvs=>obtain⟨vs,q,l⟩:=h;exact⟨vs,by rw[e];exact q,IsL.mono R p _ vs l⟩
 | fdc t kvs ob=>obtain⟨vs,u,q,b,l⟩:=h;exact⟨vs,u,by rw[e];exact q,b,IsL.mono R p _ vs l⟩
variable{q:Addr}
theorem aK.new{o:HO}(R:Rep K μ mh H)(a:H q=none):aK μ H μ (upd H q o):=
 ⟨⟨[],by simp⟩,λb u e _=>by rw[aM (bK e a)];exact e,λ_ h=>.inl h⟩
theorem Rep.ne(R:Rep K μ mh H)(b:H q=none)(h:a∈μ):a≠q:=by
 rintro rfl;have:=R.mut h;rw[b]at this;exact this
theorem Rep.new{o:HO}(R:Rep K μ mh H)(b:H q=none):Rep K μ mh (upd H q o):=
 ⟨R.len,R.nd,λn a ob c d=>(R.obj n a ob c d).mono R (aK.new R b) (aM (R.ne b (aG3 c)))⟩
theorem aK.ME{o:HO}(R:Rep K μ mh H)(c:H q=none):aK μ H (μ++[q]) (upd H q o):=
 ⟨⟨[q],rfl⟩,λb u e _=>by rw[aM (bK e c)];exact e,λa h=>by
  rcases aFv.mp h with h | h
  ·exact .inl h
  ·simp at h;subst h;exact .inr c⟩
theorem Rep.ME{ds:List D}(R:Rep K μ mh H)(e:H q=none)(l:IsL K μ H ds vs):Rep K (μ++[q]) (mh++[.lst ds]) (upd H q (.lst vs)):=by
 have P:aK μ H (μ++[q]) (upd H q (.lst vs)):=aK.ME R e;refine⟨by simp[R.len],?_,λn a ob c d=>?_⟩
 ·rw[List.nodup_append];refine⟨R.nd,by simp,λa ha b hb=>?_⟩;simp at hb;subst hb;exact R.ne e ha
 ·by_cases f:n<μ.length
  ·rw[List.getElem?_append_left f]at c;rw[List.getElem?_append_left (by rw[<-R.len];exact f)]at d;exact(R.obj n a ob c d).mono R P (aM (R.ne e (aG3 c)))
  ·rw[List.getElem?_append_right (by lia)]at c;rw[List.getElem?_append_right (by rw[<-R.len];lia)]at d
   have hz:n-μ.length=0:=by
    have:=(aFp.mp c).1;simp at this;lia
   rw[hz]at c;rw[<-R.len,hz]at d;simp at c d;subst c d;exact⟨vs,bR,l.mono R P⟩
theorem aK.set{o:HO}(R:Rep K μ mh H)(h:μ[n]? =some a):aK μ H μ (upd H a o):=
 ⟨⟨[],by simp⟩,λb u e hb=>by rw[aM (λz=>hb (by rw[z];exact List.mem_of_getElem? h))];exact e,λ_ h=>.inl h⟩
theorem MF{n m:Nat}(nd:μ.Nodup)(b:μ[n]? =some a)(c:μ[m]? =some a):n=m:=by
 obtain⟨f,d⟩:=aFp.mp b;obtain⟨g,e⟩:=aFp.mp c;exact(List.getElem_inj nd).mp (d.trans e.symm)
theorem Rep.set{ds:List D}(R:Rep K μ mh H)(h:μ[n]? =some a)(l:IsL K μ H ds vs):Rep K μ (mh.set n (.lst ds)) (upd H a (.lst vs)):=by
 have P:aK μ H μ (upd H a (.lst vs)):=aK.set R h;refine⟨by simp[R.len],R.nd,λm b ob c d=>?_⟩;by_cases e:m=n
 ·subst e;rw[h]at c;cases c;have f:m<mh.length:=by rw[<-R.len];exact(aFp.mp h).1
  rw[List.getElem?_set_self f]at d;cases d;exact⟨vs,bR,l.mono R P⟩
 ·rw[List.getElem?_set_ne (Ne.symm e)]at d;exact(R.obj m b ob c d).mono R P (aM λz=>e (MF R.nd c (by rw[z];exact h)))
end
abbrev DK:=D->MH->Prop
abbrev WE:=eK->MH->DK->Prop
def Fin(K:aJj)(μ:List Addr)(H:Hp)(R:DK)(Q:VK):Prop:=
 ∀d mh',R d mh' ->∀μ' v H',aK μ H μ' H' ->Rep K μ' mh' H' ->Is K μ' H' d v->Q v H'
def tL(K:aJj)(w:WE):TE:=λσ H Q=>∃μ a mh R,Rep K μ mh H/\bZ K μ H a σ/\w a mh R/\Fin K μ H R Q
def LE(X:Cx)(e:Expr)(w:WE):Prop:=PE X e (tL X.K w)
variable{X:Cx}
theorem PE.imp{e:Expr}{t t' :TE}(h:PE X e t)(i:∀σ H Q,t' σ H Q->t σ H Q):PE X e t' :=λpins s σ H Q I q=>h pins s σ H Q I (i σ H Q q)
variable{μ μ1:List Addr}{R:DK}{Q:VK}
theorem Fin.at{H a:Hp}(F:Fin K μ H R Q)(P:aK μ H μ1 a):Fin K μ1 a R Q:=
 λd mh' r μ' v H' b c I=>F d mh' r μ' v H' (P.trans b) c I
def aB(i:Nat):WE:=λa mh Q=>∃d,a[i]? =some (some d)/\Q d mh
def wC(d:D):WE:=λ_ mh Q=>Q d mh
section
variable {X:Cx}{a b c:Expr}{wa wb wc:WE}{pos:Pos}
theorem XD(i:Nat){x:Str}(hN:X.N[i]? =some x:=by rfl)(b:Vis X.env.scope x:=by first | exact Or.inl rfl | exact Or.inr (Or.inl rfl) | exact Or.inr (Or.inr rfl))(hd:(x==("__debug__":Str))=false:=by decide)
  (a:(x==("__classdict__":Str))=false:=by decide):LE X (.Name x pos) (aB i):=PE.imp (VU hN b hd a) λσ H Q h=>by
 obtain⟨μ,f,mh,R,r,E,⟨d,hd,c⟩,F⟩:=h;obtain⟨v,e,i⟩:=E.2 _ d hd;exact⟨v,e,F d mh c μ v H aK.refl r i⟩
theorem RY{e:Expr}{v:V}{d:D}(h:PE X e (tC v))(a:∀μ H,Is X.K μ H d v):LE X e (wC d):=PE.imp h λσ H Q h=>by
 obtain⟨μ,c,mh,R,r,E,b,F⟩:=h;exact F d mh b μ v H aK.refl r (a μ H)
theorem le_int{i:Int}{j}:LE X (.Constant (.int i) j pos) (wC (.int i)):=RY V0 λ_ _=>by unfold Is;rfl
theorem aBv{i:Bool}{j}:LE X (.Constant (.bool i) j pos) (wC (.bl i)):=RY aB1 λ_ _=>by unfold Is;rfl
theorem RU{x:Str}{d:D}{v:V}{u:Value}(hg:Gl X x)(a:X.mg x=some u)(r:RelV v u)(b:∀μ H,Is X.K μ H d v)(hd:(x==("__debug__":Str))=false:=by decide):LE X (.Name x pos) (wC d):=RY (QV hg a r hd) b
theorem RS{x:Str}{T:String}(hg:Gl X x)(a:X.mg x=none)(b:bootBuiltins x=some (.type T))(c:x≠ "__name__":=by decide)(hd:(x==("__debug__":Str))=false:=by decide):LE X (.Name x pos) (wC (.ty T)):=
 RY (QY (v:= .ty T) hg a b rfl c hd) λ_ _=>by unfold Is;rfl
abbrev O1:=D->MH->DK->Prop
abbrev O2:=D->D->MH->DK->Prop
def bB(K:aJj)(f:O2):R2:=λx y H Q=>∃μ mh dx a R,Rep K μ mh H/\Is K μ H dx x/\Is K μ H a y/\f dx a mh R/\Fin K μ H R Q
def MT(K:aJj)(f:O1):V->Hp->VK->Prop:=λx H Q=>∃μ mh dx R,Rep K μ mh H/\Is K μ H dx x/\f dx mh R/\Fin K μ H R Q
def aX(f:O2)(wa wb:WE):WE:=λc mh Q=>wa c mh λx a=>wb c a λy b=>f x y b Q
def EA(f:O1)(wa:WE):WE:=λb mh Q=>wa b mh λx a=>f x a Q
variable{f:O2}{σ:L2.St}
theorem rO(h:tL K (aX f wa wb) σ H Q):tOp (bB K f) (tL K wa) (tL K wb) σ H Q:=by
 obtain⟨μ,d,mh,R,e,E,h,F⟩:=h;refine⟨μ,d,mh,_,e,E,h,λdx a j μ1 k p g i l=>⟨μ1,d,a,_,i,E.mono e g,j,λm b n c q r P2 R2 o=>?_⟩⟩;exact⟨c,b,dx,m,R,R2,Is.mono i P2 dx k l,o,n,F.at (g.trans P2)⟩
theorem aA4{f:O1}(h:tL K (EA f wa) σ H Q):tUn (MT K f) (tL K wa) σ H Q:=by
 obtain⟨μ,b,mh,R,c,E,h,F⟩:=h;exact⟨μ,b,mh,_,c,E,h,λdx a d μ1 j k e g i=>⟨μ1,a,dx,R,g,i,d,F.at e⟩⟩
theorem aBo{c:Operator}(ho:dO X (binaryOp c) (bB X.K f))(ha:LE X a wa)(hb:LE X b wb):LE X (.BinOp a c b pos) (aX f wa wb):=PE.imp (aAx ho ha hb) λ_ _ _ h=>rO h
theorem aBm{b:UnaryOp}{f:O1}(ho:ZT X (unaryOp b) (MT X.K f))(ha:LE X a wa):LE X (.UnaryOp b a pos) (EA f wa):=PE.imp (aAw ho ha) λ_ _ _ h=>aA4 h
variable{op:CmpOp}
theorem MW(ho:dO X (compareOp op) (bB X.K f))(ha:LE X a wa)(hb:LE X b wb)(c:behindInMarks op b=false):LE X (.Compare a [op] [b] pos) (aX f wa wb):=PE.imp (QW ho ha hb c) λ_ _ _ h=>rO h
theorem T9(ho:UJ X (bB X.K f))(ha:LE X a wa)(hb:LE X b wb)(c:HN b):LE X (.Subscript a b pos) (aX f wa wb):=PE.imp (aAz ho ha hb c) λ_ _ _ h=>rO h
def qM(f g:O2)(wa wb wc:WE):WE:=λb mh Q=>wa b mh λx c=>wb b c λy d=>f x y d λz a=>∃k,z= .bl k/\if k=true then wc b a λu e=>g y u e Q else Q (.bl false) a
theorem OB{f g:O2}(h:tL K (qM f g wa wb wc) σ H Q):KW (bB K f) (bB K g) (tL K wa) (tL K wb) (tL K wc) σ H Q:=by
 obtain⟨μ,i,mh,R,j,E,h,F⟩:=h;refine⟨μ,i,mh,_,j,E,h,λdx l y μ1 z J r s A=>⟨μ1,i,l,_,s,E.mono j r,y,λe m B n t L P2 R2 u=>?_⟩⟩;refine⟨n,m,dx,e,_,R2,Is.mono s P2 dx z A,u,B,λM c b d N C v o w=>?_⟩;obtain⟨k,rfl,b⟩:=b;unfold Is at w;refine⟨k,w,?_⟩;have a:=(r.trans P2).trans v
 cases k with
 | false=>rw[if_neg Bool.false_ne_true]at b⊢;exact F _ c b d _ C a o (by unfold Is;rfl)
 | true=>
  rw[if_pos rfl]at b⊢;refine⟨d,i,c,_,o,(E.mono j a),b,λD p G q O P x R4 I=>?_⟩;exact⟨q,p,e,D,R,R4,Is.mono o x e t (Is.mono R2 v e t u),I,G,F.at (a.trans x)⟩
abbrev WT:=eK->MH->(Bool->MH->Prop)->Prop
def TM(K:aJj)(μ:List Addr)(H:Hp)(R:Bool->MH->Prop)(Q:Bool->Hp->Prop):Prop:=
 ∀b mh',R b mh' ->∀μ' H',aK μ H μ' H' ->Rep K μ' mh' H' ->Q b H'
def OQ(K:aJj)(w:WT):TT:=λσ H Q=>∃μ a mh R,Rep K μ mh H/\bZ K μ H a σ/\w a mh R/\TM K μ H R Q
def LT(X:Cx)(e:Expr)(w:WT):Prop:=PT X e (OQ X.K w)
def LW(X:Cx)(e:Expr)(w:WT):Prop:=PW X e (OQ X.K w)
theorem PT.imp{X:Cx}{e:Expr}{t t' :TT}(h:PT X e t)(i:∀σ H Q,t' σ H Q->t σ H Q):PT X e t' :=λpins s σ H Q I q=>h pins s σ H Q I (i σ H Q q)
theorem PW.imp{X:Cx}{e:Expr}{t t' :TT}(h:PW X e t)(i:∀σ H Q,t' σ H Q->t σ H Q):PW X e t' :=λa pins s σ H Q I q=>h a pins s σ H Q I (i σ H Q q)
variable{Q:Bool->Hp->Prop}
theorem TM.at{H a:Hp}{R:Bool->MH->Prop}(F:TM K μ H R Q)(P:aK μ H μ1 a):TM K μ1 a R Q:=
 λb mh' r μ' H' c d =>F b mh' r μ' H' (P.trans c) d
def cY(w:WE):WT:=λb mh Q=>w b mh λx a=>∃k,x= .bl k/\Q k a
theorem KR{t:TE}{w:WE}(i:∀σ H Q,tL K w σ H Q->t σ H Q)(h:OQ K (cY w) σ H Q):KS t σ H Q:=by
 obtain⟨μ,d,mh,R,e,E,h,F⟩:=h;refine i σ H _ ⟨μ,d,mh,_,e,E,h,λdx a b μ1 l f g j c=>?_⟩;obtain⟨k,rfl,b⟩:=b;unfold Is at c;exact⟨k,c,F k a b μ1 f g j⟩
theorem MP(ho:dO X (compareOp op) (bB X.K f))(ha:LE X a wa)(hb:LE X b wb)(c:behindInMarks op b=false):LT X (.Compare a [op] [b] pos) (cY (aX f wa wb)):=
 PT.imp (QL ho ha hb c) λ_ _ _ h=>KR (λ_ _ _ z=>rO z) h
theorem MQ{op d :CmpOp}{f g:O2}(ho:dO X (compareOp op) (bB X.K f))(e :dO X (compareOp d) (bB X.K g))(ha:LE X a wa)(hb:LE X b wb)(i:LE X c wc)
  (j:lastMarks [op,d] [b,c]=false:=by with_unfolding_all rfl):LT X (.Compare a [op,d] [b,c] pos) (cY (qM f g wa wb wc)):=
 PT.imp (LM ho e ha hb i j) λ_ _ _ h=>KR (λ_ _ _ z=>OB z) h
def jA(mh:MH):D->Option Bool
 | .cL=>some false
 | .bl b=>some b
 | .int i=>some (i !=0)
 | .str y=>if y.length<=sizeLine then some ((y.length:Int) !=0) else none
 | .tup ds=>some !ds.isEmpty
 | .fl ds=>some !ds.isEmpty
 | .ref n=>match mh[n]? with | some (.lst ds)=>some !ds.isEmpty | _=>none
 | .ty _=>none
theorem aN{K:aJj}{μ:List Addr}{H:Hp}:∀{ds:List D} {vs:List V},IsL K μ H ds vs->vs.length=ds.length
 | [],vs,h=>by unfold IsL at h;subst h;rfl
 | d::ds,vs,h=>by unfold IsL at h;obtain⟨v,r,rfl,_,l⟩:=h;simp[aN l]
theorem zY{ds:List D}{vs:List V}(h:IsL K μ H ds vs):vs.isEmpty=ds.isEmpty:=by
 have:=aN h;cases vs <;> cases ds <;> simp_all
theorem U0{mh:MH}{d:D}{v:V}{k:Bool}(R:Rep K μ mh H)(h:Is K μ H d v)(e:jA mh d=some k):ZE K v H k:=by
 cases d with
 | cL=>unfold Is at h;subst h;simp[jA]at e;subst e;rfl
 | bl b=>unfold Is at h;subst h;simp[jA]at e;subst e;rfl
 | int i=>unfold Is at h;subst h;simp[jA]at e;subst e;rfl
 | str y=>
  unfold Is at h;subst h;simp only[jA]at e;split at e
  ·rename_i hl;exact⟨hl,(aG8 e).symm⟩
  ·cases e
 | ty n=>simp[jA]at e
 | tup ds=>
  unfold Is at h;obtain⟨a,vs,rfl,s,l⟩:=h;obtain rfl:(!ds.isEmpty)=k:=aG8 e;exact .inr (.inl ⟨vs,s,by rw[zY l]⟩)
 | fl ds=>
  unfold Is at h;obtain⟨a,vs,rfl,s,l⟩:=h;obtain rfl:(!ds.isEmpty)=k:=aG8 e;exact .inl ⟨vs,s.sq,by rw[zY l]⟩
 | ref n=>
  unfold Is at h;obtain⟨a,q,rfl⟩:=h;simp only[jA]at e
  cases o:mh[n]? with
  | none=>rw[o]at e;cases e
  | some ob=>
   cases ob with
   | lst ds=>
    rw[o]at e;cases e;obtain⟨vs,c,l⟩:=R.obj n a _ q o;exact .inl ⟨vs,.of c,by rw[zY l]⟩
   | dic t kvs=>rw[o]at e;cases e
   | fdc t kvs ob=>rw[o]at e;cases e
def tP(w:WE):WT:=λb mh Q=>w b mh λx a=>∃k,jA a x=some k/\Q k a
theorem MN(ha:LE X a wa)(he:∀b,isTrue a X.env b=(do let v<-b;standAt a.pos;holding [v] (truthy v)):=by intro _;rfl):LT X a (tP wa):=PT.imp (LL ha he) λσ H Q h=>by
 obtain⟨μ,g,mh,R,i,E,h,F⟩:=h;refine⟨μ,g,mh,_,i,E,h,λdx c d μ1 n j l f m=>?_⟩;obtain⟨k,e,d⟩:=d;exact⟨k,U0 f m e,F k c d μ1 j l f⟩
def pB(t u:WT):WT:=λb mh Q=>t b mh λc a=>if c=true then u b a Q else Q false a
def PC(t u:WT):WT:=λb mh Q=>t b mh λc a=>if c=true then Q true a else u b a Q
def wZ(t:WT):WT:=λb mh Q=>t b mh λc a=>Q (!c) a
variable {ta tb:WT}{rest:List Expr}
theorem RE(ha:LT X a ta):LW X (.BoolOp .And [a] pos) ta:=QG ha
theorem WX(ha:LT X a ta):LW X (.BoolOp .Or [a] pos) ta:=VJ ha
theorem MM(ha:LT X a ta)(hb:LW X (.BoolOp .And (b::rest) pos) tb):LW X (.BoolOp .And (a::b::rest) pos) (pB ta tb):=PW.imp (VL ha hb) λσ H Q h=>by
 obtain⟨μ,g,mh,R,i,E,h,F⟩:=h;refine⟨μ,g,mh,_,i,E,h,λc d e μ1 k f j=>?_⟩
 cases c with
 | true=>rw[if_pos rfl]at e⊢;exact⟨μ1,g,d,R,j,E.mono i f,e,F.at f⟩
 | false=>rw[if_neg Bool.false_ne_true]at e⊢;exact F false d e μ1 k f j
theorem aBh(ha:LT X a ta)(hb:LW X (.BoolOp .Or (b::rest) pos) tb):LW X (.BoolOp .Or (a::b::rest) pos) (PC ta tb):=PW.imp (aAt ha hb) λσ H Q h=>by
 obtain⟨μ,g,mh,R,i,E,h,F⟩:=h;refine⟨μ,g,mh,_,i,E,h,λc d e μ1 k f j=>?_⟩
 cases c with
 | true=>rw[if_pos rfl]at e⊢;exact F true d e μ1 k f j
 | false=>rw[if_neg Bool.false_ne_true]at e⊢;exact⟨μ1,g,d,R,j,E.mono i f,e,F.at f⟩
theorem LW.lt(h:LW X a ta):LT X a ta:=PW.pt h
theorem WY(ha:LT X a ta):LT X (.UnaryOp .Not a pos) (wZ ta):=PT.imp (VM ha) λσ H Q h=>by
 obtain⟨μ,d,mh,R,e,E,h,F⟩:=h;exact⟨μ,d,mh,_,e,E,h,λc b f μ1 g i j=>F (!c) b f μ1 g i j⟩
def tR(wa wb:WE):WE:=λb mh Q=>wa b mh λx a=>∃c,x= .bl c/\if c=true then wb b a Q else Q (.bl false) a
theorem XG{op}(ha:LE X a wa):LE X (.BoolOp op [a] pos) wa:=VW ha
theorem XM(ha:LE X a wa)(hb:LE X (.BoolOp .And (b::rest) pos) wb):LE X (.BoolOp .And (a::b::rest) pos) (tR wa wb):=PE.imp (V1 ha hb) λσ H Q h=>by
 obtain⟨μ,g,mh,R,i,E,h,F⟩:=h;refine⟨μ,g,mh,_,i,E,h,λdx e d μ1 m l f j k=>?_⟩;obtain⟨c,rfl,d⟩:=d;unfold Is at k;refine⟨c,k,?_⟩
 cases c with
 | true=>rw[if_pos rfl]at d⊢;exact⟨μ1,g,e,R,j,E.mono i f,d,F.at f⟩
 | false=>rw[if_neg Bool.false_ne_true]at d⊢;exact F _ e d μ1 _ l f j (by unfold Is;rfl)
def GF(wa:WE):WE:=λb mh Q=>wa b mh λx a=>∃c,x= .bl c/\Q (.bl !c) a
theorem XH(ha:LE X a wa):LE X (.UnaryOp .Not a pos) (GF wa):=PE.imp (VX ha) λσ H Q h=>by
 obtain⟨μ,f,mh,R,g,E,h,F⟩:=h;refine⟨μ,f,mh,_,g,E,h,λdx b d μ1 l i j k e=>?_⟩;obtain⟨c,rfl,d⟩:=d;unfold Is at e;exact⟨c,e,F _ b d μ1 _ i j k (by unfold Is;rfl)⟩
def wIf(t:WT)(wa wb:WE):WE:=λb mh Q=>t b mh λc a=>if c=true then wa b a Q else wb b a Q
theorem MV(l:LT X c ta)(ha:LE X a wa)(hb:LE X b wb):LE X (.IfExp c a b pos) (wIf ta wa wb):=PE.imp (L1 l ha hb) λσ H Q h=>by
 obtain⟨μ,g,mh,R,i,E,h,F⟩:=h;refine⟨μ,g,mh,_,i,E,h,λk d e μ1 m f j=>?_⟩
 cases k with
 | true=>rw[if_pos rfl]at e⊢;exact⟨μ1,g,d,R,j,E.mono i f,e,F.at f⟩
 | false=>rw[if_neg Bool.false_ne_true]at e⊢;exact⟨μ1,g,d,R,j,E.mono i f,e,F.at f⟩
end
abbrev WA:=eK->MH->(List D->MH->Prop)->Prop
def FinA(K:aJj)(μ:List Addr)(H:Hp)(R:List D->MH->Prop)(Q:List V->Hp->Prop):Prop:=
 ∀ds mh',R ds mh' ->∀μ' vs H',aK μ H μ' H' ->Rep K μ' mh' H' ->IsL K μ' H' ds vs->Q vs H'
def tLA(K:aJj)(w:WA):TA:=λσ H Q=>∃μ a mh R,Rep K μ mh H/\bZ K μ H a σ/\w a mh R/\FinA K μ H R Q
def LA(X:Cx)(a:List Expr)(w:WA):Prop:=PA X a (tLA X.K w)
theorem PA.imp{e:List Expr}{t t' :TA}(h:PA X e t)(i:∀σ H Q,t' σ H Q->t σ H Q):PA X e t' :=λpos pins s σ H Q I q=>h pos pins s σ H Q I (i σ H Q q)
def aD:WA:=λ_ mh Q=>Q [] mh
def aA(w:WE)(d:WA):WA:=λc mh Q=>w c mh λx a=>d c a λxs b=>Q (x::xs) b
def WU(ds:List D)(mh:MH)(Q:DK):Prop:=ds.length<=sizeLine/\Q (.tup ds) mh
def E4(ds:List D)(mh:MH)(Q:DK):Prop:=ds.length<=sizeLine/\Q (.ref mh.length) (mh++[.lst ds])
section
variable {K:aJj}{μ:List Addr}{mh:MH}{H:Hp}{R:DK}{Q:VK}{ds:List D}{vs:List V}
theorem mU(a:Rep K μ mh H)(F:Fin K μ H R Q)(l:IsL K μ H ds vs)(h:R (.tup ds) mh):∀p,H p=none->Q (.ref p) (upd H p (.tup vs)):=λp b=>
 F _ mh h μ _ _ (aK.new a b) (a.new b) (by unfold Is;exact⟨p,vs,rfl,.of bR,IsL.mono a (aK.new a b) ds vs l⟩)
theorem gO(a:Rep K μ mh H)(F:Fin K μ H R Q)(l:IsL K μ H ds vs)(h:R (.ref mh.length) (mh++[.lst ds])):∀p,H p=none->Q (.ref p) (upd H p (.lst vs)):=λp b=>
 F _ _ h (μ++[p]) _ _ (aK.ME a b) (a.ME b l) (by unfold Is;exact⟨p,by rw[<-a.len];simp,rfl⟩)
end
def f7(w:WA):WE:=λb mh Q=>w b mh λds a=>WU ds a Q
def e7(w:WA):WE:=λb mh Q=>w b mh λds a=>E4 ds a Q
section
variable {X:Cx}{e:Expr}{es:List Expr}{w:WE}{wr:WA}{pos:Pos}
theorem XR:LA X [] aD:=PA.imp zG λσ H Q h=>by
 obtain⟨μ,b,mh,R,a,E,h,F⟩:=h;exact F [] mh h μ [] H aK.refl a (by unfold IsL;rfl)
theorem SA(ha:LE X e w)(k:LA X es wr)(l:starEach (e::es) X.env=(false,eval e X.env)::starEach es X.env:=by rfl):LA X (e::es) (aA w wr):=PA.imp (sS ha k l) λσ H Q h=>by
 obtain⟨μ,d,mh,R,f,E,h,F⟩:=h;refine⟨μ,d,mh,_,f,E,h,λdx a m μ1 g r i j n=>⟨μ1,d,a,_,j,E.mono f i,m,λds b o c vs p P2 R2 q=>?_⟩⟩;exact F _ b o c _ p (i.trans P2) R2 (by unfold IsL;exact⟨g,vs,rfl,Is.mono j P2 dx g n,q⟩)
theorem XE{x1}(h:LA X es wr):LE X (.Tuple es x1 pos) (f7 wr):=PE.imp (VV h) λσ H Q h=>by
 obtain⟨μ,c,mh,R,d,E,h,F⟩:=h;refine⟨μ,c,mh,_,d,E,h,λds e a μ1 vs i f g b=>⟨by rw[aN b];exact a.1,mU g (F.at f) b a.2⟩⟩
theorem XI(h:LA X es wr):LE X (.List es pos) (e7 wr):=PE.imp (VY h) λσ H Q h=>by
 obtain⟨μ,c,mh,R,d,E,h,F⟩:=h;refine⟨μ,c,mh,_,d,E,h,λds e a μ1 vs i f g b=>⟨by rw[aN b];exact a.1,gO g (F.at f) b a.2⟩⟩
abbrev OA:=List D->MH->DK->Prop
def fV(K:aJj)(f:OA):List V->Hp->VK->Prop:=λxs H Q=>∃μ mh ds R,Rep K μ mh H/\IsL K μ H ds xs/\f ds mh R/\Fin K μ H R Q
def aF(f:OA)(w:WA):WE:=λb mh Q=>w b mh λds a=>f ds a Q
theorem call_in{f:OA}{σ:L2.St}(h:tL K (aF f wr) σ H Q):tCB (fV K f) (tLA K wr) σ H Q:=by
 obtain⟨μ,b,mh,R,c,E,h,F⟩:=h;exact⟨μ,b,mh,_,c,E,h,λds a d μ1 vs j e g i=>⟨μ1,a,ds,R,g,i,d,F.at e⟩⟩
theorem MY{x:Str}{p:Pos}{id:String}{f:OA}(c:cX X (.builtin id) (fV X.K f))(hg:Gl X x)(d:X.mg x=none)(g:bootBuiltins x=some (.builtin id))(ha:LA X (e::es) wr)(i:x≠ "__name__":=by decide)(a:(x==("__debug__":Str))=false:=by decide)
  (he:starEach (e::es) X.env=(false,eval e X.env)::starEach es X.env:=by rfl) (b:(backTo pos (starEach es X.env)).any (·.1)=false:=by rfl):LE X (.Call (.Name x p) (e::es) [] pos) (aF f wr):=
 PE.imp (uS c hg d g ha i a he b) λ_ _ _ h=>call_in h
theorem IU{x:Str}{p:Pos}{T:String}{f:OA}(c:cX X (.type T) (fV X.K f))(hg:Gl X x)(d:X.mg x=none)(g:bootBuiltins x=some (.type T))(ha:LA X (e::es) wr)(i:x≠ "__name__":=by decide)(a:(x==("__debug__":Str))=false:=by decide)
  (he:starEach (e::es) X.env=(false,eval e X.env)::starEach es X.env:=by rfl) (b:(backTo pos (starEach es X.env)).any (·.1)=false:=by rfl):LE X (.Call (.Name x p) (e::es) [] pos) (aF f wr):=
 PE.imp (xO c hg d g ha i a he b) λ_ _ _ h=>call_in h
def OR(K:aJj)(f:OA):Sp:=λvs H Q _=>fV K f vs H Q
theorem RX{k:Nat}{f:Addr}{fd:FuncData}{ps:List Str}{x:Str}{p:Pos}{s:OA}(F:jN X.prog X.w X.K X.mg X.base D9 k f fd ps (OR X.K s))(d:gC k X.A)(hg:Gl X x)(g:X.mg x=some (.ref f))(i:PySem.W.keepIn X.K (.ref f)=true)(hb:Binds X.K fd ps [])
  (ha:LA X (e::es) wr) (a:(x==("__debug__":Str))=false:=by decide) (he:starEach (e::es) X.env=(false,eval e X.env)::starEach es X.env:=by rfl) (b:(backTo pos (starEach es X.env)).any (·.1)=false:=by rfl):
  LE X (.Call (.Name x p) (e::es) [] pos) (aF s wr):=PE.imp (QX F d hg g i hb .nil aB2 ha a he b) λσ H Q h=>by
 obtain⟨μ,j,mh,R,l,E,h,m⟩:=h;refine⟨μ,j,mh,_,l,E,h,λds c n μ1 vs o q r t=>?_⟩;show fV X.K s (vs++[]) o Q;rw[List.append_nil];exact⟨μ1,c,ds,R,r,t,n,m.at q⟩
end
section
variable {K:aJj}{μ:List Addr}{mh:MH}{H:Hp}
theorem Is.int{i:Int}:Is K μ H (.int i) (.int i):=by unfold Is;rfl
theorem Is.str{i:Str}:Is K μ H (.str i) (.str i):=by unfold Is;rfl
theorem Is.bl{i:Bool}:Is K μ H (.bl i) (.bl i):=by unfold Is;rfl
theorem Is.cL:Is K μ H .cL .cL:=by unfold Is;rfl
variable{v:V}
theorem bO{i:Int}(h:Is K μ H (.int i) v):v= .int i:=by unfold Is at h;exact h
theorem d6{i:Str}(h:Is K μ H (.str i) v):v= .str i:=by unfold Is at h;exact h
theorem ND{i:Bool}(h:Is K μ H (.bl i) v):v= .bl i:=by unfold Is at h;exact h
theorem NC(h:Is K μ H .cL v):v= .cL:=by unfold Is at h;exact h
variable{ds:List D}
theorem fD(h:Is K μ H (.tup ds) v):∃a vs,v= .ref a/\oU K H a vs/\IsL K μ H ds vs:=by unfold Is at h;exact h
theorem p6(h:Is K μ H (.fl ds) v):∃a vs,v= .ref a/\OY K H a vs/\IsL K μ H ds vs:=by unfold Is at h;exact h
theorem oI{n:Nat}(h:Is K μ H (.ref n) v):∃a,μ[n]? =some a/\v= .ref a:=by unfold Is at h;exact h
theorem eT:∀{ds:List D} {vs:List V} {i:Nat} {d:D},IsL K μ H ds vs->ds[i]? =some d->∃v,vs[i]? =some v/\Is K μ H d v
 | [],_,_,_,_,e=>by simp at e
 | x::ds,vs,i,d,h,e=>by
  unfold IsL at h;obtain⟨v,r,rfl,q,l⟩:=h
  cases i with
  | zero=>simp at e;subst e;exact⟨v,rfl,q⟩
  | succ i=>obtain⟨u,a,b⟩:=eT (i:=i) l (by simpa using e);exact⟨u,by simpa using a,b⟩
theorem iP:∀{ds a:List D} {vs us:List V},IsL K μ H ds vs->IsL K μ H a us->IsL K μ H (ds++a) (vs++us)
 | [],a,vs,us,h,q=>by unfold IsL at h;subst h;exact q
 | d::ds,a,vs,us,h,q=>by
  unfold IsL at h;obtain⟨v,r,rfl,i,l⟩:=h;show IsL K μ H (d::(ds++a)) (v::(r++us));unfold IsL;exact⟨v,_,rfl,i,iP l q⟩
variable{d:D}
theorem mT(h:Is K μ H d v):IsL K μ H [d] [v]:=by unfold IsL;exact⟨v,[],rfl,h,by unfold IsL;rfl⟩
theorem DA:∀(n:Nat) {ds:List D} {vs:List V},IsL K μ H ds vs->IsL K μ H (ds.drop n) (vs.drop n)
 | 0,_,_,h=>by simpa using h
 | n+1,[],vs,h=>by unfold IsL at h;subst h;simp[IsL]
 | n+1,d::ds,vs,h=>by unfold IsL at h;obtain⟨v,r,rfl,_,l⟩:=h;simpa using DA n l
theorem C8:∀(n:Nat) {ds:List D} {vs:List V},IsL K μ H ds vs->IsL K μ H (ds.take n) (vs.take n)
 | 0,_,_,h=>by simp[IsL]
 | n+1,[],vs,h=>by unfold IsL at h;subst h;simp[IsL]
 | n+1,d::ds,vs,h=>by
  unfold IsL at h;obtain⟨v,r,rfl,i,l⟩:=h;simp only[List.take_succ_cons];unfold IsL;exact⟨v,_,rfl,i,C8 n l⟩
theorem HB:∀(n:Nat) {ds:List D} {vs:List V} {d:D} {v:V},Is K μ H d v->IsL K μ H ds vs->IsL K μ H (ds.set n d) (vs.set n v)
 | n,[],vs,d,v,_,h=>by unfold IsL at h;subst h;simp[IsL]
 | 0,x::ds,vs,d,v,i,h=>by unfold IsL at h;obtain⟨u,r,rfl,_,l⟩:=h;simp only[List.set_cons_zero];unfold IsL;exact⟨v,r,rfl,i,l⟩
 | n+1,x::ds,vs,d,v,i,h=>by unfold IsL at h;obtain⟨u,r,rfl,q,l⟩:=h;simp only[List.set_cons_succ];unfold IsL;exact⟨u,_,rfl,q,HB n i l⟩
theorem X7{vs:List V}{i:Int}(l:IsL K μ H ds vs)(e:n6 ds i=some d):∃v,n6 vs i=some v/\Is K μ H d v:=by
 unfold n6 at*;rw[aN l]
 cases q:FG ds.length i with
 | none=>rw[q]at e;cases e
 | some j=>rw[q]at e;exact eT l e
def bC(mh:MH):D->Option (List D)
 | .tup ds=>some ds
 | .fl ds=>some ds
 | .ref n=>match mh[n]? with | some (.lst ds)=>some ds | _=>none
 | _=>none
theorem zB(R:Rep K μ mh H)(h:Is K μ H d v)(e:bC mh d=some ds):∃a vs,v= .ref a/\(oV K H a vs\/oU K H a vs)/\IsL K μ H ds vs:=by
 cases d with
 | tup b=>obtain⟨a,vs,rfl,s,l⟩:=fD h;cases e;exact⟨a,vs,rfl,.inr s,l⟩
 | fl b=>obtain⟨a,vs,rfl,s,l⟩:=p6 h;cases e;exact⟨a,vs,rfl,.inl s.sq,l⟩
 | ref n=>
  obtain⟨a,q,rfl⟩:=oI h;simp only[bC]at e
  cases o:mh[n]? with
  | none=>rw[o]at e;cases e
  | some ob=>
   cases ob with
   | lst b=>
    rw[o]at e;cases e;obtain⟨vs,c,l⟩:=R.obj n a _ q o;exact⟨a,vs,rfl,.inl (.of c),l⟩
   | dic t kvs=>rw[o]at e;cases e
   | fdc t kvs ob=>rw[o]at e;cases e
 | _=>cases e
def nA(mh:MH):D->Option (List D)
 | .fl ds=>some ds
 | .ref n=>match mh[n]? with | some (.lst ds)=>some ds | _=>none
 | _=>none
theorem uZ(R:Rep K μ mh H)(h:Is K μ H d v)(e:nA mh d=some ds):∃a vs,v= .ref a/\oV K H a vs/\IsL K μ H ds vs:=by
 cases d with
 | fl b=>obtain⟨a,vs,rfl,s,l⟩:=p6 h;cases e;exact⟨a,vs,rfl,s.sq,l⟩
 | ref n=>
  obtain⟨a,q,rfl⟩:=oI h;simp only[nA]at e
  cases o:mh[n]? with
  | none=>rw[o]at e;cases e
  | some ob=>
   cases ob with
   | lst b=>
    rw[o]at e;cases e;obtain⟨vs,c,l⟩:=R.obj n a _ q o;exact⟨a,vs,rfl,.of c,l⟩
   | dic t kvs=>rw[o]at e;cases e
   | fdc t kvs ob=>rw[o]at e;cases e
 | _=>cases e
theorem g9{n:Nat}(R:Rep K μ mh H)(h:Is K μ H (.ref n) v)(e:mh[n]? =some (.lst ds)):∃a vs,v= .ref a/\μ[n]? =some a/\H a=some (.lst vs)/\IsL K μ H ds vs:=by
 obtain⟨a,q,rfl⟩:=oI h;obtain⟨vs,b,l⟩:=R.obj n a _ q e;exact⟨a,vs,rfl,q,b,l⟩
theorem Fin.here(F:Fin K μ H R Q)(a:Rep K μ mh H)(h:R d mh)(i:Is K μ H d v):Q v H:=F d mh h μ v H aK.refl a i
theorem Fin.put{n:Nat}{vs:List V}(F:Fin K μ H R Q)(b:Rep K μ mh H)(c:μ[n]? =some a)(l:IsL K μ H ds vs)(h:R d (mh.set n (.lst ds)))(i:Is K μ H d v):Q v (upd H a (.lst vs)):=
 F d _ h μ v _ (aK.set b c) (b.set c l) (Is.mono b (aK.set b c) d v i)
end
def CH(C:Int->Int->Prop)(g:Int->Int->D):O2:=λx y mh Q=>∃i j,x= .int i/\y= .int j/\C i j/\Q (g i j) mh
section
variable {X:Cx}
variable{f:Value->Value->Sem Value}{g:Int->Int->V}
theorem uU{C:Int->Int->Prop}{g' :Int->Int->D}(h:dO X f (rI C g))(hg:∀μ H i j,Is X.K μ H (g' i j) (g i j)):dO X f (bB X.K (CH C g')):=by
 intro pins s σ H x y v u Q I a b q;obtain⟨μ,mh,dx,l,R,d,e,k,⟨i,j,rfl,rfl,c,q⟩,F⟩:=q;cases bO e;cases bO k;exact h pins s σ H _ _ v u Q I a b ⟨i,j,rfl,rfl,c,F.here d q (hg _ _ _ _)⟩
theorem aAr(h:dO X f (OT g)):dO X f (rI (λ_ _=>True) g):=λpins s σ H x y v u Q I b c a=>by obtain⟨i,j,d,e,_,q⟩:=a;exact h pins s σ H x y v u Q I b c ⟨i,j,d,e,q⟩
abbrev CG:O2:=CH (λ_ _=>True) λi j=>.int (i-j)
abbrev sC:O2:=CH J3 λi j=>.int (i*j)
abbrev G0:O2:=CH aCl λi j=>.int (i / j)
abbrev oMod:O2:=CH (λ_ j=>0<j) λi j=>.int (i % j)
abbrev L6:O2:=CH ZK λi j=>.int (i^j.toNat)
theorem WC:dO X (binaryOp .Sub) (bB X.K CG):=uU (aAr V4) λ_ _ _ _=>.int
theorem WH:dO X (binaryOp .Mult) (bB X.K sC):=uU V6 λ_ _ _ _=>.int
theorem Q6:dO X (binaryOp .FloorDiv) (bB X.K G0):=uU Q2 λ_ _ _ _=>.int
theorem WJ:dO X (binaryOp .Mod) (bB X.K oMod):=uU V7 λ_ _ _ _=>.int
theorem WD:dO X (binaryOp .Pow) (bB X.K L6):=uU V5 λ_ _ _ _=>.int
def m9:O1:=λx mh Q=>∃i,x= .int i/\Q (.int (-i)) mh
theorem UW:ZT X (unaryOp .USub) (MT X.K m9):=by
 intro pins s σ H x v Q I a q;obtain⟨μ,mh,dx,R,b,c,⟨i,rfl,q⟩,F⟩:=q;cases bO c;exact UU pins s σ H _ v Q I a ⟨i,rfl,F.here b q .int⟩
def f9:O2:=λx y mh Q=>match x with
 | .int i=>match y with | .int j=>Q (.int (i+j)) mh | _=>False
 | .str i=>match y with | .str j=>i.length+j.length<=sizeLine/\Q (.str (i++j)) mh | _=>False
 | .tup i=>match y with | .tup j=>i.length+j.length<=sizeLine/\Q (.tup (i++j)) mh | _=>False
 | .ref n=>match y with | .ref m=>∃i j,mh[n]? =some (.lst i)/\mh[m]? =some (.lst j)/\E4 (i++j) mh Q | _=>False
 | _=>False
theorem OD{prog:Program}{w:World}{A:Around}{E:aJk}{s:Shared}{t b:Addr}{g:List Value}{Q:aJk}(ht:IsTup s.heap t ([]:List Value).toArray)(hb:IsTup s.heap b g.toArray)
  (h:Q (.ref b) s):wpAny (model prog w) A (binaryOp .Add (.ref t) (.ref b)) Q E s:=by
 obtain⟨⟨cls,k,data,sl⟩,ho,i,n,hd⟩:=id ht;obtain⟨⟨j,e,data2,f⟩,a,c,l,d⟩:=id hb;simp only at i hd c d;subst i hd c d
 exact concat_meets ⟨_,ho,rfl⟩ ⟨_,a,rfl⟩ noFill_tuple_add seq_tuple_add aIq aIn (aIj _ _)
   (tuple_addW0 t b _ g.toArray n l k e sl f (by simp)) ⟨ho,a,h⟩
theorem WL:dO X (binaryOp .Add) (bB X.K f9):=by
 intro pins s σ H x y v u Q I d f q;obtain⟨μ,mh,dx,k,R,c,g,h,q,F⟩:=q
 cases dx with
 | int i=>cases k with
  | int j=>cases bO g;cases bO h;exact V9 pins s σ H _ _ v u Q I d f ⟨i,j,rfl,rfl,F.here c q .int⟩
  | _=>exact False.elim q
 | str i=>cases k with
  | str j=>cases d6 g;cases d6 h;exact E1 pins s σ H _ _ v u Q I d f ⟨i,j,rfl,rfl,q.1,F.here c q.2 .str⟩
  | _=>exact False.elim q
 | tup i=>cases k with
  | tup j=>
   obtain⟨a,xs,rfl,sa,la⟩:=fD g;obtain⟨b,ys,rfl,sb,lb⟩:=fD h;by_cases l:xs=[]
   ·subst l;cases d;cases f;obtain⟨aJ,p,r,_⟩:=I.tuple sa;obtain⟨o,B,t,_⟩:=I.tuple sb;cases p;have hi:i=[]:=by have:=aN la;cases i <;> simp_all
    subst hi;exact OD r t ⟨.ref b,H,I,rfl,F.here c q.2 h⟩
   ·refine Q3 pins s σ H _ _ v u Q I d f ⟨a,b,xs,ys,rfl,rfl,sa,sb,l,by rw[aN la,aN lb];exact q.1,λe=>?_,λ_=>mU c F (iP la lb) q.2⟩;subst e;have w:j=[]:=by have:=aN lb;cases j <;> simp_all
    subst w;exact F.here c q.2 (by simpa using g)
  | _=>exact False.elim q
 | ref n=>cases k with
  | ref m=>
   obtain⟨i,j,z,A,q⟩:=q;obtain⟨a,xs,rfl,_,sa,la⟩:=g9 c g z;obtain⟨b,ys,rfl,_,sb,lb⟩:=g9 c h A;exact V8 pins s σ H _ _ v u Q I d f ⟨a,b,xs,ys,rfl,rfl,sa,sb,by rw[aN la,aN lb,<-List.length_append];exact q.1,gO c F (iP la lb) q.2⟩
  | _=>exact False.elim q
 | _=>exact False.elim q
def eJ:O2:=λx y mh Q=>∃i,y= .int i/\match x with
 | .str z=>z.length<=sizeLine/\∃c,n6 z.cps.toList i=some c/\Q (.str ⟨#[c]⟩) mh
 | _=>∃ds d,bC mh x=some ds/\n6 ds i=some d/\Q d mh
theorem ixl:UJ X (bB X.K eJ):=by
 intro b f pins s σ H x y v u Q I h j q k;obtain⟨μ,mh,dx,C,R,g,n,r,⟨i,rfl,q⟩,F⟩:=q;cases bO r
 have go:(∃ds d,bC mh dx=some ds/\n6 ds i=some d/\R d mh)->wpAny (model X.prog X.w) X.A (subscriptTail b f v u) (EP X pins σ Q) X.xe s:=λm=>by
  obtain⟨ds,d,t,B,q⟩:=m;obtain⟨a,vs,rfl,sq,l⟩:=zB g n t;obtain⟨z,o,p⟩:=X7 l B;rcases sq with sq | sq
  ·exact SF b f pins s σ H _ _ v u Q I h j ⟨a,vs,i,z,rfl,rfl,sq,o,F.here g q p⟩ k
  ·exact X2 b f pins s σ H _ _ v u Q I h j ⟨a,vs,i,z,rfl,rfl,sq,o,F.here g q p⟩ k
 cases dx with
 | str z=>
  obtain⟨hz,c,e,q⟩:=q;cases d6 n;exact X3 b f pins s σ H _ _ v u Q I h j ⟨z,i,c,rfl,rfl,hz,e,F.here g q .str⟩ k
 | _=>exact go q
def aC0:D->Bool | .cL=>true | _=>false
def fG:OA:=λxs mh Q=>∃x,xs=[x]/\match x with
 | .str z=>z.length<=sizeLine/\Q (.int z.length) mh
 | _=>∃ds,bC mh x=some ds/\Q (.int ds.length) mh
variable{vs:List V}
theorem rS{d:D}(h:IsL K μ H [d] vs):∃v,vs=[v]/\Is K μ H d v:=by
 unfold IsL at h;obtain⟨v,r,rfl,i,l⟩:=h;unfold IsL at l;subst l;exact⟨v,rfl,i⟩
theorem HD{d e:D}(h:IsL K μ H [d,e] vs):∃v u,vs=[v,u]/\Is K μ H d v/\Is K μ H e u:=by
 unfold IsL at h;obtain⟨v,r,rfl,i,l⟩:=h;obtain⟨u,rfl,j⟩:=rS l;exact⟨v,u,rfl,i,j⟩
theorem YZ:cX X (.builtin "len") (fV X.K fG):=by
 intro pins s σ H xs us Q I r q;obtain⟨μ,mh,ds,R,b,f,⟨x,rfl,q⟩,F⟩:=q;obtain⟨v,rfl,d⟩:=rS f
 have go:(∃ds,bC mh x=some ds/\R (.int ds.length) mh)->wpAny (model X.prog X.w) X.A (call (.builtin "len") us) (EP X pins σ Q) X.xe s:=λc=>by
  obtain⟨g,e,q⟩:=c;obtain⟨a,vs,rfl,sq,l⟩:=zB b d e;exact AS pins s σ H _ us Q I r ⟨a,vs,rfl,sq,F.here b q (by rw[aN l];exact .int)⟩
 cases x with
 | str z=>cases d6 d;exact AR pins s σ H _ us Q I r ⟨z,rfl,q.1,F.here b q.2 .int⟩
 | _=>exact go q
def TH:OA:=λxs mh Q=>∃i,xs=[.int i]/\Q (.int (if i<0 then -i else i)) mh
theorem Y1:cX X (.builtin "abs") (fV X.K TH):=by
 intro pins s σ H xs us Q I r q;obtain⟨μ,mh,ds,R,a,b,⟨i,rfl,q⟩,F⟩:=q;obtain⟨v,rfl,c⟩:=rS b;cases bO c;exact OE pins s σ H _ us Q I r ⟨i,rfl,F.here a q .int⟩
def D7:OA:=λxs mh Q=>∃i j,xs=[.int i,.int j]/\Q (.int (if j > i then j else i)) mh
def yP:OA:=λxs mh Q=>∃i j,xs=[.int i,.int j]/\Q (.int (if j<i then j else i)) mh
theorem S2(a:X.calm=true):cX X (.builtin "max") (fV X.K D7):=by
 intro pins s σ H xs us Q I r q;obtain⟨μ,mh,ds,R,b,c,⟨i,j,rfl,q⟩,F⟩:=q;obtain⟨v,u,rfl,d,e⟩:=HD c;cases bO d;cases bO e;exact JS a pins s σ H _ us Q I r ⟨i,j,rfl,F.here b q .int⟩
theorem S1(a:X.calm=true):cX X (.builtin "min") (fV X.K yP):=by
 intro pins s σ H xs us Q I r q;obtain⟨μ,mh,ds,R,b,c,⟨i,j,rfl,q⟩,F⟩:=q;obtain⟨v,u,rfl,d,e⟩:=HD c;cases bO d;cases bO e;exact JR a pins s σ H _ us Q I r ⟨i,j,rfl,F.here b q .int⟩
theorem VA{pins:List (Addr×Obj)}{σ:L2.St}{s:Shared}(I:Inv X pins σ H s)(h:oV X.K H a vs\/oU X.K H a vs):vs.length<=sizeLine:=by
 rcases h with h | h
 ·obtain⟨_,_,_,z⟩:=I.list h;exact z
 ·obtain⟨_,_,_,z⟩:=I.tuple h;exact z
def rF:OA:=λxs mh Q=>∃x ds,xs=[x]/\bC mh x=some ds/\Q (.tup ds) mh
theorem N9:cX X (.type "tuple") (fV X.K rF):=by
 intro pins s σ H xs us Q I r q;obtain⟨μ,mh,ds,R,b,d,⟨x,f,rfl,e,q⟩,F⟩:=q;obtain⟨v,rfl,c⟩:=rS d
 cases x with
 | tup ts=>
  cases e;obtain⟨a,vs,rfl,sq,l⟩:=fD c;exact i0 pins s σ H _ us Q I r ⟨a,vs,rfl,.inr ⟨sq,F.here b q c⟩⟩
 | fl ts=>
  cases e;obtain⟨a,vs,rfl,sq,l⟩:=p6 c;exact i0 pins s σ H _ us Q I r ⟨a,vs,rfl,.inl ⟨sq.sq,mU b F l q⟩⟩
 | ref n=>
  obtain⟨a,vs,rfl,sq,l⟩:=uZ b c (show nA mh (.ref n)=some f from e);exact i0 pins s σ H _ us Q I r ⟨a,vs,rfl,.inl ⟨sq,mU b F l q⟩⟩
 | _=>cases e
end
def PL(mh:MH):D->Option String
 | .cL=>some "NoneType"
 | .bl _=>some "bool"
 | .int _=>some "int"
 | .str _=>some "str"
 | .tup _=>some "tuple"
 | .fl _=>some "list"
 | .ref n=>match mh[n]? with | some (.lst _)=>some "list" | _=>none
 | .ty _=>none
def sA(t c:String):Bool:=t==c || (t== "bool" && c== "int")
def bI:List String:=["int","bool","str","tuple","list"]
theorem UB:∀t∈ "NoneType"::bI,∀c∈bI,PySem.W.kitOne K (.type t) (.type c)=some (sA t c):=by
 intro t ht c a;simp only[bI,List.mem_cons,List.not_mem_nil,or_false]at ht a;rcases ht with rfl | rfl | rfl | rfl | rfl | rfl <;> rcases a with rfl | rfl | rfl | rfl | rfl <;> kernel_rfl
theorem G7{K:aJj}{t:String}(ht:t∈ "NoneType"::bI):∀a:List String,(∀c∈a,c∈bI)->PySem.W.kitAny K (.type t) (a.map Value.type)=some (a.any (sA t))
 | [],_=>rfl
 | c::a,h=>by
  have e:=UB (K:=K) t ht c (h c aFs);have b:=G7 (K:=K) ht a λx d=>h x (aFt _ d);simp only[List.map_cons,PySem.W.kitAny,e,List.any_cons]
  cases sA t c with
  | true=>rfl
  | false=>simpa using b
def qF:OA:=λxs mh Q=>∃x c t,xs=[x,c]/\PL mh x=some t/\
 ((∃T,c= .ty T/\T∈bI/\Q (.bl (sA t T)) mh)\/∃a:List String,c= .tup (a.map .ty)/\(∀T∈a,T∈bI)/\Q (.bl (a.any (sA t))) mh)
section
variable {X:Cx}
theorem XW{pins:List (Addr×Obj)}{σ:L2.St}{s:Shared}{mh:MH}{d:D}{v:V}{u:Value}{t:String}(I:Inv X pins σ H s)(R:Rep X.K μ mh H)(h:Is X.K μ H d v)(r:RelV v u)(e:PL mh d=some t):
  t∈ "NoneType"::bI/\u≠ .builtin "__main__.__loader__#opaque"/\∃P,PySem.W.KitX X.K u (.type t) P/\P s.heap:=by
 have g:∀{a:Addr} {vs:List V},oV X.K H a vs->∃P,PySem.W.KitX X.K (.ref a) (.type "list") P/\P s.heap:=λ{a vs} sq=>by
  obtain⟨aJ,_,⟨o,n,c,f,_⟩,_⟩:=I.list sq;exact⟨_,PySem.W.kitx_list,⟨o,c,f⟩⟩
 cases d with
 | cL=>cases NC h;cases r;cases e;exact⟨by simp[bI],nofun,_,PySem.W.kitx_none,trivial⟩
 | bl b=>cases ND h;cases r;cases e;exact⟨by simp[bI],nofun,_,PySem.W.kitx_bool,trivial⟩
 | int b=>cases bO h;obtain⟨i,rfl⟩:=r;cases e;exact⟨by simp[bI],nofun,_,PySem.W.kitx_int,trivial⟩
 | str b=>cases d6 h;obtain⟨i,rfl⟩:=r;cases e;exact⟨by simp[bI],nofun,_,PySem.W.kitx_str,trivial⟩
 | ty b=>cases e
 | tup ds=>
  obtain⟨a,vs,rfl,sq,_⟩:=fD h;cases r;cases e;obtain⟨aJ,_,⟨o,c,f,_⟩,_⟩:=I.tuple sq;exact⟨by simp[bI],nofun,_,PySem.W.kitx_tuple,⟨o,c,f⟩⟩
 | fl ds=>
  obtain⟨a,vs,rfl,sq,_⟩:=p6 h;cases r;cases e;exact⟨by simp[bI],nofun,g sq.sq⟩
 | ref n=>
  obtain⟨a,q,rfl⟩:=oI h;cases r;simp only[PL]at e
  cases o:mh[n]? with
  | none=>rw[o]at e;cases e
  | some ob=>
   cases ob with
   | lst k=>
    rw[o]at e;cases e;obtain⟨vs,j,l⟩:=R.obj n a _ q o;exact⟨by simp[bI],nofun,g (.of j)⟩
   | dic t kvs=>rw[o]at e;cases e
   | fdc t kvs ob=>rw[o]at e;cases e
theorem HA{K:aJj}{μ:List Addr}{H:Hp}:∀{a:List String} {vs:List V} {us:List Value},IsL K μ H (a.map .ty) vs->Vals vs us->us=a.map Value.type
 | [],vs,us,h,r=>by simp only[List.map_nil]at h;unfold IsL at h;subst h;cases r;rfl
 | T::a,vs,us,h,r=>by
  simp only[List.map_cons]at h;unfold IsL at h;obtain⟨v,e,rfl,i,l⟩:=h
  cases r with
  | cons c d=>
   unfold Is at i;subst i;have b :_=Value.type T:=c;subst b;rw[HA l d];rfl
theorem Y0:cX X (.builtin "isinstance") (fV X.K qF):=by
 intro pins s σ H xs us Q I r q;obtain⟨μ,mh,ds,R,e,y,⟨x,c,t,rfl,z,q⟩,F⟩:=q;obtain⟨v,w,rfl,A,f⟩:=HD y
 cases r with
 | cons B d=>
  cases d with
  | cons d C=>
   cases C;obtain⟨i,j,P,k,m⟩:=XW I e A B z
   rcases q with ⟨T,rfl,g,q⟩ | ⟨D,rfl,g,q⟩
   ·unfold Is at f;subst f;have b :_=Value.type T:=d;subst b
    exact PySem.W.kia_one k I.X1 m (UB t i T g) j λh=>⟨.bl _,H,I.tok h,rfl,F.here e q .bl⟩
   ·obtain⟨a,vs,rfl,sq,l⟩:=fD f;have b :_=Value.ref a:=d;subst b;obtain⟨aJ,E,⟨o,G,p,n,u⟩,_⟩:=I.tuple sq;have J:=HA l E;obtain⟨oc,od,L,osl⟩:=o;simp only at p u;subst p u
    exact PySem.W.kia_tup k I.X1 m G (by rw[J];exact G7 i D g) j λh=>⟨.bl _,H,I.tok h,rfl,F.here e q .bl⟩
end
mutual
def Vl(h:Heap):D->Value->Prop
 | .cL,u=>u= .none
 | .bl b,u=>u= .bool b
 | .int i,u=>∃t,u= .int i t
 | .str x,u=>∃t,u= .str x t
 | .ty _,_=>False
 | .tup ds,u=>∃a us,u= .ref a/\IsTup h a us.toArray/\cZ h ds us
 | .fl ds,u=>∃a us,u= .ref a/\h.IsList a us.toArray/\cZ h ds us
 | .ref _,_=>False
def cZ(h:Heap):List D->List Value->Prop
 | [],us=>us=[]
 | d::ds,us=>∃u r,us=u::r/\Vl h d u/\cZ h ds r
end
mutual
def bare:D->Bool
 | .ty _=>false
 | .ref _=>false
 | .tup ds=>eD ds
 | .fl ds=>eD ds
 | _=>true
def eD:List D->Bool
 | []=>true
 | d::ds=>bare d && eD ds
end
mutual
def deep:D->Nat
 | .tup ds=>cK ds+1
 | .fl ds=>cK ds+1
 | _=>0
def cK:List D->Nat
 | []=>0
 | d::ds=>max (deep d) (cK ds)
end
mutual
def jZ:D->D->Bool
 | .cL,y=>aC0 y
 | .bl a,y=>match y with | .bl b=>a==b | .int j=>(if a then 1 else 0)==j | _=>false
 | .int i,y=>match y with | .int j=>i==j | .bl b=>i==(if b then 1 else 0) | _=>false
 | .str a,y=>match y with | .str b=>a==b | _=>false
 | .tup as,y=>match y with | .tup bs=>eG as bs | _=>false
 | .fl as,y=>match y with | .fl bs=>eG as bs | _=>false
 | .ref _,_=>false
 | .ty _,_=>false
def eG:List D->List D->Bool
 | [],y=>y.isEmpty
 | a::as,y=>match y with | b::bs=>jZ a b && eG as bs | []=>false
end
theorem cH:∀(as bs:List D),eG as bs=((List.range (min as.length bs.length)).all (λj=>jZ (as.getD j .cL) (bs.getD j .cL)) && as.length==bs.length)
 | [],[]=>by simp[eG]
 | [],b::bs=>by simp[eG]
 | a::as,[]=>by simp[eG]
 | a::as,b::bs=>by
  have c:=cH as bs;simp only[eG,List.length_cons,Nat.succ_min_succ,List.range_succ_eq_map,List.all_cons,List.all_map,Function.comp_def,List.getD_cons_zero,List.getD_cons_succ,c];cases jZ a b <;> simp
theorem bG{h:Heap}:∀{ds:List D} {us:List Value},cZ h ds us->us.length=ds.length
 | [],us,q=>by unfold cZ at q;subst q;rfl
 | d::ds,us,q=>by unfold cZ at q;obtain⟨u,r,rfl,_,l⟩:=q;simp[bG l]
theorem dF{h:Heap}:∀{ds:List D} {us:List Value} {j:Nat} {u:Value},cZ h ds us->us[j]? =some u->Vl h (ds.getD j .cL) u
 | [],us,j,u,q,e=>by unfold cZ at q;subst q;simp at e
 | d::ds,us,j,u,q,e=>by
  unfold cZ at q;obtain⟨w,r,rfl,i,l⟩:=q
  cases j with
  | zero=>simp at e;subst e;exact i
  | succ j=>exact dF (j:=j) l (by simpa using e)
theorem fE:∀(ds:List D) (j:Nat),deep (ds.getD j .cL)<=cK ds
 | [],j=>by simp[deep]
 | d::ds,0=>by simp[cK];lia
 | d::ds,j+1=>by have:=fE ds j;simp[cK]at*;lia
variable{h:Heap}
theorem sT{x y:Array Value}(d:h.IsList a x)(hb:IsTup h a y):False:=by
 obtain⟨o,ho,e,_⟩:=d;obtain⟨f,b,c,_⟩:=hb;rw[ho]at b;cases b;rw[e]at c;exact absurd c (by simp)
mutual
theorem yX{h:Heap}:∀{d e:D} {u:Value},Vl h d u->Vl h e u->jZ d e=true
 | .cL,e,u,p,q=>by
  unfold Vl at p;subst p
  cases e <;> unfold Vl at q <;> first | rfl | (cases q;done) | (obtain⟨_,q⟩:=q;cases q;done) | (obtain⟨_,_,q,_⟩:=q;cases q;done)
 | .bl a,e,u,p,q=>by
  unfold Vl at p;subst p
  cases e <;> unfold Vl at q <;> first | (subst q;simp[jZ];done) | (cases q;simp[jZ];done) | (cases q;done) | (obtain⟨_,q⟩:=q;cases q;done) | (obtain⟨_,_,q,_⟩:=q;cases q;done)
 | .int a,e,u,p,q=>by
  unfold Vl at p;obtain⟨t,rfl⟩:=p
  cases e <;> unfold Vl at q <;> first | (cases q;done) | (obtain⟨_,q⟩:=q;cases q;simp[jZ];done) | (obtain⟨_,q⟩:=q;cases q;done) | (obtain⟨_,_,q,_⟩:=q;cases q;done)
 | .str a,e,u,p,q=>by
  unfold Vl at p;obtain⟨t,rfl⟩:=p
  cases e <;> unfold Vl at q <;> first | (cases q;done) | (obtain⟨_,q⟩:=q;cases q;simp[jZ];done) | (obtain⟨_,q⟩:=q;cases q;done) | (obtain⟨_,_,q,_⟩:=q;cases q;done)
 | .ty _,e,u,p,q=>by unfold Vl at p;exact p.elim
 | .ref _,e,u,p,q=>by unfold Vl at p;exact p.elim
 | .tup as,e,u,p,q=>by
  unfold Vl at p;obtain⟨a,us,rfl,ht,l⟩:=p
  cases e with
  | tup bs=>
   unfold Vl at q;obtain⟨b,f,e,c,g⟩:=q;cases e;obtain⟨o,k,_,n,m⟩:=ht;obtain⟨v,i,_,w,j⟩:=c;rw[k]at i;cases i;rw[m]at j;injection j with r;have s:us=f:=by simpa using aGs Array.toList r
   subst s;show eG as bs=true;exact tS l g
  | fl bs=>
   unfold Vl at q;obtain⟨b,f,e,c,g⟩:=q;cases e;exact(sT c ht).elim
  | _=>unfold Vl at q;first | (cases q;done) | (obtain⟨_,q⟩:=q;cases q;done)
 | .fl as,e,u,p,q=>by
  unfold Vl at p;obtain⟨a,us,rfl,ht,l⟩:=p
  cases e with
  | fl bs=>
   unfold Vl at q;obtain⟨b,f,e,c,g⟩:=q;cases e;obtain⟨o,k,_,n,m⟩:=ht;obtain⟨v,i,_,w,j⟩:=c;rw[k]at i;cases i;rw[m]at j;injection j with r;have s:us=f:=by simpa using aGs Array.toList r
   subst s;show eG as bs=true;exact tS l g
  | tup bs=>
   unfold Vl at q;obtain⟨b,f,e,c,g⟩:=q;cases e;exact(sT ht c).elim
  | _=>unfold Vl at q;first | (cases q;done) | (obtain⟨_,q⟩:=q;cases q;done)
theorem tS{h:Heap}:∀{ds a:List D} {us:List Value},cZ h ds us->cZ h a us->eG ds a=true
 | [],a,us,p,q=>by unfold cZ at p;subst p;cases a with | nil=>rfl | cons=>unfold cZ at q;obtain⟨_,_,e,_⟩:=q;cases e
 | d::ds,a,us,p,q=>by
  unfold cZ at p;obtain⟨u,r,rfl,i,l⟩:=p
  cases a with
  | nil=>unfold cZ at q;cases q
  | cons e a=>
   unfold cZ at q;obtain⟨g,j,b,c,f⟩:=q;cases b;simp only[eG,yX i c,tS l f,Bool.and_self]
end
open SeqAt in
theorem j4{s:Shared}:∀(k:Nat) {A:Around} {d e:D} {u v:Value},deep d<=k->A.units+k+1<cLine->Vl s.heap d u->Vl s.heap e v->EqAt A s u v (jZ d e)
 | k,A,.cL,e,u,v,hk,hu,p,q=>by
  unfold Vl at p;subst p;cases e <;> unfold Vl at q
  ·subst q;exact EqAt.same _
  ·subst q;exact EqAt.none_bool _
  ·obtain⟨t,rfl⟩:=q;exact EqAt.none_int _ t
  ·obtain⟨t,rfl⟩:=q;exact EqAt.none_str _ t
  ·exact q.elim
  ·obtain⟨a,us,rfl,ht,_⟩:=q;exact EqAt.none_tuple ht (by lia)
  ·obtain⟨a,us,rfl,ht,_⟩:=q;exact EqAt.none_list ht (by lia)
  ·exact q.elim
 | k,A,.bl x,e,u,v,hk,hu,p,q=>by
  unfold Vl at p;subst p;cases e <;> unfold Vl at q
  ·subst q;exact EqAt.bool_none _
  ·subst q;exact EqAt.bool_bool _ _
  ·obtain⟨t,rfl⟩:=q;exact EqAt.bool_int _ _ t
  ·obtain⟨t,rfl⟩:=q;exact EqAt.bool_str _ _ t
  ·exact q.elim
  ·obtain⟨a,us,rfl,ht,_⟩:=q;exact EqAt.bool_tuple _ ht (by lia)
  ·obtain⟨a,us,rfl,ht,_⟩:=q;exact EqAt.bool_list _ ht (by lia)
  ·exact q.elim
 | k,A,.int x,e,u,v,hk,hu,p,q=>by
  unfold Vl at p;obtain⟨w,rfl⟩:=p;cases e <;> unfold Vl at q
  ·subst q;exact EqAt.int_none _ _
  ·subst q;exact EqAt.int_bool _ _ _
  ·obtain⟨t,rfl⟩:=q;exact EqAt.int_int _ _ _ t
  ·obtain⟨t,rfl⟩:=q;exact EqAt.int_str _ _ _ t
  ·exact q.elim
  ·obtain⟨a,us,rfl,ht,_⟩:=q;exact EqAt.int_tuple _ _ ht (by lia)
  ·obtain⟨a,us,rfl,ht,_⟩:=q;exact EqAt.int_list _ _ ht (by lia)
  ·exact q.elim
 | k,A,.str x,e,u,v,hk,hu,p,q=>by
  unfold Vl at p;obtain⟨w,rfl⟩:=p;cases e <;> unfold Vl at q
  ·subst q;exact EqAt.str_none _ _
  ·subst q;exact EqAt.str_bool _ _ _
  ·obtain⟨t,rfl⟩:=q;exact EqAt.str_int _ _ _ t
  ·obtain⟨t,rfl⟩:=q;exact EqAt.str_str _ _ _ t
  ·exact q.elim
  ·obtain⟨a,us,rfl,ht,_⟩:=q;exact EqAt.str_tuple _ _ ht (by lia)
  ·obtain⟨a,us,rfl,ht,_⟩:=q;exact EqAt.str_list _ _ ht (by lia)
  ·exact q.elim
 | k,A,.ty x,e,u,v,hk,hu,p,q=>by unfold Vl at p;exact p.elim
 | k,A,.ref x,e,u,v,hk,hu,p,q=>by unfold Vl at p;exact p.elim
 | k,A,.tup as,e,u,v,hk,hu,p,q=>by
  have o:=p;unfold Vl at p;obtain⟨a,us,rfl,ht,l⟩:=p
  cases e with
  | tup bs=>
   by_cases f:Value.ref a=v
   ·subst f;rw[yX o q];exact EqAt.same _
   unfold Vl at q;obtain⟨b,n,rfl,c,g⟩:=q;have h:a≠b:=λz=>f (by rw[z])
   cases k with
   | zero=>simp[deep]at hk
   | succ k=>
    refine EqAt.of_refs h ?_;have r:=RcAt.tuples (e:=λj=>jZ (as.getD j .cL) (bs.getD j .cL)) ht c (by lia) (λj i m=>j4 k (A:=A.in1) (aGh (fE as j) (by simp[deep]at hk;exact hk)) (by show A.units+1+k+1<_;lia) (dF l (by simp at i;simp[i])) (dF g (by simp at m;simp[m])));show RcAt A s _ _ (eG as bs);rw[cH,<-bG l,<-bG g];simpa using r
  | cL=>unfold Vl at q;subst q;exact EqAt.tuple_none ht (by lia)
  | bl x=>unfold Vl at q;subst q;exact EqAt.tuple_bool _ ht (by lia)
  | int x=>unfold Vl at q;obtain⟨t,rfl⟩:=q;exact EqAt.tuple_int _ _ ht (by lia)
  | str x=>unfold Vl at q;obtain⟨t,rfl⟩:=q;exact EqAt.tuple_str _ _ ht (by lia)
  | fl bs=>unfold Vl at q;obtain⟨b,n,rfl,c,g⟩:=q;exact EqAt.tuple_list ht c (by lia)
  | ty x=>unfold Vl at q;exact q.elim
  | ref x=>unfold Vl at q;exact q.elim
 | k,A,.fl as,e,u,v,hk,hu,p,q=>by
  have o:=p;unfold Vl at p;obtain⟨a,us,rfl,ht,l⟩:=p
  cases e with
  | fl bs=>
   by_cases f:Value.ref a=v
   ·subst f;rw[yX o q];exact EqAt.same _
   unfold Vl at q;obtain⟨b,n,rfl,c,g⟩:=q;have h:a≠b:=λz=>f (by rw[z])
   cases k with
   | zero=>simp[deep]at hk
   | succ k=>
    refine EqAt.of_refs h ?_;show RcAt A s _ _ (eG as bs);by_cases hsz:us.length=n.length
    ·have r:=RcAt.lists (e:=λj=>jZ (as.getD j .cL) (bs.getD j .cL)) ht c (by simpa using hsz) (by lia) (λj i m=>j4 k (A:=A.in1) (aGh (fE as j) (by simp[deep]at hk;exact hk)) (by show A.units+1+k+1<_;lia) (dF l (by simp at i;simp[i])) (dF g (by simp at m;simp[m])));rw[cH,<-bG l,<-bG g,<-hsz,Nat.min_self,beq_self_eq_true,Bool.and_true];simpa using r
    ·have r:=RcAt.lists_lengths (A:=A) ht c (by simpa using hsz) (by lia);rw[cH,<-bG l,<-bG g,beq_eq_false_iff_ne.mpr hsz,Bool.and_false];exact r
  | cL=>unfold Vl at q;subst q;exact EqAt.list_none ht (by lia)
  | bl x=>unfold Vl at q;subst q;exact EqAt.list_bool _ ht (by lia)
  | int x=>unfold Vl at q;obtain⟨t,rfl⟩:=q;exact EqAt.list_int _ _ ht (by lia)
  | str x=>unfold Vl at q;obtain⟨t,rfl⟩:=q;exact EqAt.list_str _ _ ht (by lia)
  | tup bs=>unfold Vl at q;obtain⟨b,n,rfl,c,g⟩:=q;exact EqAt.list_tuple ht c (by lia)
  | ty x=>unfold Vl at q;exact q.elim
  | ref x=>unfold Vl at q;exact q.elim
open SeqAt in
theorem VI{s:Shared}{A:Around}{d e:D}{u v:Value}(k:deep d<=40)(n:A.units+64<cLine)(p:Vl s.heap d u)(q:Vl s.heap e v):RcAt A s u v (jZ d e):=by
 cases d with
 | cL=>
  unfold Vl at p;subst p;cases e <;> unfold Vl at q
  ·subst q;exact RcAt.none_none
  ·subst q;exact RcAt.none_bool _
  ·obtain⟨t,rfl⟩:=q;exact RcAt.none_int _ _
  ·obtain⟨t,rfl⟩:=q;exact RcAt.none_str _ _
  ·exact q.elim
  ·obtain⟨a,us,rfl,ht,_⟩:=q;exact RcAt.none_tuple ht (by lia)
  ·obtain⟨a,us,rfl,ht,_⟩:=q;exact RcAt.none_list ht (by lia)
  ·exact q.elim
 | bl x=>
  unfold Vl at p;subst p;cases e <;> unfold Vl at q
  ·subst q;exact RcAt.bool_none _
  ·subst q;exact RcAt.bool_bool _ _
  ·obtain⟨t,rfl⟩:=q;exact RcAt.bool_int _ _ _
  ·obtain⟨t,rfl⟩:=q;exact RcAt.bool_str _ _ _
  ·exact q.elim
  ·obtain⟨a,us,rfl,ht,_⟩:=q;exact RcAt.bool_tuple _ ht (by lia)
  ·obtain⟨a,us,rfl,ht,_⟩:=q;exact RcAt.bool_list _ ht (by lia)
  ·exact q.elim
 | int x=>
  unfold Vl at p;obtain⟨m,rfl⟩:=p;cases e <;> unfold Vl at q
  ·subst q;exact RcAt.int_none _ _
  ·subst q;exact RcAt.int_bool _ _ _
  ·obtain⟨t,rfl⟩:=q;exact RcAt.int_int _ _ _ _
  ·obtain⟨t,rfl⟩:=q;exact RcAt.int_str _ _ _ _
  ·exact q.elim
  ·obtain⟨a,us,rfl,ht,_⟩:=q;exact RcAt.int_tuple _ _ ht (by lia)
  ·obtain⟨a,us,rfl,ht,_⟩:=q;exact RcAt.int_list _ _ ht (by lia)
  ·exact q.elim
 | str x=>
  unfold Vl at p;obtain⟨m,rfl⟩:=p;cases e <;> unfold Vl at q
  ·subst q;exact RcAt.str_none _ _
  ·subst q;exact RcAt.str_bool _ _ _
  ·obtain⟨t,rfl⟩:=q;exact RcAt.str_int _ _ _ _
  ·obtain⟨t,rfl⟩:=q;exact RcAt.str_str _ _ _ _
  ·exact q.elim
  ·obtain⟨a,us,rfl,ht,_⟩:=q;exact RcAt.str_tuple _ _ ht (by lia)
  ·obtain⟨a,us,rfl,ht,_⟩:=q;exact RcAt.str_list _ _ ht (by lia)
  ·exact q.elim
 | ty x=>unfold Vl at p;exact p.elim
 | ref x=>unfold Vl at p;exact p.elim
 | tup as=>
  unfold Vl at p;obtain⟨a,us,rfl,ht,l⟩:=p
  cases e with
  | tup bs=>
   unfold Vl at q;obtain⟨b,i,rfl,c,f⟩:=q;have r:=RcAt.tuples (e:=λj=>jZ (as.getD j .cL) (bs.getD j .cL)) ht c (by lia) (λj g h=>j4 40 (A:=A.in1) (aGh (fE as j) (by simp[deep]at k;lia)) (by show A.units+1+40+1<_;lia) (dF l (by simp at g;simp[g])) (dF f (by simp at h;simp[h])));show RcAt A s _ _ (eG as bs);rw[cH,<-bG l,<-bG f];simpa using r
  | fl bs=>unfold Vl at q;obtain⟨b,i,rfl,c,f⟩:=q;exact RcAt.tuple_list ht c (by lia)
  | cL=>unfold Vl at q;subst q;exact RcAt.tuple_none ht (by lia)
  | bl x=>unfold Vl at q;subst q;exact RcAt.tuple_bool _ ht (by lia)
  | int x=>unfold Vl at q;obtain⟨t,rfl⟩:=q;exact RcAt.tuple_int _ _ ht (by lia)
  | str x=>unfold Vl at q;obtain⟨t,rfl⟩:=q;exact RcAt.tuple_str _ _ ht (by lia)
  | ty x=>unfold Vl at q;exact q.elim
  | ref x=>unfold Vl at q;exact q.elim
 | fl as=>
  unfold Vl at p;obtain⟨a,us,rfl,ht,l⟩:=p
  cases e with
  | fl bs=>
   unfold Vl at q;obtain⟨b,i,rfl,c,f⟩:=q;show RcAt A s _ _ (eG as bs);by_cases hsz:us.length=i.length
   ·have r:=RcAt.lists (e:=λj=>jZ (as.getD j .cL) (bs.getD j .cL)) ht c (by simpa using hsz) (by lia) (λj g h=>j4 40 (A:=A.in1) (aGh (fE as j) (by simp[deep]at k;lia)) (by show A.units+1+40+1<_;lia) (dF l (by simp at g;simp[g])) (dF f (by simp at h;simp[h])));rw[cH,<-bG l,<-bG f,<-hsz,Nat.min_self,beq_self_eq_true,Bool.and_true];simpa using r
   ·have r:=RcAt.lists_lengths (A:=A) ht c (by simpa using hsz) (by lia);rw[cH,<-bG l,<-bG f,beq_eq_false_iff_ne.mpr hsz,Bool.and_false];exact r
  | tup bs=>unfold Vl at q;obtain⟨b,i,rfl,c,f⟩:=q;exact RcAt.list_tuple ht c (by lia)
  | cL=>unfold Vl at q;subst q;exact RcAt.list_none ht (by lia)
  | bl x=>unfold Vl at q;subst q;exact RcAt.list_bool _ ht (by lia)
  | int x=>unfold Vl at q;obtain⟨t,rfl⟩:=q;exact RcAt.list_int _ _ ht (by lia)
  | str x=>unfold Vl at q;obtain⟨t,rfl⟩:=q;exact RcAt.list_str _ _ ht (by lia)
  | ty x=>unfold Vl at q;exact q.elim
  | ref x=>unfold Vl at q;exact q.elim
open SeqAt in
theorem LF{s:Shared}{A:Around}{d e:D}{u v:Value}(k:deep d<=40)(n:A.units+64<cLine)(p:Vl s.heap d u)(q:Vl s.heap e v):RcNeAt A s u v (!jZ d e):=by
 cases d with
 | cL=>
  unfold Vl at p;subst p;cases e <;> unfold Vl at q
  ·subst q;exact RcNeAt.none_none
  ·subst q;exact RcNeAt.none_bool _
  ·obtain⟨t,rfl⟩:=q;exact RcNeAt.none_int _ _
  ·obtain⟨t,rfl⟩:=q;exact RcNeAt.none_str _ _
  ·exact q.elim
  ·obtain⟨a,us,rfl,ht,_⟩:=q;exact RcNeAt.none_tuple ht (by lia)
  ·obtain⟨a,us,rfl,ht,_⟩:=q;exact RcNeAt.none_list ht (by lia)
  ·exact q.elim
 | bl x=>
  unfold Vl at p;subst p;cases e <;> unfold Vl at q
  ·subst q;exact RcNeAt.bool_none _
  ·subst q;exact RcNeAt.bool_bool _ _
  ·obtain⟨t,rfl⟩:=q;exact RcNeAt.bool_int _ _ _
  ·obtain⟨t,rfl⟩:=q;exact RcNeAt.bool_str _ _ _
  ·exact q.elim
  ·obtain⟨a,us,rfl,ht,_⟩:=q;exact RcNeAt.bool_tuple _ ht (by lia)
  ·obtain⟨a,us,rfl,ht,_⟩:=q;exact RcNeAt.bool_list _ ht (by lia)
  ·exact q.elim
 | int x=>
  unfold Vl at p;obtain⟨m,rfl⟩:=p;cases e <;> unfold Vl at q
  ·subst q;exact RcNeAt.int_none _ _
  ·subst q;exact RcNeAt.int_bool _ _ _
  ·obtain⟨t,rfl⟩:=q;exact RcNeAt.int_int _ _ _ _
  ·obtain⟨t,rfl⟩:=q;exact RcNeAt.int_str _ _ _ _
  ·exact q.elim
  ·obtain⟨a,us,rfl,ht,_⟩:=q;exact RcNeAt.int_tuple _ _ ht (by lia)
  ·obtain⟨a,us,rfl,ht,_⟩:=q;exact RcNeAt.int_list _ _ ht (by lia)
  ·exact q.elim
 | str x=>
  unfold Vl at p;obtain⟨m,rfl⟩:=p;cases e <;> unfold Vl at q
  ·subst q;exact RcNeAt.str_none _ _
  ·subst q;exact RcNeAt.str_bool _ _ _
  ·obtain⟨t,rfl⟩:=q;exact RcNeAt.str_int _ _ _ _
  ·obtain⟨t,rfl⟩:=q;exact RcNeAt.str_str _ _ _ _
  ·exact q.elim
  ·obtain⟨a,us,rfl,ht,_⟩:=q;exact RcNeAt.str_tuple _ _ ht (by lia)
  ·obtain⟨a,us,rfl,ht,_⟩:=q;exact RcNeAt.str_list _ _ ht (by lia)
  ·exact q.elim
 | ty x=>unfold Vl at p;exact p.elim
 | ref x=>unfold Vl at p;exact p.elim
 | tup as=>
  unfold Vl at p;obtain⟨a,us,rfl,ht,l⟩:=p
  cases e with
  | tup bs=>
   unfold Vl at q;obtain⟨b,i,rfl,c,f⟩:=q;have r:=RcNeAt.tuples (e:=λj=>jZ (as.getD j .cL) (bs.getD j .cL)) ht c (by lia) (λj g h=>j4 40 (A:=A.in1) (aGh (fE as j) (by simp[deep]at k;lia)) (by show A.units+1+40+1<_;lia) (dF l (by simp at g;simp[g])) (dF f (by simp at h;simp[h])));show RcNeAt A s _ _ (!eG as bs);rw[cH,<-bG l,<-bG f];simpa using r
  | fl bs=>unfold Vl at q;obtain⟨b,i,rfl,c,f⟩:=q;exact RcNeAt.tuple_list ht c (by lia)
  | cL=>unfold Vl at q;subst q;exact RcNeAt.tuple_none ht (by lia)
  | bl x=>unfold Vl at q;subst q;exact RcNeAt.tuple_bool _ ht (by lia)
  | int x=>unfold Vl at q;obtain⟨t,rfl⟩:=q;exact RcNeAt.tuple_int _ _ ht (by lia)
  | str x=>unfold Vl at q;obtain⟨t,rfl⟩:=q;exact RcNeAt.tuple_str _ _ ht (by lia)
  | ty x=>unfold Vl at q;exact q.elim
  | ref x=>unfold Vl at q;exact q.elim
 | fl as=>
  unfold Vl at p;obtain⟨a,us,rfl,ht,l⟩:=p
  cases e with
  | fl bs=>
   unfold Vl at q;obtain⟨b,i,rfl,c,f⟩:=q;show RcNeAt A s _ _ (!eG as bs);by_cases hsz:us.length=i.length
   ·have r:=RcNeAt.lists (e:=λj=>jZ (as.getD j .cL) (bs.getD j .cL)) ht c (by simpa using hsz) (by lia) (λj g h=>j4 40 (A:=A.in1) (aGh (fE as j) (by simp[deep]at k;lia)) (by show A.units+1+40+1<_;lia) (dF l (by simp at g;simp[g])) (dF f (by simp at h;simp[h])));rw[cH,<-bG l,<-bG f,<-hsz,Nat.min_self,beq_self_eq_true,Bool.and_true];simpa using r
   ·have r:=RcNeAt.lists_lengths (A:=A) ht c (by simpa using hsz) (by lia);rw[cH,<-bG l,<-bG f,beq_eq_false_iff_ne.mpr hsz,Bool.and_false];exact r
  | tup bs=>unfold Vl at q;obtain⟨b,i,rfl,c,f⟩:=q;exact RcNeAt.list_tuple ht c (by lia)
  | cL=>unfold Vl at q;subst q;exact RcNeAt.list_none ht (by lia)
  | bl x=>unfold Vl at q;subst q;exact RcNeAt.list_bool _ ht (by lia)
  | int x=>unfold Vl at q;obtain⟨t,rfl⟩:=q;exact RcNeAt.list_int _ _ ht (by lia)
  | str x=>unfold Vl at q;obtain⟨t,rfl⟩:=q;exact RcNeAt.list_str _ _ ht (by lia)
  | ty x=>unfold Vl at q;exact q.elim
  | ref x=>unfold Vl at q;exact q.elim
def dM(mh:MH):D->D
 | .ref n=>match mh[n]? with | some (.lst ds)=>.fl ds | _=>.ref n
 | d=>d
section
variable {X:Cx}{pins:List (Addr×Obj)}{σ:L2.St}{H:Hp}{s:Shared}{μ:List Addr}{mh:MH}
mutual
theorem T3(I:Inv X pins σ H s):∀(d:D) {v:V} {u:Value},bare d=true->Is X.K μ H d v->RelV v u->Vl s.heap d u
 | .cL,v,u,_,i,r=>by cases NC i;unfold Vl;exact r
 | .bl _,v,u,_,i,r=>by cases ND i;unfold Vl;exact r
 | .int _,v,u,_,i,r=>by cases bO i;unfold Vl;exact r
 | .str _,v,u,_,i,r=>by cases d6 i;unfold Vl;exact r
 | .ty _,v,u,b,i,r=>by simp[bare]at b
 | .ref _,v,u,b,i,r=>by simp[bare]at b
 | .tup ds,v,u,b,i,r=>by
  obtain⟨a,vs,rfl,sq,l⟩:=fD i;have c :u=Value.ref a:=r;subst c;obtain⟨aJ,e,p,_⟩:=I.tuple sq;unfold Vl;exact⟨a,aJ,rfl,p,lL I ds (by simpa[bare] using b) l e⟩
 | .fl ds,v,u,b,i,r=>by
  obtain⟨a,vs,rfl,sq,l⟩:=p6 i;have c :u=Value.ref a:=r;subst c;obtain⟨aJ,e,p,_⟩:=I.list sq.sq;unfold Vl;exact⟨a,aJ,rfl,p.isList,lL I ds (by simpa[bare] using b) l e⟩
theorem lL(I:Inv X pins σ H s):∀(ds:List D) {vs:List V} {us:List Value},eD ds=true->IsL X.K μ H ds vs->Vals vs us->cZ s.heap ds us
 | [],vs,us,_,l,r=>by unfold IsL at l;subst l;cases r;unfold cZ;rfl
 | d::ds,vs,us,b,l,r=>by
  unfold IsL at l;obtain⟨v,e,rfl,i,l⟩:=l
  cases r with
  | cons a c=>
   simp only[eD,Bool.and_eq_true]at b;unfold cZ;exact⟨_,_,rfl,T3 I d b.1 i a,lL I ds b.2 l c⟩
end
theorem qN(I:Inv X pins σ H s)(R:Rep X.K μ mh H){d:D}{v:V}{u:Value}(b:bare (dM mh d)=true)(i:Is X.K μ H d v)(r:RelV v u):Vl s.heap (dM mh d) u:=by
 cases d with
 | ref n=>
  simp only[dM]at b⊢
  cases o:mh[n]? with
  | none=>rw[o]at b;simp[bare]at b
  | some ob=>
   cases ob with
   | lst ds=>
    rw[o]at b;simp only;obtain⟨a,vs,rfl,_,c,l⟩:=g9 R i o;have e :u=Value.ref a:=r;subst e;obtain⟨aJ,f,p,_⟩:=I.list (.of c);unfold Vl;exact⟨a,aJ,rfl,p.isList,lL I ds (by simpa[bare] using b) l f⟩
   | dic t kvs=>rw[o]at b;simp[bare]at b
   | fdc t kvs ob=>rw[o]at b;simp[bare]at b
 | _=>exact T3 I _ b i r
end
def oEq:O2:=λx y mh Q=>bare (dM mh x)=true/\bare (dM mh y)=true/\deep (dM mh x)<=40/\Q (.bl (jZ (dM mh x) (dM mh y))) mh
def OU:O2:=λx y mh Q=>bare (dM mh x)=true/\bare (dM mh y)=true/\deep (dM mh x)<=40/\Q (.bl !jZ (dM mh x) (dM mh y)) mh
section
variable {X:Cx}
theorem aBd(b:X.A.units+64<cLine):dO X (compareOp .Eq) (bB X.K oEq):=by
 intro pins s σ H x y v u Q I c d q;obtain⟨μ,mh,dx,i,R,a,e,f,⟨g,h,hd,q⟩,F⟩:=q;exact VI hd b (qN I a g e c) (qN I a h f d) X.prog X.w X.xe _ ⟨.bl _,H,I,rfl,F.here a q .bl⟩
theorem aB7(b:X.A.units+64<cLine):dO X (compareOp .NotEq) (bB X.K OU):=by
 intro pins s σ H x y v u Q I c d q;obtain⟨μ,mh,dx,i,R,a,e,f,⟨g,h,hd,q⟩,F⟩:=q;exact LF hd b (qN I a g e c) (qN I a h f d) X.prog X.w X.xe _ ⟨.bl _,H,I,rfl,F.here a q .bl⟩
def mC:D->Bool
 | .cL=>true | .bl _=>true | .int _=>true | .str _=>true | _=>false
def SR(x:D)(u:Value):Bool:=match u with
 | .none=>jZ .cL x
 | .bool b=>jZ (.bl b) x
 | .int i _=>jZ (.int i) x
 | .str z _=>jZ (.str z) x
 | _=>false
theorem N0{x y:D}{u:Value}(f:mC y=true)(p:Vl h y u):SR x u=jZ y x:=by
 cases y with
 | cL=>unfold Vl at p;subst p;rfl
 | bl b=>unfold Vl at p;subst p;rfl
 | int b=>unfold Vl at p;obtain⟨t,rfl⟩:=p;rfl
 | str b=>unfold Vl at p;obtain⟨t,rfl⟩:=p;rfl
 | _=>simp[mC]at f
theorem A2{h:Heap}{x:D}:∀{ds:List D} {us:List Value},ds.all mC=true->cZ h ds us->us.any (SR x)=ds.any λy=>jZ y x
 | [],us,_,l=>by unfold cZ at l;subst l;rfl
 | d::ds,us,f,l=>by
  unfold cZ at l;obtain⟨u,r,rfl,p,l⟩:=l;rw[List.all_cons,Bool.and_eq_true]at f;rw[List.any_cons,List.any_cons,N0 f.1 p,A2 f.2 l]
theorem zO{A:Around}{s:Shared}{x:D}{v:Value}(a:A.units+64<cLine)(q:Vl s.heap x v):∀{ds:List D} {us:List Value},ds.all mC=true->cZ s.heap ds us->∀u∈us,SeqAt.EqAt A.in1 s u v (SR x u)
 | [],us,_,l=>by unfold cZ at l;subst l;intro u a;cases a
 | d::ds,us,f,l=>by
  unfold cZ at l;obtain⟨u,r,rfl,p,l⟩:=l;rw[List.all_cons,Bool.and_eq_true]at f;intro b hu';rcases aFx.mp hu' with rfl | hu'
  ·rw[N0 f.1 p];refine j4 0 ?_ (by show A.units+1+0+1<_;lia) p q
   cases d <;> first | exact aFw _ | (simp[mC]at f)
  ·exact zO a q f.2 l b hu'
def inD(x:D)(ds:List D):Bool:=ds.any λy=>jZ y x
theorem oO:∀{ds:List D},ds.all mC=true->eD ds=true
 | [],_=>rfl
 | d::ds,f=>by
  rw[List.all_cons,Bool.and_eq_true]at f;simp only[eD,oO f.2,Bool.and_true]
  cases d <;> first | rfl | (simp[mC]at f)
def oIn:O2:=λx y mh Q=>match y with
 | .str j=>∃i,x= .str i/\Q (.bl (!(Builtin.Str.occurrences j i 0 j.length 1).isEmpty)) mh
 | _=>∃ds,bC mh y=some ds/\bare (dM mh x)=true/\ds.all mC=true/\Q (.bl (inD (dM mh x) ds)) mh
theorem aBa(o:X.A.units+64<cLine):dO X (compareOp .In) (bB X.K oIn):=by
 intro pins s σ H x y v u Q I p r q;obtain⟨μ,mh,dx,t,R,d,z,B,q,F⟩:=q
 have go:(∃ds,bC mh t=some ds/\bare (dM mh dx)=true/\ds.all mC=true/\R (.bl (inD (dM mh dx) ds)) mh)->wpAny (model X.prog X.w) X.A (compareOp .In v u) (EP X pins σ Q) X.xe s:=λg=>by
  obtain⟨ds,e,b,f,q⟩:=g;obtain⟨a,vs,rfl,sq,l⟩:=zB d B e;have h :u=Value.ref a:=r;subst h;have C:=qN I d b z p;rcases sq with sq | sq
  ·obtain⟨aJ,k,m,hz⟩:=I.list sq;have c:=lL I ds (oO f) l k;refine SeqAt.in_listAt (SR (dM mh dx)) m.isList (λw n=>zO o C f c w (by simpa using n)) ⟨.bl _,H,I,rfl,?_⟩;rw[show aJ.toArray.any (SR (dM mh dx))=aJ.any (SR (dM mh dx)) by simp,A2 f c];exact F.here d q .bl
  ·obtain⟨aJ,k,m,hz⟩:=I.tuple sq;have c:=lL I ds (oO f) l k;refine SeqAt.in_tupleAt (SR (dM mh dx)) m (λw n=>zO o C f c w (by simpa using n)) ⟨.bl _,H,I,rfl,?_⟩;rw[show aJ.toArray.any (SR (dM mh dx))=aJ.any (SR (dM mh dx)) by simp,A2 f c];exact F.here d q .bl
 cases t with
 | str j=>
  obtain⟨i,rfl,q⟩:=q;cases d6 z;cases d6 B;exact IK pins s σ H _ _ v u Q I p r ⟨i,j,rfl,rfl,F.here d q .bl⟩
 | _=>exact go q
end
section
variable {prog:Program}{w:World}{A:Around}{E:aJk}{s:Shared}
open HT in
theorem nB{t sl:Addr}{items:Array Value}{e f:Value}{lo hi:Option Int}{Q:aJk}(ht:IsTup s.heap t items)(g:s.heap.IsSliceOf sl e f .none)(j:IsPart e lo)(k:IsPart f hi)
  (i:c7 items.size 0 lo=0/\c7 items.size items.size hi=items.size)
  (h:Q (.ref t) s):wpAny (model prog w) A (getItem (.ref t) (.ref sl)) Q E s:=by
 obtain⟨os,b,c,l⟩:=id g
 have d:s.TypeIs (.ref sl) "slice":=⟨os,b,c⟩
 unfold getItem
 try with_reducible refine aGj ?_
 first | refine aFo (aFq ?_) | skip
 refine aFo (wpAny_sequenceKey ht.typeIs (by decide) ?_)
 refine aFo (aGf (name:=Str.ofString "__getitem__") ht.typeIs aGo
  (aGa aGo ht.typeIs entry_tuple_getitem ?_ (args_tuple_getitem _ _)))
 show wpAny _ _ (Builtin.Tuple.tupleItemsOf (.ref t) >>=_) _ _ s;refine aFo (tupleItemsOf_ ht ?_);refine aFo (aHy d ?_);rw[if_pos (by decide)];refine aFo (jE g j k ?_)
 have a:((((c7 items.size 0 lo:Nat):Int)==0 && (1:Int)==1 && (c7 items.size items.size hi-c7 items.size 0 lo)==items.size)=true):=by
  rw[i.1,i.2];simp
 show wpAny _ _ (if (((c7 items.size 0 lo:Nat):Int)==0 && (1:Int)==1 && (c7 items.size items.size hi-c7 items.size 0 lo)==items.size)=true then _ else _) _ _ s;rw[if_pos a];have m:=ht.typeIs;refine aFo ?_
 first
  | (refine aFo (aHy m (aFq ?_));simp only[beq_self_eq_true,if_true];refine aFo (aGx ?_);first | exact aFq (aFq ⟨_,rfl,aFq h⟩) | exact aFo (aFq (aFq ⟨_,rfl,aFq h⟩)) | exact aFo (aFq (aFq (aFq ⟨_,rfl,aFq h⟩))))
  | trace_state
end
section
variable {X:Cx}
theorem PV:ZV X (λx lo hi H Q=>∃a xs,x= .ref a/\oU X.K H a xs/\
  ((HT.c7 xs.length 0 lo=0/\HT.c7 xs.length xs.length hi=xs.length)->Q (.ref a) H)/\(¬(HT.c7 xs.length 0 lo=0/\HT.c7 xs.length xs.length hi=xs.length)->∀p,H p=none->Q (.ref p) (upd H p (.tup (AM xs lo hi))))):=by
 intro pins s σ H x v j k lo hi sl Q I d e f g h;obtain⟨a,xs,rfl,i,l,m⟩:=h;by_cases c:HT.c7 xs.length 0 lo=0/\HT.c7 xs.length xs.length hi=xs.length
 ·cases d;obtain⟨aJ,r,ht,hz⟩:=I.tuple i;have b:aJ.toArray.size=xs.length:=by rw[List.size_toArray];exact r.length.symm
  exact⟨"tuple",_,aGo.lookup,ht.typeIs,nB ht e f g (by rw[b];exact c) ⟨.ref a,H,I,rfl,l c⟩⟩
 ·exact VC pins s σ H _ v j k lo hi sl Q I d e f g ⟨a,xs,rfl,i,c,m c⟩
def cutD(xs:List D)(lo hi:Option Int):List D:=(xs.drop (HT.c7 xs.length 0 lo)).take (HT.c7 xs.length xs.length hi-HT.c7 xs.length 0 lo)
abbrev OS:=D->Option Int->Option Int->MH->DK->Prop
def T8(K:aJj)(f:OS):V->Option Int->Option Int->Hp->VK->Prop:=λx lo hi H Q=>∃μ mh dx R,Rep K μ mh H/\Is K μ H dx x/\f dx lo hi mh R/\Fin K μ H R Q
def Q8:OS:=λx lo hi mh Q=>match x with
 | .tup ds=>Q (.tup (cutD ds lo hi)) mh
 | _=>∃ds,nA mh x=some ds/\Q (.ref mh.length) (mh++[.lst (cutD ds lo hi)])
theorem HC{ds:List D}{vs:List V}(l:IsL K μ H ds vs)(lo hi:Option Int):IsL K μ H (cutD ds lo hi) (AM vs lo hi):=by
 unfold cutD AM;rw[aN l];exact C8 _ (DA _ l)
theorem sll:ZV X (T8 X.K Q8):=by
 intro pins s σ H x v f g lo hi sl Q I h i j k q;obtain⟨μ,mh,dx,R,c,d,q,F⟩:=q
 have go:(∃ds,nA mh dx=some ds/\R (.ref mh.length) (mh++[.lst (cutD ds lo hi)]))->∃T id,typeLookup (.type T) "__getitem__"=pure (some (.builtin id))/\s.TypeIs v T/\wpAny (model X.prog X.w) X.A (getItem v (.ref sl)) (EP X pins σ Q) X.xe s:=λb=>by
  obtain⟨ds,e,q⟩:=b;obtain⟨a,vs,rfl,sq,l⟩:=uZ c d e;exact PX pins s σ H _ v f g lo hi sl Q I h i j k ⟨a,vs,rfl,sq,gO c F (HC l lo hi) q⟩
 cases dx with
 | tup ds=>
  obtain⟨a,vs,rfl,sq,l⟩:=fD d;refine PV pins s σ H _ v f g lo hi sl Q I h i j k ⟨a,vs,rfl,sq,λm=>?_,λ_=>mU c F (HC l lo hi) q⟩
  have e:cutD ds lo hi=ds:=by
   unfold cutD;rw[<-aN l,m.1,m.2,aN l];simp
  have n :R (.tup (cutD ds lo hi)) mh:=q;rw[e]at n;exact F.here c n d
 | _=>exact go q
abbrev WO:=eK->MH->(Option Int->MH->Prop)->Prop
def tLO(K:aJj)(w:WO):TO:=λσ H Q=>∃μ a mh R,Rep K μ mh H/\bZ K μ H a σ/\w a mh R/\∀o mh',R o mh' ->∀μ' H',aK μ H μ' H' ->Rep K μ' mh' H' ->Q o H'
def LO(X:Cx)(e:Option Expr)(w:WO):Prop:=PO X e (tLO X.K w)
def OP:WO:=λ_ mh Q=>Q none mh
def lJ(w:WE):WO:=λb mh Q=>w b mh λx a=>∃i,x= .int i/\Q (some i) a
variable {e:Expr}{w:WE}{lo hi:Option Expr}{wl wh:WO}{pos p2:Pos}
theorem RM:LO X none OP:=λpins s σ H Q I q=>QR pins s σ H Q I (by
 obtain⟨μ,b,mh,R,a,E,h,F⟩:=q
 exact F none mh h μ H aK.refl a)
theorem RL(h:LE X e w):LO X (some e) (lJ w):=λpins s σ H Q I q=>QQ h pins s σ H Q I (by
 obtain⟨μ,c,mh,R,d,E,h,F⟩:=q;refine⟨μ,c,mh,_,d,E,h,λdx a b μ1 l f g j k=>?_⟩;obtain⟨i,rfl,b⟩:=b
 exact⟨i,bO k,F (some i) a b μ1 f g j⟩)
def TZ(f:OS)(w:WE)(wl wh:WO):WE:=λa mh Q=>w a mh λx b=>wl a b λl c=>wh a c λu d=>f x l u d Q
theorem MU{f:OS}(o:ZV X (T8 X.K f))(he:LE X e w)(p:LO X lo wl)(r:LO X hi wh):LE X (.Subscript e (.Slice lo hi none p2) pos) (TZ f w wl wh):=PE.imp (L0 o he p r) λσ H Q q=>by
 obtain⟨μ,a,mh,R,b,E,h,F⟩:=q;refine⟨μ,a,mh,_,b,E,h,λdx c s μ1 t A d m v=>⟨μ1,a,c,_,m,E.mono b d,s,λl g x i B P2 R2=>⟨i,a,g,_,R2,E.mono b (d.trans P2),x,λu j y k C n z=>?_⟩⟩⟩;exact⟨k,j,dx,R,z,Is.mono m (P2.trans n) dx t v,y,F.at ((d.trans P2).trans n)⟩
abbrev OM:=D->List D->MH->DK->Prop
def liftM(K:aJj)(f:OM):V->List V->Hp->VK->Prop:=λx xs H Q=>∃μ mh dx ds R,Rep K μ mh H/\Is K μ H dx x/\IsL K μ H ds xs/\f dx ds mh R/\Fin K μ H R Q
def zV(mh:MH)(T:String):D->Prop
 | .str _=>T= "str"
 | .int _=>T= "int"
 | .ref n=>T= "list"/\∃ds,mh[n]? =some (.lst ds)
 | .fl _=>T= "list"
 | .tup _=>T= "tuple"
 | _=>False
theorem XU{mh:MH}{T:String}{d:D}{v:V}(b:Rep K μ mh H)(i:Is K μ H d v)(k:zV mh T d):tyV K T v H:=by
 cases d with
 | str z=>cases d6 i;exact k
 | int z=>cases bO i;exact k
 | ref n=>obtain⟨e,ds,o⟩:=k;obtain⟨a,vs,rfl,_,c,_⟩:=g9 b i o;exact .inl ⟨e,vs,.of c⟩
 | fl ds=>obtain⟨a,vs,rfl,sq,_⟩:=p6 i;exact .inl ⟨k,vs,sq.sq⟩
 | tup ds=>obtain⟨a,vs,rfl,sq,_⟩:=fD i;exact .inr (.inl ⟨k,vs,sq⟩)
 | _=>exact False.elim k
variable {o:Expr}{es:List Expr}{wo:WE}{wa:WA}{name:Str}{apos fF:Pos}{T id:String}
def GG(T:String)(f:OM)(wo:WE)(wa:WA):WE:=λc mh Q=>wo c mh λx a=>zV a T x/\wa c a λds b=>f x ds b Q
theorem aBu{f:OM}(pa:PlainAttrs T)(slot:Slot T name id)(g:typeOf (.builtin id)=pure (.type "method_descriptor"))(t:MtR X id (liftM X.K f))(ho:LE X o wo)(ha:LA X (e::es) wa)
  (b:attributeBase o name X.env (eval o X.env)=eval o X.env:=by rfl)
  (d:((backTo fF (starEach (e::es) X.env)).all (λx=>!x.1) && (backToKw fF (keywordEach [] X.env)).all (λx=>x.1.isSome)
   && decide ((e::es).length+([]:List Keyword).length+(if ([]:List Keyword).isEmpty then 0 else 1)<30))=true:=by rfl)
  (c:(apos.endLine==fF.line)=true:=by rfl) (u:starEach (e::es) X.env=(false,eval e X.env)::starEach es X.env:=by rfl) (a:(backTo fF (starEach es X.env)).any (·.1)=false:=by rfl):
  LE X (.Call (.Attribute o name apos) (e::es) [] fF) (GG T f wo wa):=PE.imp (aB0 pa slot g t ho ha b d c u a) λσ H Q q=>by
 obtain⟨μ,m,mh,R,n,E,h,F⟩:=q;refine⟨μ,m,mh,_,n,E,h,λdx i p μ1 v z r j s=>⟨XU j s p.1,μ1,m,i,_,j,E.mono n r,p.2,λds k w l vs A P2 R2 y=>?_⟩⟩;exact⟨l,k,dx,ds,R,R2,Is.mono j P2 dx v s,y,w,F.at (r.trans P2)⟩
def cI:OM:=λx ds mh Q=>∃n es d,x= .ref n/\ds=[d]/\mh[n]? =some (.lst es)/\es.length<sizeLine/\Q .cL (mh.set n (.lst (es++[d])))
theorem IQ:MtR X "list.append" (liftM X.K cI):=by
 intro pins s σ H x xs v us Q I c rs q;obtain⟨μ,mh,dx,ds,R,b,f,g,⟨n,es,d,rfl,rfl,e,hz,q⟩,F⟩:=q;obtain⟨a,vs,rfl,h,i,l⟩:=g9 b f e;obtain⟨z,rfl,j⟩:=rS g;exact qW pins s σ H _ _ v us Q I c rs ⟨a,vs,z,rfl,rfl,i,by rw[aN l];exact hz,F.put b h (iP l (mT j)) q .cL⟩
end
structure fY where
 nx:eK->MH->Prop
 rt:DK
 bk:eK->MH->Prop:=λ_ _=>False
 ct:eK->MH->Prop:=λ_ _=>False
abbrev WS:=fY->eK->MH->Prop
def F5(K:aJj)(μ:List Addr)(H:Hp)(R:eK->MH->Prop)(Q:L2.St->Hp->Prop):Prop:=
 ∀a mh',R a mh' ->∀μ' b H',aK μ H μ' H' ->Rep K μ' mh' H' ->bZ K μ' H' a b ->Q b H'
structure A5(K:aJj)(μ:List Addr)(H:Hp)(E:fY)(D:Ends):Prop where
 nx:F5 K μ H E.nx D.nx
 rt:Fin K μ H E.rt D.rt
 bk:F5 K μ H E.bk D.bk
 ct:F5 K μ H E.ct D.ct
def tLS(K:aJj)(w:WS):TS:=λD σ H=>∃μ a mh E,Rep K μ mh H/\bZ K μ H a σ/\w E a mh/\A5 K μ H E D
def LS(X:Cx)(st:Stmt)(w:WS):Prop:=PS X st (tLS X.K w)
def kX(X:Cx)(st:List Stmt)(w:WS):Prop:=A4 X st (tLS X.K w)
theorem PS.imp{e:Stmt}{t t' :TS}(h:PS X e t)(i:∀D σ H,t' D σ H->t D σ H):PS X e t' :=λpins s σ H D I q=>h pins s σ H D I (i D σ H q)
theorem A4.imp{e:List Stmt}{t t' :TS}(h:A4 X e t)(i:∀D σ H,t' D σ H->t D σ H):A4 X e t' :=λpins s σ H D I q=>h pins s σ H D I (i D σ H q)
section
variable {K:aJj}{μ μ1:List Addr}{H H1:Hp}
theorem F5.at{R:eK->MH->Prop}{Q:L2.St->Hp->Prop}(F:F5 K μ H R Q)(P:aK μ H μ1 H1):F5 K μ1 H1 R Q:=λa mh' r μ' b H' c d I=>F a mh' r μ' b H' (P.trans c) d I
theorem A5.at{E:fY}{D:Ends}(F:A5 K μ H E D)(P:aK μ H μ1 H1):A5 K μ1 H1 E D:=⟨F.nx.at P,F.rt.at P,F.bk.at P,F.ct.at P⟩
theorem bZ.set{c:eK}{σ:L2.St}{d:D}{v:V}(E:bZ K μ H c σ)(i:Nat)(h:Is K μ H d v):bZ K μ H (c.set i (some d)) (σ.set i (some v)):=by
 refine⟨by simp[E.1],λj e b=>?_⟩;by_cases a:j=i
 ·subst a
  have f:j<c.length:=by
   have:=(aFp.mp b).1;simpa using this
  rw[List.getElem?_set_self f]at b;cases b;exact⟨v,by rw[List.getElem?_set_self (by rw[<-E.1];exact f)],h⟩
 ·rw[List.getElem?_set_ne (Ne.symm a)]at b;obtain⟨u,g,k⟩:=E.2 j e b;exact⟨u,by rw[List.getElem?_set_ne (Ne.symm a)];exact g,k⟩
end
def dQ:WS:=λE a mh=>E.nx a mh
def aS(t u:WS):WS:=λE a mh=>t {E with nx:=u E} a mh
def UR:WS:=λE a mh=>E.ct a mh
def iN(w:WE):WS:=λE b mh=>w b mh λ_ a=>E.nx b a
def dE(w:WE):WS:=λE a mh=>w a mh E.rt
def gI(t:WT)(a b:WS):WS:=λE e mh=>t e mh λc d=>if c=true then a E e d else b E e d
section
variable {X:Cx}{st:Stmt}{rest a b:List Stmt}{t u:WS}{e:Expr}{w:WE}{wt:WT}{pos:Pos}
theorem W8:kX X [] dQ:=A4.imp QN λD σ H a=>by obtain⟨μ,b,mh,E,R,En,h,F⟩:=a;exact F.nx b mh h μ σ H aK.refl R En
theorem RK(d:LS X st t)(e:kX X rest u):kX X (st::rest) (aS t u):=A4.imp (LN d e) λD σ H a=>by
 obtain⟨μ,f,mh,E,R,En,h,F⟩:=a;exact⟨μ,f,mh,_,R,En,h,⟨λb mh' q μ' g H' i j c =>⟨μ',b,mh',E,j,c,q,F.at i⟩,F.rt,F.bk,F.ct⟩⟩
theorem W7(a:LS X st t):kX X [st] t:=QM a
theorem CT:LS X (.Continue pos) UR:=PS.imp CA λD σ H a=>by obtain⟨μ,b,mh,E,R,En,h,F⟩:=a;exact F.ct b mh h μ σ H aK.refl R En
theorem RJ(he:LE X e w)(f:swapsWith e none pos.line X.env=pure false:=by rfl):LS X (.Expr e pos) (iN w):=PS.imp (QO he f) λD σ H ⟨μ,b,mh,E,R,En,h,F⟩=>
 ⟨μ,b,mh,_,R,En,h,λd a q μ1 v g c i j=>F.nx b a q μ1 σ g c i (En.mono R c)⟩
theorem W6(he:LE X e w):LS X (.Return (some e) pos) (dE w):=PS.imp (VO he) λD σ H a=>by obtain⟨μ,b,mh,E,R,En,h,F⟩:=a;exact⟨μ,b,mh,_,R,En,h,F.rt⟩
theorem aBi{c:Expr}(j:LT X c wt)(ha:kX X a t)(hb:kX X b u):LS X (.If c a b pos) (gI wt t u):=PS.imp (aAu j ha hb) λD σ H f=>by
 obtain⟨μ,g,mh,E,R,En,h,F⟩:=f;refine⟨μ,g,mh,_,R,En,h,λk d q μ1 l e i=>?_⟩
 cases k with
 | true=>rw[if_pos rfl]at q⊢;exact⟨μ1,g,d,E,i,En.mono R e,q,F.at e⟩
 | false=>rw[if_neg Bool.false_ne_true]at q⊢;exact⟨μ1,g,d,E,i,En.mono R e,q,F.at e⟩
abbrev WG:=D->eK->(eK->Prop)->Prop
abbrev TJ:=List D->eK->(eK->Prop)->Prop
def oR(K:aJj)(g:TG)(e:WG):Prop:=∀v σ H Q μ c mh d R,Rep K μ mh H->bZ K μ H c σ->Is K μ H d v->e d c R->(∀a,R a ->∀b,bZ K μ H a b ->Q b H)->g v σ H Q
def yQ(K:aJj)(g:OW)(d:TJ):Prop:=∀vs σ H Q μ c mh ds R,Rep K μ mh H->bZ K μ H c σ->IsL K μ H ds vs->d ds c R->(∀a,R a ->∀b,bZ K μ H a b ->Q b H)->g vs σ H Q
def gN(i:Nat):WG:=λd a Q=>Q (a.set i (some d))
def iQ:TJ:=λds a Q=>ds=[]/\Q a
def bH(t:WG)(u:TJ):TJ:=λds b Q=>∃d r,ds=d::r/\t d b λa =>u r a Q
def gT(n:Nat)(u:TJ):WG:=λd a Q=>∃ds,d= .tup ds/\ds.length=n/\u ds a Q
theorem HE(i:Nat):oR K (xX i) (gN i):=λv σ H Q μ a mh d R b En I h F=>F _ h _ (En.set i I)
theorem SO:yQ K aC8 iQ:=λvs σ H Q μ a mh ds R b En I h F=>by
 obtain⟨rfl,h⟩:=h;unfold IsL at I;exact⟨I,F a h σ En⟩
theorem NR{g:TG}{f:OW}{i:WG}{a:TJ}(l:oR K g i)(m:yQ K f a):yQ K (UE g f) (bH i a):=λvs σ H Q μ n mh ds R j En I h F=>by
 obtain⟨d,r,rfl,h⟩:=h;unfold IsL at I;obtain⟨v,k,rfl,o,p⟩:=I;exact⟨v,k,rfl,l v σ H _ μ n mh d _ j En o h λb q c e =>m k c H Q μ b mh r R j e p q F⟩
theorem YK{n:Nat}{c:OW}{b:TJ}(h:yQ K c b):oR K (aC7 K n c) (gT n b):=λv σ H Q μ e mh d R f En I q F=>by
 obtain⟨ds,rfl,g,q⟩:=q;obtain⟨a,vs,rfl,sq,l⟩:=fD I;exact⟨a,vs,rfl,sq,by rw[aN l];exact g,h vs σ H Q μ e mh ds R f En l q F⟩
def bX(w:WE)(g:WG):WS:=λE c mh=>w c mh λd a=>g d c λb =>E.nx b a
theorem OI{g:TG}{f:WG}{D:Ends}{σ:L2.St}(m:oR K g f)(h:tLS K (bX w f) D σ H):U9 (tL K w) g D σ H:=by
 obtain⟨μ,i,mh,E,R,En,h,F⟩:=h;refine⟨μ,i,mh,_,R,En,h,λd a q μ1 v j k l n=>?_⟩;exact m v σ j _ μ1 i a d _ l (En.mono R k) n q λb o c e =>F.nx b a o μ1 c j k l e
theorem W5(i:Nat){x:Str}{a :Pos}(hN:X.N.Nodup)(he:LE X e w)(hi:X.N[i]? =some x:=by rfl)(b:Loc X.env.scope x:=by first | exact Or.inl rfl | exact Or.inr rfl)(c:swapsWith e (some (.Name x a)) pos.line X.env=pure false:=by rfl)(d:X.fn x=true\/X.env.scope.names.lookup x=some .local:=by first | exact .inl rfl | exact .inr rfl | assumption):
  LS X (.Assign [.Name x a] e pos) (bX w (gN i)):=PS.imp (VN hN hi b he c d) λD σ H h=>OI (HE i) h
theorem XB{tg:Expr}{g:TG}{a:WG}(he:LE X e w)(hg:PG X tg g)(b:oR X.K g a)(c:swapsWithSole [tg] e pos.line X.env=pure false:=by rfl)(d:swappedStores [tg] e X.env=pure none:=by rfl)
  (f:(assignEach [tg] X.env).map (·.2)=[assign tg X.env]:=by rfl):LS X (.Assign [tg] e pos) (bX w a):=PS.imp (LQ he hg c d f) λD σ H h=>OI b h
def PY:D->D->D->MH->(MH->Prop)->Prop:=λo i d mh Q=>∃n ds k j,o= .ref n/\i= .int k/\mh[n]? =some (.lst ds)/\FG ds.length k=some j/\Q (mh.set n (.lst (ds.set j d)))
def tQ(w g wi:WE):WS:=λE a mh=>w a mh λd b=>g a b λo c=>wi a c λi e=>PY o i d e λf=>E.nx a f
theorem RH{o i:Expr}{x wi:WE}{b:Pos}(he:LE X e w)(ho:LE X o x)(hi:LE X i wi)
  (ha:∀v,assign (.Subscript o i b) X.env v=(do
   let ov<-holding [v] (eval o X.env)
   let iv<-holding [v,ov] (eval i X.env)
   standAt b
   holding [v,ov,iv] (setItem ov iv v)
   release [v,ov,iv] []):=by intro _;rfl)
  (B:swapsWithSole [.Subscript o i b] e pos.line X.env=pure false:=by rfl) (C:swappedStores [.Subscript o i b] e X.env=pure none:=by rfl)
  (G:(assignEach [.Subscript o i b] X.env).map (·.2)=[assign (.Subscript o i b) X.env]:=by rfl):LS X (.Assign [.Subscript o i b] e pos) (tQ w x wi):=
 PS.imp (LQ he (VS ho hi set_list ha) B C G) λD σ H h=>by
  obtain⟨μ,g,mh,E,R,En,h,F⟩:=h;refine⟨μ,g,mh,_,R,En,h,λd m q μ1 v W p y I=>?_⟩;refine⟨μ1,g,m,_,y,En.mono R p,q,λJ r K s Y Z P2 R2 L=>?_⟩;refine⟨s,g,r,_,R2,En.mono R (p.trans P2),K,λdi M N c vi z t u O=>?_⟩;obtain⟨n,ds,k,j,rfl,rfl,P,Q,S⟩:=N;obtain⟨a,vs,rfl,A,T,l⟩:=g9 u (Is.mono R2 t _ _ L) P;cases bO O;have U:=Is.mono y (P2.trans t) d v I;have V:aK c z c (upd z a (.lst (vs.set j v))):=aK.set u A;have R4:=u.set A (HB j U l);have f:=((p.trans P2).trans t).trans V;exact⟨a,vs,k,j,rfl,rfl,T,by rw[aN l];exact Q,F.nx g _ S c σ _ f R4 (En.mono R f)⟩
def yW(t:WT)(b:WS):WS:=λE a mh=>∃W:Nat->eK->MH->Prop,(∃m,W m a mh)/\∀m a mh,W m a mh->∃N:eK->MH->Prop,(∀d mh',N d mh' ->∃f,f<m/\W f d mh')/\
 t a mh λc e=>if c=true then b {E with nx:=N,ct:=N,bk:=E.nx} a e else E.nx a e
theorem MR{c:Expr}{body:List Stmt}(y:PassesOwn (model X.prog X.w) X.A X.env X.xe)(z:LT X c wt)(hb:kX X body t):LS X (.While c body [] pos) (yW wt t):=PS.imp (LP y z hb) λD σ H h=>by
 obtain⟨μ,B,mh,E,R,En,⟨W,⟨m,C⟩,o⟩,F⟩:=h;refine⟨λm j H' =>∃μ' e mh',aK μ H μ' H' /\Rep X.K μ' mh' H' /\bZ X.K μ' H' e j /\W m e mh',⟨m,μ,B,mh,aK.refl,R,En,C⟩,?_⟩;rintro m j H' ⟨μ',e,mh',v,u,l,G⟩;obtain⟨N,hN,tt⟩:=o m e mh' G;refine⟨μ',e,mh',_,u,l,tt,λk p q μ1 I s x=>?_⟩
 cases k with
 | false=>rw[if_neg Bool.false_ne_true]at q⊢;exact F.nx e p q μ1 j I (v.trans s) x (l.mono u s)
 | true=>
  rw[if_pos rfl]at q⊢;refine⟨λg n=>∃a b d,aK μ H a n/\Rep X.K a d n/\bZ X.K a n b g/\N b d,?_,?_⟩
  ·rintro g n ⟨a,b,d,P2,R2,f,r⟩;obtain⟨J,L,M⟩:=hN b d r;exact⟨J,L,a,b,d,P2,R2,f,M⟩
  ·have i:=v.trans s;exact⟨μ1,e,p,_,x,l.mono u s,q,⟨λb d r a g n P2 R2 f=>⟨a,b,d,i.trans P2,R2,f,r⟩,F.rt.at i,F.nx.at i,λb d r a g n P2 R2 f=>⟨a,b,d,i.trans P2,R2,f,r⟩⟩⟩
def oC(t:WT)(b:WS)(E:fY):Nat->eK->MH->Prop
 | 0,_,_=>False
 | n+1,ρ,mh=>t ρ mh λc a=>if c=true then b {E with nx:=oC t b E n,ct:=oC t b E n,bk:=E.nx} ρ a else E.nx ρ a
theorem EF{t:WT}{b:WS}{E:fY}{a:eK}{mh:MH}(n:Nat)(h:oC t b E n a mh):yW t b E a mh:=by
 refine⟨λm a mh=>oC t b E m a mh,⟨n,h⟩,λm a mh c=>?_⟩
 cases m with
 | zero=>exact c.elim
 | succ m=>exact⟨oC t b E m,λd mh' q=>⟨m,aHf _,q⟩,c⟩
abbrev WI:=eK->MH->(List D->(MH->Prop)->MH->Prop)->Prop
structure eF(μ:List Addr)(H:Hp)(μ' :List Addr)(H' :Hp):Prop where
 pre:∃t,μ' =μ++t
 fr:∀b o,H b=some o->¬Own (some o)->H' b=some o
section
variable {K:aJj}{μ μ' :List Addr}{mh:MH}{H H' :Hp}
theorem aK.weak(R:Rep K μ mh H)(P:aK μ H μ' H'):eF μ H μ' H' :=⟨P.pre,λb o e n=>P.fr b o e λa=>n (by have:=R.mut a;rwa [e]at this)⟩
theorem eF.trans{a:Hp}(P:eF μ H μ1 a)(Q:eF μ1 a μ' H'):eF μ H μ' H' :=⟨by obtain⟨t,rfl⟩:=P.pre;obtain⟨u,rfl⟩:=Q.pre;exact⟨t++u,by simp⟩,λb o e n=>Q.fr b o (P.fr b o e n) n⟩
theorem eF.get(p:eF μ H μ' H'){n:Nat}{a:Addr}(h:μ[n]? =some a):μ'[n]? =some a:=by
 obtain⟨t,rfl⟩:=p.pre;rw[List.getElem?_append_left (List.getElem?_eq_some_iff.mp h).1];exact h
theorem eF.sqT(p:eF μ H μ' H'){a:Addr}{vs:List V}(h:oU K H a vs):oU K H' a vs:=by
 rcases h with (h | ⟨o,h⟩) | h
 ·exact .inl (.inl (p.fr _ _ h id))
 ·exact .inl (.inr ⟨o,p.fr _ _ h id⟩)
 ·exact .inr h
theorem eF.sqF(p:eF μ H μ' H'){a:Addr}{vs:List V}(h:OY K H a vs):OY K H' a vs:=by
 rcases h with ⟨o,h⟩ | h
 ·exact .inl ⟨o,p.fr _ _ h id⟩
 ·exact .inr h
mutual
theorem Is.jI(p:eF μ H μ' H'):∀(d:D) (v:V),Is K μ H d v->Is K μ' H' d v
 | .cL,v,h=>by unfold Is at*;exact h
 | .bl _,v,h=>by unfold Is at*;exact h
 | .int _,v,h=>by unfold Is at*;exact h
 | .str _,v,h=>by unfold Is at*;exact h
 | .ty _,v,h=>by unfold Is at*;exact h
 | .tup ds,v,h=>by
  unfold Is at*;obtain⟨a,vs,e,s,l⟩:=h;exact⟨a,vs,e,p.sqT s,IsL.jI p ds vs l⟩
 | .fl ds,v,h=>by
  unfold Is at*;obtain⟨a,vs,e,s,l⟩:=h;exact⟨a,vs,e,p.sqF s,IsL.jI p ds vs l⟩
 | .ref n,v,h=>by
  unfold Is at*;obtain⟨a,e,q⟩:=h;exact⟨a,p.get e,q⟩
theorem IsL.jI(p:eF μ H μ' H'):∀(ds:List D) (vs:List V),IsL K μ H ds vs->IsL K μ' H' ds vs
 | [],vs,h=>by unfold IsL at*;exact h
 | d::ds,vs,h=>by
  unfold IsL at*;obtain⟨v,r,e,q,l⟩:=h;exact⟨v,r,e,Is.jI p d v q,IsL.jI p ds r l⟩
end
end
structure J0(K:aJj)(μ:List Addr)(H:Hp)(ds:List D)(St:MH->Prop)(J:It):Prop where
 small:ds.length<=sizeLine
 go:∀μ' mh' H',eF μ H μ' H' ->Rep K μ' mh' H' ->St mh' ->∀(i:Nat) d,ds[i]? =some d->J.go i H' /\∀x H'',J.ZL i H' x H'' ->aK μ' H' μ' H'' /\Rep K μ' mh' H'' /\Is K μ' H'' d x
 stop:∀μ' mh' H',eF μ H μ' H' ->Rep K μ' mh' H' ->St mh' ->J.stop ds.length H'
def U6(K:aJj)(w:WI):TI:=λσ H R=>∃μ c mh d,Rep K μ mh H/\bZ K μ H c σ/\w c mh d /\
 ∀ds St a,d ds St a->∀μ1 J b,aK μ H μ1 b->Rep K μ1 a b->J0 K μ1 b ds St J->R J b
def LI(X:Cx)(tg iter:Expr)(w:WI):Prop:=PI X tg iter (U6 X.K w)
theorem PI.imp{X:Cx}{tg e:Expr}{t t' :TI}(h:PI X tg e t)(i:∀σ H Q,t' σ H Q->t σ H Q):PI X tg e t' :=λpins s σ H Q I q=>h pins s σ H Q I (i σ H Q q)
def lW(g:WG)(b:WS)(E:fY)(St:MH->Prop):List D->eK->MH->Prop
 | [],ρ,mh=>St mh/\E.nx ρ mh
 | d::ds,ρ,mh=>St mh/\g d ρ λa=>b {E with nx:=lW g b E St ds,ct:=lW g b E St ds,bk:=E.nx} a mh
def lK(wi:WI)(g:WG)(b:WS):WS:=λE c mh=>wi c mh λds St a=>lW g b E St ds c a
theorem W9{tg iter:Expr}{body:List Stmt}{wi:WI}{g:TG}{p:WG}(U:PassesOwn (model X.prog X.w) X.A X.env X.xe)(V:X.calm=true)(hi:LI X tg iter wi)(hg:PG X tg g)(W:oR X.K g p)(hb:kX X body t)
  (Y:∀x,foldedSetIterable iter X.env x=pure x:=by intro _;rfl):LS X (.For tg iter body [] pos) (lK wi p t):=PS.imp (VP U V hi hg hb Y) λD σ H h=>by
 obtain⟨μ,P,mh,E,R,En,h,F⟩:=h;refine⟨μ,P,mh,_,R,En,h,λds St B q μ1 J C G I It=>?_⟩;refine⟨λi m j H' =>∃μ' d mh',aK μ1 C μ' H' /\Rep X.K μ' mh' H' /\bZ X.K μ' H' d j /\i<=ds.length/\m=ds.length-i/\lW p t E St (ds.drop i) d mh',⟨ds.length,μ1,P,B,aK.refl,I,En.mono R G,aH2 _,by simp,by simpa using q⟩,?_⟩;rintro i m j H' ⟨μ',d,mh',v,z,r,Z,rfl,l⟩;by_cases n:i<ds.length
 ·rw[List.drop_eq_getElem_cons n]at l;obtain⟨L,l⟩:=l;obtain⟨M,hy⟩:=It.go μ' mh' H' (v.weak I) z L i ds[i] (by simp[n]);refine .inr ⟨M,λf k=>∃a b c,aK μ1 C a k/\Rep X.K a c k/\bZ X.K a k b f/\lW p t E St (ds.drop (i+1)) b c,?_,λx H'' y=>?_⟩
  ·rintro f k ⟨a,b,c,P2,R2,o,l2⟩;exact⟨ds.length-(i+1),by lia,a,b,c,P2,R2,o,n,rfl,l2⟩
  ·obtain⟨Q,S,Iy⟩:=hy x H'' y;refine W x j H'' _ μ' d mh' _ _ S (r.mono z Q) Iy l λN q3 σ3 O=>?_;have T:=v.trans Q;have s:=G.trans T
   have u:F5 X.K μ' H'' (lW p t E St (ds.drop (i+1))) (λf k=>∃a b c,aK μ1 C a k/\Rep X.K a c k/\bZ X.K a k b f/\lW p t E St (ds.drop (i+1)) b c):=
    λb c n2 a f k P2 R2 o=>⟨a,b,c,T.trans P2,R2,o,n2⟩
   exact⟨μ',N,mh',_,S,O,q3,⟨u,F.rt.at s,F.nx.at s,u⟩⟩
 ·have e:i=ds.length:=by lia
  subst e;rw[List.drop_of_length_le (Nat.le_refl _)]at l;exact .inl ⟨It.stop μ' mh' H' (v.weak I) z l.1,F.nx d mh' l.2 μ' j H' (G.trans v) z r⟩
end
def dP(w:WE):WI:=λb mh Q=>w b mh λx a=>∃ds,bC a x=some ds/\Q ds (λmh' =>bC mh' x=some ds) a
section
variable {K:aJj}{μ:List Addr}{mh:MH}{H:Hp}{ds:List D}{vs:List V}{a:Addr}
theorem X4{St:MH->Prop}(R:Rep K μ mh H)(s:oU K H a vs)(l:IsL K μ H ds vs)(hz:ds.length<=sizeLine):J0 K μ H ds St (Itt K a):=by
 refine⟨hz,λμ' mh' H' b c _ i d e=>?_,λμ' mh' H' b c _=>⟨vs,b.sqT s,by rw[aN l];exact aFw _⟩⟩;have f :=b.sqT s;obtain⟨v,g,h⟩:=eT (IsL.jI b ds vs l) e;refine⟨⟨vs,v,f,g⟩,λx H'' y=>?_⟩;obtain⟨rfl,y⟩:=y;have:=y vs f;rw[g]at this;cases this;exact⟨aK.refl,c,h⟩
theorem aBz{St:MH->Prop}(R:Rep K μ mh H)(s:OY K H a vs)(l:IsL K μ H ds vs)(hz:ds.length<=sizeLine):J0 K μ H ds St (Itl K a):=by
 refine⟨hz,λμ' mh' H' b c _ i d e=>?_,λμ' mh' H' b c _=>⟨vs,(b.sqF s).sq,by rw[aN l];exact aFw _⟩⟩;have f :=(b.sqF s).sq;obtain⟨v,g,h⟩:=eT (IsL.jI b ds vs l) e;refine⟨⟨vs,v,f,g⟩,λx H'' y=>?_⟩;obtain⟨rfl,y⟩:=y;have:=y vs f;rw[g]at this;cases this;exact⟨aK.refl,c,h⟩
theorem sP{mh:MH}{n:Nat}{ds:List D}(h:bC mh (.ref n)=some ds):mh[n]? =some (.lst ds):=by
 simp only[bC]at h
 cases o:mh[n]? with
 | none=>rw[o]at h;cases h
 | some ob=>cases ob with
  | lst a=>rw[o]at h;cases h;rfl
  | dic t kvs=>rw[o]at h;cases h
  | fdc t kvs ob=>rw[o]at h;cases h
theorem X6{n:Nat}(R:Rep K μ mh H)(h:μ[n]? =some a)(hz:ds.length<=sizeLine):J0 K μ H ds (λmh' =>bC mh' (.ref n)=some ds) (Itl K a):=by
 refine⟨hz,λμ' mh' H' f b g i d e=>?_,λμ' mh' H' f b g=>?_⟩
 ·obtain⟨vs,c,l⟩:=b.obj n a _ (f.get h) (sP g);obtain⟨v,j,k⟩:=eT l e;refine⟨⟨vs,v,.of c,j⟩,λx H'' y=>?_⟩;obtain⟨rfl,y⟩:=y;have:=y vs (.of c);rw[j]at this;cases this;exact⟨aK.refl,b,k⟩
 ·obtain⟨vs,c,l⟩:=b.obj n a _ (f.get h) (sP g);exact⟨vs,.of c,by rw[aN l];exact aFw _⟩
end
section
variable {X:Cx}{tg l:Expr}{w:WE}
theorem XC(C:LE X l w):LI X tg l (dP w):=by
 intro pins s σ H R I h;obtain⟨μ,D,mh,E,G,En,h,F⟩:=h;refine cA (C pins s σ H (λv f=>∃μ1 x c ds,aK μ H μ1 f/\Rep X.K μ1 c f/\Is X.K μ1 f x v/\bC c x=some ds/\E ds (λmh' =>bC mh' x=some ds) c) I ⟨μ,D,mh,_,G,En,h,λd c q μ1 v f u k g=>?_⟩) λv s1 ⟨x,f,g,z,J⟩=>?_
 ·obtain⟨ds,e,q⟩:=q;exact⟨μ1,d,c,ds,u,k,g,e,q⟩
 ·obtain⟨μ1,dx,c,ds,u,k,y,e,q⟩:=J;obtain⟨a,vs,rfl,sq,L⟩:=zB k y e;have hz:ds.length<=sizeLine:=by rw[<-aN L];exact VA g sq
  have i:∀{vs:List V},oV X.K f a vs->J0 X.K μ1 f ds (λmh' =>bC mh' dx=some ds) (Itl X.K a)->wpAny (model X.prog X.w) X.A (pyIter v) (PIE X pins σ tg R) X.xe s1:=λ{vs} sq It=>by
   obtain⟨aJ,M,p,_⟩:=g.list sq;cases z;refine wpAny_pyIter_list p.isList ?_;refine⟨s1.heap.objs.size,[s1.heap.objs.size],_,_,f,rfl,g.kept (t' :=s1.toks) λb o e=>aFr _ e,HR a _,⟨_,aFy _ rfl,rfl,rfl⟩,λb hb=>?_,F ds _ c q μ1 _ f u k It⟩;have e:b=s1.heap.objs.size:=by simpa using hb
   subst e;exact g.NV (aFw _) (g.bY.fresh (aFw _))
  cases dx with
  | tup N=>
   cases e;obtain⟨B,r,t,j,m⟩:=fD y;cases t;obtain⟨aJ,M,p,_⟩:=g.tuple j;cases z;refine wpAny_pyIter_tuple (show s1.heap.IsTuple a aJ.toArray from p) ?_;refine⟨s1.heap.objs.size,[s1.heap.objs.size],_,_,f,rfl,g.kept (t' :=s1.toks) λb o e=>aFr _ e,EH a _,⟨_,aFy _ rfl,rfl,rfl⟩,λb hb=>?_,F ds _ c q μ1 _ f u k (X4 k j m hz)⟩;have e:b=s1.heap.objs.size:=by simpa using hb
   subst e;exact g.NV (aFw _) (g.bY.fresh (aFw _))
  | fl N=>
   cases e;obtain⟨B,r,t,j,m⟩:=p6 y;cases t;exact i j.sq (aBz k j m hz)
  | ref n=>
   obtain⟨B,r,t,O,P,m⟩:=g9 k y (sP e);cases t;exact i (.of P) (X6 k O hz)
  | _=>cases e
def uN(lo:Int)(n:Nat):List D:=(List.range n).map λ(k:Nat)=>D.int (lo+(k:Int))
theorem X5{St:MH->Prop}{lo:Int}{n:Nat}(hz:n<=sizeLine):J0 K μ H (uN lo n) St (Itr lo n):=by
 refine⟨by simpa[uN] using hz,λμ' mh' H' b a _ i d e=>?_,λμ' mh' H' b a _=>by show n<=_;simp[uN]⟩;simp only[uN,List.getElem?_map]at e;obtain⟨k,c,rfl⟩:=aGn.mp e;obtain⟨hi,rfl⟩:=aFp.mp c;simp at hi;refine⟨hi,λx H'' y=>?_⟩;obtain⟨rfl,rfl⟩:=y;exact⟨aK.refl,a,by simp;exact .int⟩
variable {a b:Expr}{wa:WA}{p pos:Pos}
def nT(wa:WA):WI:=λb mh Q=>wa b mh λds a=>∃j,ds=[.int j]/\ -(2^62)<=j/\j<=sizeLine/\Q (uN 0 j.toNat) (λ_=>True) a
theorem IT(hg:Gl X "range")(d:X.mg "range"=none)(ha:LA X [a] wa)(c:starEach [a] X.env=[(false,eval a X.env)]:=by rfl):LI X tg (.Call (.Name "range" p) [a] [] pos) (nT wa):=
 PI.imp (IG hg d ha c) λσ H R h=>by
  obtain⟨μ,e,mh,o,f,En,h,F⟩:=h;refine⟨μ,e,mh,_,f,En,h,λds b q μ1 vs g i k l=>?_⟩;obtain⟨j,rfl,m,r,q⟩:=q;obtain⟨v,rfl,n⟩:=rS l;cases bO n;have s:=lX;have c:sizeLine=16777216:=aGe;exact⟨j,rfl,m,by lia,F _ _ b q μ1 _ g i k (X5 (by lia))⟩
def kT:List D->List D->List D
 | a::as,b::bs=>.tup [a,b]::kT as bs
 | _,_=>[]
theorem sY:∀(as bs:List D),(kT as bs).length=min as.length bs.length
 | [],bs=>by simp[kT]
 | a::as,[]=>by simp[kT]
 | a::as,b::bs=>by simp[kT,sY as bs]
theorem BA:∀{as bs:List D} {i:Nat} {d:D},(kT as bs)[i]? =some d->∃x y,as[i]? =some x/\bs[i]? =some y/\d= .tup [x,y]
 | [],bs,i,d,h=>by simp[kT]at h
 | a::as,[],i,d,h=>by simp[kT]at h
 | a::as,b::bs,0,d,h=>by simp[kT]at h;exact⟨a,b,rfl,rfl,h.symm⟩
 | a::as,b::bs,i+1,d,h=>by simpa using BA (as:=as) (bs:=bs) (i:=i) (by simpa[kT] using h)
def tO(wa:WA):WI:=λc mh Q=>wa c mh λxs a=>∃x y ds b,xs=[x,y]/\bC a x=some ds/\bC a y=some b/\ds.length<=sizeLine/\Q (kT ds b) (λmh' =>bC mh' x=some ds/\bC mh' y=some b) a
def NF:D->Bool | .tup _=>true | _=>false
theorem tZ{mh:MH}{d:D}{v:V}{ds:List D}(R:Rep K μ mh H)(h:Is K μ H d v)(e:bC mh d=some ds):∃a vs,v= .ref a/\F1 K H (NF d) a vs/\IsL K μ H ds vs:=by
 cases d with
 | tup b=>obtain⟨a,vs,rfl,s,l⟩:=fD h;cases e;exact⟨a,vs,rfl,s,l⟩
 | fl b=>obtain⟨a,vs,rfl,s,l⟩:=p6 h;cases e;exact⟨a,vs,rfl,s.sq,l⟩
 | ref n=>obtain⟨a,vs,rfl,_,c,l⟩:=g9 R h (sP e);exact⟨a,vs,rfl,oV.of c,l⟩
 | _=>cases e
variable {e1 e2:Expr}{elts:List Expr}{x1:Nat}{tpos:Pos}
theorem RQ{x1}(hg:Gl X "zip")(U:X.mg "zip"=none)(ha:LA X [e1,e2] wa)
  (he:starEach [e1,e2] X.env=(false,eval e1 X.env)::starEach [e2] X.env:=by rfl) (A:(backTo pos (starEach [e2] X.env)).any (·.1)=false:=by rfl):
  LI X (.Tuple elts x1 tpos) (.Call (.Name "zip" p) [e1,e2] [] pos) (tO wa):=
 PI.imp (LY TU ⟨by decide,by decide⟩ hg U ha (by decide+kernel) he A) λσ H R h=>by
  obtain⟨μ,V,mh,g,W,En,h,F⟩:=h;refine⟨μ,V,mh,_,W,En,h,λxs B q μ1 vs L Y C Z=>?_⟩;obtain⟨x,y,ds,D,rfl,h1,h2,hz,q⟩:=q;obtain⟨v,u,rfl,M,N⟩:=HD Z;obtain⟨a,xs,rfl,sa,la⟩:=tZ C M h1;obtain⟨b,ys,rfl,sb,lb⟩:=tZ C N h2;refine⟨[(a,NF x),(b,NF y)],rfl,rfl,?_,F _ _ B q μ1 _ L Y C ?_⟩
  ·intro E o;simp at o;rcases o with rfl | rfl
   ·exact⟨xs,sa⟩
   ·exact⟨ys,sb⟩
  ·have l:∀μ' mh' H',eF μ1 L μ' H' ->Rep X.K μ' mh' H' ->(bC mh' x=some ds/\bC mh' y=some D)->∃xs ys,F1 X.K H' (NF x) a xs/\IsL X.K μ' H' ds xs/\F1 X.K H' (NF y) b ys/\IsL X.K μ' H' D ys:=λμ' mh' H' m g st=>by
    obtain⟨a',c,e1,s1,n⟩:=tZ g (Is.jI m _ _ M) st.1;obtain⟨b',f,e2,s2,r⟩:=tZ g (Is.jI m _ _ N) st.2;cases e1;cases e2;exact⟨c,f,s1,n,s2,r⟩
   refine⟨by rw[sY];lia,λμ' mh' H' m g st i d e=>?_,λμ' mh' H' m g st=>?_⟩
   ·obtain⟨c,f,s1,n,s2,r⟩:=l μ' mh' H' m g st;obtain⟨dx,dy,g1,g2,rfl⟩:=BA e;obtain⟨t,O,ix⟩:=eT n g1;obtain⟨w,P,iy⟩:=eT r g2;refine⟨⟨[t,w],rfl,λk a' t' v G Q=>?_⟩,λz H'' yl=>?_⟩
    ·match k with
     | 0=>cases G;cases Q;exact⟨c,s1,O⟩
     | 1=>cases G;cases Q;exact⟨f,s2,P⟩
     | k+2=>simp at G
    ·obtain⟨E,vs,S,rfl,rfl,I,s⟩:=yl
     match vs,I with
     | [v1,v2],_=>
      have e1:=s 0 a (NF x) v1 rfl rfl c s1;have e2:=s 1 b (NF y) v2 rfl rfl f s2;rw[O]at e1;rw[P]at e2;cases e1;cases e2;have J:aK μ' H' μ' (upd H' E (.tup [t,w])):=aK.new g S;refine⟨J,g.new S,?_⟩;unfold Is;refine⟨E,[t,w],rfl,.of bR,?_⟩;unfold IsL;exact⟨t,[w],rfl,Is.mono g J _ _ ix,mT (Is.mono g J _ _ iy)⟩
   ·obtain⟨c,f,s1,n,s2,r⟩:=l μ' mh' H' m g st;rw[sY];by_cases hle:ds.length<=D.length
    ·refine⟨0,a,NF x,c,rfl,s1,by rw[aN n];lia,λj b u T=>absurd T (by lia)⟩
    ·refine⟨1,b,NF y,f,rfl,s2,by rw[aN r];lia,λj b u T hs=>?_⟩;have:j=0:=by lia
     subst this;cases hs;exact⟨c,s1,by rw[aN n];lia⟩
end
section
variable {K:aJj}{μ μ' :List Addr}{mh:MH}{H H0:Hp}{q:Addr}{o:HO}
mutual
theorem Is.out(b:JZ (H q)):∀(d:D) (v:V),Is K μ H d v->Is K μ (upd H q o) d v
 | .cL,v,h=>by unfold Is at*;exact h
 | .bl _,v,h=>by unfold Is at*;exact h
 | .int _,v,h=>by unfold Is at*;exact h
 | .str _,v,h=>by unfold Is at*;exact h
 | .ty _,v,h=>by unfold Is at*;exact h
 | .tup ds,v,h=>by
  unfold Is at*;obtain⟨a,vs,e,s,l⟩:=h;refine⟨a,vs,e,?_,IsL.out b ds vs l⟩
  rcases s with (s | ⟨ob,s⟩) | s
  ·exact .inl (.inl (by rw[aM (λz=>by subst z;rw[s]at b;exact b)];exact s))
  ·exact .inl (.inr ⟨ob,by rw[aM (λz=>by subst z;rw[s]at b;exact b)];exact s⟩)
  ·exact .inr s
 | .fl ds,v,h=>by
  unfold Is at*;obtain⟨a,vs,e,s,l⟩:=h;refine⟨a,vs,e,?_,IsL.out b ds vs l⟩
  rcases s with ⟨ob,s⟩ | s
  ·exact .inl ⟨ob,by rw[aM (λz=>by subst z;rw[s]at b;exact b)];exact s⟩
  ·exact .inr s
 | .ref n,v,h=>by unfold Is at*;exact h
theorem IsL.out(a:JZ (H q)):∀(ds:List D) (vs:List V),IsL K μ H ds vs->IsL K μ (upd H q o) ds vs
 | [],vs,h=>by unfold IsL at*;exact h
 | d::ds,vs,h=>by
  unfold IsL at*;obtain⟨v,r,e,i,l⟩:=h;exact⟨v,r,e,Is.out a d v i,IsL.out a ds r l⟩
end
mutual
theorem Is.pre(b:∀(n:Nat) a,μ[n]? =some a->μ'[n]? =some a):∀(d:D) (v:V),Is K μ H d v->Is K μ' H d v
 | .cL,v,h=>by unfold Is at*;exact h
 | .bl _,v,h=>by unfold Is at*;exact h
 | .int _,v,h=>by unfold Is at*;exact h
 | .str _,v,h=>by unfold Is at*;exact h
 | .ty _,v,h=>by unfold Is at*;exact h
 | .tup ds,v,h=>by unfold Is at*;obtain⟨a,vs,e,s,l⟩:=h;exact⟨a,vs,e,s,IsL.pre b ds vs l⟩
 | .fl ds,v,h=>by unfold Is at*;obtain⟨a,vs,e,s,l⟩:=h;exact⟨a,vs,e,s,IsL.pre b ds vs l⟩
 | .ref n,v,h=>by unfold Is at*;obtain⟨a,e,q⟩:=h;exact⟨a,b n a e,q⟩
theorem IsL.pre(b:∀(n:Nat) a,μ[n]? =some a->μ'[n]? =some a):∀(ds:List D) (vs:List V),IsL K μ H ds vs->IsL K μ' H ds vs
 | [],vs,h=>by unfold IsL at*;exact h
 | d::ds,vs,h=>by unfold IsL at*;obtain⟨v,r,e,i,l⟩:=h;exact⟨v,r,e,Is.pre b d v i,IsL.pre b ds r l⟩
end
theorem Rep.out(R:Rep K μ mh H)(c:JZ (H q))(f:q∉μ):Rep K μ mh (upd H q o):=⟨R.len,R.nd,λn a ob d g=>by
 have h:=R.obj n a ob d g;have b:a≠q:=λz=>f (z▸aG3 d)
 cases ob with
 | lst ds=>obtain⟨vs,e,l⟩:=h;exact⟨vs,by rw[aM b];exact e,IsL.out c ds vs l⟩
 | dic t kvs=>obtain⟨vs,e,l⟩:=h;exact⟨vs,by rw[aM b];exact e,IsL.out c _ vs l⟩
 | fdc t kvs ob=>obtain⟨vs,u,e,i,l⟩:=h;exact⟨vs,u,by rw[aM b];exact e,i,IsL.out c _ vs l⟩⟩
theorem aK.out(P:aK μ H0 μ' H)(h0:H0 q=none):aK μ H0 μ' (upd H q o):=⟨P.pre,λb u e n=>by rw[aM (bK e h0)];exact P.fr b u e n,P.nw⟩
theorem Rep.TF{f:MO}(R:Rep K μ mh H)(o:q∉μ)(e:oB K (μ++[q]) H f q):Rep K (μ++[q]) (mh++[f]) H:=by
 have k:∀{g us},IsL K μ H g us->IsL K (μ++[q]) H g us:=λ{g us} l=>IsL.pre (λn a h=>by rw[List.getElem?_append_left (List.getElem?_eq_some_iff.mp h).1];exact h) g us l;refine⟨by simp[R.len],?_,λn a ob c d=>?_⟩
 ·rw[List.nodup_append];refine⟨R.nd,by simp,λa ha b hb=>?_⟩;simp at hb;subst hb;exact λz=>o (z▸ha)
 ·by_cases m:n<μ.length
  ·rw[List.getElem?_append_left m]at c;rw[List.getElem?_append_left (by rw[<-R.len];exact m)]at d;have h:=R.obj n a ob c d
   cases ob with
   | lst g=>obtain⟨us,i,j⟩:=h;exact⟨us,i,k j⟩
   | dic t kvs=>obtain⟨us,i,j⟩:=h;exact⟨us,i,k j⟩
   | fdc t kvs ob=>obtain⟨us,u,i,p,j⟩:=h;exact⟨us,u,i,p,k j⟩
  ·rw[List.getElem?_append_right (by lia)]at c;rw[List.getElem?_append_right (by rw[<-R.len];lia)]at d
   have hz:n-μ.length=0:=by
    have:=(aFp.mp c).1;simp at this;lia
   rw[hz]at c;rw[<-R.len,hz]at d;simp at c d;subst c d;exact e
theorem Rep.aCh{ds:List D}{vs:List V}(R:Rep K μ mh H)(b:q∉μ)(e:H q=some (.lst vs))(l:IsL K μ H ds vs):Rep K (μ++[q]) (mh++[.lst ds]) H:=
 R.TF b ⟨vs,e,IsL.pre (λn a h=>by rw[List.getElem?_append_left (List.getElem?_eq_some_iff.mp h).1];exact h) ds vs l⟩
end
def fW(own:List Str)(aH:List Nat)(a:eK):eK:=own.map (λ_=>none)++aH.map λi=>(a[i]?).join
def jJ(g:WG)(t:WT)(w:WE)(ρe:eK)(St:MH->Prop)(Q:DK):List D->List D->MH->Prop
 | [],ys,mh=>St mh/\Q (.ref mh.length) (mh++[.lst ys])
 | d::ds,ys,mh=>St mh/\g d ρe λa=>t a mh λb c=>if b=true then w a c λy e=>jJ g t w ρe St Q ds (ys++[y]) e else jJ g t w ρe St Q ds ys c
def EB(own:List Str)(aH:List Nat)(wi:WI)(g:WG)(t:WT)(w:WE):WE:=λb mh Q=>wi b mh λds St a=>jJ g t w (fW own aH b) St Q ds [] a
def kU:WT:=λ_ mh Q=>Q true mh
section
variable {K:aJj}{μ μ1:List Addr}{mh:MH}{H H1:Hp}
theorem aK.away{q:Addr}{o:HO}(P:aK μ H μ1 H1)(a:q∉μ)(e:H q=some o):q∉μ1/\H1 q=some o:=by
 refine⟨λh=>?_,P.fr q o e a⟩;rcases P.nw q h with z | z
 ·exact a z
 ·rw[e]at z;cases z
theorem bZ.emb{a:eK}{σ:L2.St}{own:List Str}{aH:List Nat}(E:bZ K μ H a σ):bZ K μ H (fW own aH a) (rB own aH σ):=by
 refine⟨by simp[fW,rB],λi d h=>?_⟩;unfold fW at h;unfold rB;by_cases hi:i<own.length
 ·rw[List.getElem?_append_left (by simpa using hi),List.getElem?_map]at h
  cases q:own[i]? with
  | none=>rw[q]at h;simp at h
  | some z=>rw[q]at h;simp at h
 ·rw[List.getElem?_append_right (by simpa using hi),List.getElem?_map]at h⊢;simp only[List.length_map]at h⊢
  cases q:aH[i-own.length]? with
  | none=>rw[q]at h;simp at h
  | some k=>
   rw[q]at h;simp only[Option.map_some,Option.some.injEq]at h⊢
   cases r:a[k]? with
   | none=>rw[r]at h;simp at h
   | some z=>
    rw[r]at h;simp at h;subst h;obtain⟨v,b,c⟩:=E.2 k d r;exact⟨v,by rw[b];rfl,c⟩
end
section
variable {X:Cx}
def TL(X:Cx)(a:List Expr)(w:WT):Prop:=ZH X a (OQ X.K w)
theorem RG:TL X [] kU:=λpins s σ H Q I q=>QK pins s σ H Q I (by
 obtain⟨μ,b,mh,R,a,En,h,F⟩:=q
 exact F true mh h μ H aK.refl a)
theorem RF{c:Expr}{t:WT}(h:LT X c t):TL X [c] t:=QJ h
theorem RZ{wi:WI}{g:TG}{M:WG}{t:WT}{w:WE}{own:List Str}{aH:List Nat}(hr:oR X.K g M){σ:L2.St}(h:tL X.K (EB own aH wi M t w) σ H Q):tLC own aH (U6 X.K wi) g (OQ X.K t) (tL X.K w) σ H Q:=by
 intro _ _;obtain⟨μ,N,mh,R,RR,En,h,F⟩:=h;refine⟨μ,N,mh,_,RR,En,h,λds St V q μ1 J W P1 O It d j=>?_⟩;have o:d∉μ1:=λz=>O.ne j z rfl
 refine⟨λi m ys H' =>∃μ' mh' f,aK μ1 W μ' H' /\Rep X.K μ' mh' H' /\d∉μ' /\H' d=some (.lst ys)/\IsL X.K μ' H' f ys/\f.length<=i/\i<=ds.length/\m=ds.length-i/\jJ M t w (fW own aH N) St R (ds.drop i) f mh',
  ⟨ds.length,μ1,V,[],aK.out aK.refl j,O.new j,o,bR,by unfold IsL;rfl,aFw _,aH2 _,by simp,by simpa using q⟩,?_⟩
 rintro i m ys H' ⟨μ',mh',f,p,u,v,Y,Z,hd',hi',rfl,c⟩;refine⟨Y,?_⟩;by_cases r:i<ds.length
 ·rw[List.drop_eq_getElem_cons r]at c;obtain⟨hst,c⟩:=c;obtain⟨hgo,hy⟩:=It.go μ' mh' H' (p.weak O) u hst i ds[i] (by simp[r]);refine .inr ⟨hgo,λs A=>∃l n k,aK μ1 W l A/\Rep X.K l n A/\d∉l/\A d=some (.lst s)/\IsL X.K l A k s/\k.length<=i+1/\jJ M t w (fW own aH N) St R (ds.drop (i+1)) k n,?_,λx H'' y=>?_⟩
  ·rintro s A ⟨l,n,k,P2,R2,ha2,e2,l2,hd2,c2⟩;exact⟨ds.length-(i+1),by lia,l,n,k,P2,R2,ha2,e2,l2,hd2,r,rfl,c2⟩
  ·obtain⟨P,S,Iy⟩:=hy x H'' y;obtain⟨hay,ey⟩:=P.away v Y;have ly:=IsL.mono u P f ys Z;have P0y:=P1.trans (p.trans P);refine hr x _ H'' _ μ' (fW own aH N) mh' _ _ S (En.mono RR P0y).emb Iy c λB q2 σ2 C=>?_;refine⟨μ',B,mh',_,S,C,q2,λb D T E H3 U R3=>?_⟩;obtain⟨G,e3⟩:=U.away hay ey;have l3:=IsL.mono S U f ys ly;have I:=(p.trans P).trans U
   cases b with
   | false=>rw[if_neg Bool.false_ne_true]at T⊢;exact⟨E,D,f,I,R3,G,e3,l3,by lia,T⟩
   | true=>
    rw[if_pos rfl]at T⊢;refine⟨by have:=It.small;rw[aN Z];lia,E,B,D,_,R3,C.mono S U,T,λy mh4 q4 μ4 vy H4 P4 R4 I4=>?_⟩;obtain⟨L,e4⟩:=P4.away G e3;have hm:JZ (H4 d):=by rw[e4];trivial
    have l4:=IsL.mono R3 P4 f ys l3;exact⟨e4,μ4,mh4,f++[y],aK.out (I.trans P4) j,R4.out hm L,L,bR,IsL.out hm _ _ (iP l4 (mT I4)),by simp;lia,q4⟩
 ·have e:i=ds.length:=by lia
  subst e;rw[List.drop_of_length_le (Nat.le_refl _)]at c;refine .inl ⟨It.stop μ' mh' H' (p.weak O) u c.1,?_⟩
  have Pa:aK μ1 W (μ' ++[d]) H' :=⟨by obtain⟨t,rfl⟩:=p.pre;exact⟨t++[d],by simp⟩,p.fr,λa ha=>by
   rcases aFv.mp ha with ha | ha
   ·exact p.nw a ha
   ·simp at ha;subst ha;exact .inr j⟩
  exact F _ _ c.2 (μ' ++[d]) _ H' (P1.trans Pa) (u.aCh v Y Z) (by unfold Is;exact⟨d,by rw[<-u.len];simp,rfl⟩)
theorem aBp{tg iter a:Expr}{b:List Expr}{scope sc:Scope}{N:List Str}{pos:Pos}{wi:WI}{g:TG}{c:WG}{t:WT}{w:WE}(own:List Str)(aH:List Nat)
  (hN:X.N=N) (hsc:X.env.scope=sc) (chk:iS N sc scope aH=true) (hcalm:X.calm=true) (hi:LI X tg iter wi) (ho:F4 own.length g)
  (d:oR X.K g c)
  (hg:∀cl C fp s₀ H₀,PG (aZ X own aH scope cl C fp s₀ H₀) tg g) (ht:∀cl C fp s₀ H₀,TL (aZ X own aH scope cl C fp s₀ H₀) b t)
  (he:∀cl C fp s₀ H₀,LE (aZ X own aH scope cl C fp s₀ H₀) a w)
  (e:∀x,foldedSetIterable iter X.env x=pure x:=by intro _;rfl):LE X (.ListComp a [⟨tg,iter,b,0⟩] scope pos) (EB own aH wi c t w):=
 PE.imp (aAy (wi:=U6 X.K wi) (tt:=OQ X.K t) (te:=tL X.K w) own aH hN hsc chk hcalm hi ho hg (λcl C fp s₀ H₀=>ht cl C fp s₀ H₀) (λcl C fp s₀ H₀=>he cl C fp s₀ H₀) e) λσ H Q h=>RZ d h
end
mutual
def cV(n:Nat):D->Bool
 | .ref k=>decide (k<n)
 | .tup ds=>cG n ds
 | .fl ds=>cG n ds
 | _=>true
def cG(n:Nat):List D->Bool
 | []=>true
 | d::ds=>cV n d && cG n ds
end
def zJ(n:Nat):MO->Bool
 | .lst ds=>cG n ds
 | .dic _ kvs=>cG n (kvs.map (·.2))
 | .fdc _ kvs _=>cG n (kvs.map (·.2))
def kW(mh:MH):Prop:=∀o∈mh,zJ mh.length o=true
section
variable {K:aJj}{μ:List Addr}{mh:MH}{H:Hp}
mutual
theorem QB:∀(d:D) (v:V),Is K μ H d v->cV μ.length d=true
 | .cL,v,h=>rfl
 | .bl _,v,h=>rfl
 | .int _,v,h=>rfl
 | .str _,v,h=>rfl
 | .ty _,v,h=>rfl
 | .tup ds,v,h=>by obtain⟨a,vs,_,_,l⟩:=fD h;simpa[cV] using gZ ds vs l
 | .fl ds,v,h=>by obtain⟨a,vs,_,_,l⟩:=p6 h;simpa[cV] using gZ ds vs l
 | .ref n,v,h=>by obtain⟨a,e,_⟩:=oI h;simpa[cV] using (aFp.mp e).1
theorem gZ:∀(ds:List D) (vs:List V),IsL K μ H ds vs->cG μ.length ds=true
 | [],vs,h=>rfl
 | d::ds,vs,h=>by
  unfold IsL at h;obtain⟨v,r,_,i,l⟩:=h;simp only[cG,QB d v i,gZ ds r l,Bool.and_self]
end
theorem Rep.mok(R:Rep K μ mh H):kW mh:=λo ho=>by
 obtain⟨n,a⟩:=aGk.mp ho;have b:n<μ.length:=by rw[R.len];exact(aFp.mp a).1
 have h:=R.obj n μ[n] o (by simp[b]) a;rw[<-R.len]
 cases o with
 | lst ds=>obtain⟨vs,_,l⟩:=h;exact gZ ds vs l
 | dic t kvs=>obtain⟨vs,_,l⟩:=h;exact gZ _ vs l
 | fdc t kvs ob=>obtain⟨vs,_,_,_,l⟩:=h;exact gZ _ vs l
mutual
theorem Is.cut{n:Nat}:∀(d:D) (v:V),cV n d=true->Is K μ H d v->Is K (μ.take n) H d v
 | .cL,v,_,h=>by unfold Is at*;exact h
 | .bl _,v,_,h=>by unfold Is at*;exact h
 | .int _,v,_,h=>by unfold Is at*;exact h
 | .str _,v,_,h=>by unfold Is at*;exact h
 | .ty _,v,_,h=>by unfold Is at*;exact h
 | .tup ds,v,b,h=>by unfold Is at*;obtain⟨a,vs,e,s,l⟩:=h;exact⟨a,vs,e,s,IsL.cut ds vs (by simpa[cV] using b) l⟩
 | .fl ds,v,b,h=>by unfold Is at*;obtain⟨a,vs,e,s,l⟩:=h;exact⟨a,vs,e,s,IsL.cut ds vs (by simpa[cV] using b) l⟩
 | .ref k,v,b,h=>by unfold Is at*;obtain⟨a,e,q⟩:=h;exact⟨a,by rw[List.getElem?_take_of_lt (by simpa[cV] using b)];exact e,q⟩
theorem IsL.cut{n:Nat}:∀(ds:List D) (vs:List V),cG n ds=true->IsL K μ H ds vs->IsL K (μ.take n) H ds vs
 | [],vs,_,h=>by unfold IsL at*;exact h
 | d::ds,vs,b,h=>by
  unfold IsL at*;simp only[cG,Bool.and_eq_true]at b;obtain⟨v,r,e,i,l⟩:=h;exact⟨v,r,e,Is.cut d v b.1 i,IsL.cut ds r b.2 l⟩
end
theorem Rep.cut{c d:MH}(R:Rep K μ (c++d) H)(ok:kW c):Rep K (μ.take c.length) c H:=by
 have j:c.length<=μ.length:=by rw[R.len];simp
 refine⟨by simp[j],List.Nodup.sublist (aJd _ _) R.nd,λn a o g f=>?_⟩;have i:n<c.length:=(aFp.mp f).1;rw[List.getElem?_take_of_lt i]at g;have h:=R.obj n a o g (by rw[List.getElem?_append_left i];exact f);have b:=ok o (aG3 f)
 cases o with
 | lst ds=>obtain⟨vs,e,l⟩:=h;exact⟨vs,e,IsL.cut ds vs b l⟩
 | dic t kvs=>obtain⟨vs,e,l⟩:=h;exact⟨vs,e,IsL.cut _ vs b l⟩
 | fdc t kvs ob=>obtain⟨vs,u,e,k,l⟩:=h;exact⟨vs,u,e,k,IsL.cut _ vs b l⟩
end
def Out(n:Nat)(d:D)(c:MH)(R:DK):Prop:=R d c\/(∃a b,c=a++b/\n<=a.length/\kW a/\cV a.length d=true/\R d a)\/
 ∃a b j o,c=a++b/\n<=a.length/\kW a/\d= .ref j/\a.length<=j/\c[j]? =some o/\zJ a.length o=true/\R (.ref a.length) (a++[o])
variable{mh:MH}
theorem Q0(D:Rep K μ mh H)(F:Fin K μ H R Q):Fin K μ H (λd q=>Out mh.length d q R) Q:=by
 intro d q h μ1 v s i w A
 have key:∀{f:MH},mh.length<=f.length->∃t,μ1.take f.length=μ++t:=λ{f} g=>by
  obtain⟨t,rfl⟩:=i.pre;rw[List.take_append,List.take_of_length_le (by rw[D.len];exact g)];exact⟨_,rfl⟩
 rcases h with h | ⟨f,x,rfl,g,ok,b,h⟩ | ⟨f,x,j,o,rfl,g,ok,rfl,G,ho,b,h⟩
 ·exact F d q h μ1 v s i w A
 ·exact F d f h (μ1.take f.length) v s ⟨key g,i.fr,λa ha=>i.nw a (aH8 ha)⟩ (w.cut ok) (Is.cut d v b A)
 ·have y:=w.cut ok;obtain⟨a,ha,rfl⟩:=oI A;have r:=w.obj j a o ha ho;have m:(μ1.take f.length).length=f.length:=y.len
  have p:a∉μ1.take f.length:=λz=>by
   obtain⟨k,B⟩:=aGk.mp z;have C:k<f.length:=by have:=(aFp.mp B).1;lia
   rw[List.getElem?_take_of_lt C]at B;have:=MF w.nd B ha
   lia
  cases o with
  | lst ds=>
   obtain⟨vs,e,l⟩:=r;refine F _ _ h (μ1.take f.length++[a]) _ s ⟨?_,i.fr,λc hc=>?_⟩ (y.aCh p e (IsL.cut ds vs b l)) (by unfold Is;exact⟨a,by rw[<-m];simp,rfl⟩)
   ·obtain⟨t,ht⟩:=key g;exact⟨t++[a],by rw[ht];simp⟩
   ·rcases aFv.mp hc with hc | hc
    ·exact i.nw c (aH8 hc)
    ·simp at hc;subst hc;exact i.nw c (aG3 ha)
  | dic t kvs=>
   obtain⟨vs,e,l⟩:=r;refine F _ _ h (μ1.take f.length++[a]) _ s ⟨?_,i.fr,λc hc=>?_⟩ (y.TF p ⟨vs,e,IsL.pre (λn a h=>by rw[List.getElem?_append_left (List.getElem?_eq_some_iff.mp h).1];exact h) _ vs (IsL.cut _ vs b l)⟩) (by unfold Is;exact⟨a,by rw[<-m];simp,rfl⟩)
   ·obtain⟨t,ht⟩:=key g;exact⟨t++[a],by rw[ht];simp⟩
   ·rcases aFv.mp hc with hc | hc
    ·exact i.nw c (aH8 hc)
    ·simp at hc;subst hc;exact i.nw c (aG3 ha)
  | fdc t kvs ob=>
   obtain⟨vs,u,e,E,l⟩:=r;refine F _ _ h (μ1.take f.length++[a]) _ s ⟨?_,i.fr,λc hc=>?_⟩ (y.TF p ⟨vs,u,e,E,IsL.pre (λn a h=>by rw[List.getElem?_append_left (List.getElem?_eq_some_iff.mp h).1];exact h) _ vs (IsL.cut _ vs b l)⟩) (by unfold Is;exact⟨a,by rw[<-m];simp,rfl⟩)
   ·obtain⟨t,ht⟩:=key g;exact⟨t++[a],by rw[ht];simp⟩
   ·rcases aFv.mp hc with hc | hc
    ·exact i.nw c (aH8 hc)
    ·simp at hc;subst hc;exact i.nw c (aG3 ha)
def aI(N:List Str)(ds:List D):eK:=ds.map some++List.replicate (N.length-ds.length) none
variable{N:List Str}{ds:List D}
theorem KY{vs:List V}(l:IsL K μ H ds vs):bZ K μ H (aI N ds) (L2.start N vs):=by
 have a:=aN l;refine⟨by simp[aI,L2.start,a],λi d h=>?_⟩;unfold aI at h;unfold L2.start;by_cases hi:i<ds.length
 ·rw[List.getElem?_append_left (by simpa using hi),List.getElem?_map]at h;obtain⟨d',b,c⟩:=aGn.mp h;cases c;obtain⟨v,e,f⟩:=eT l b;exact⟨v,by rw[List.getElem?_append_left (by simpa[a] using hi),List.getElem?_map,e];rfl,f⟩
 ·rw[List.getElem?_append_right (by simpa using hi)]at h;obtain⟨_,h⟩:=aFp.mp h;simp at h
section
variable {P:Program}{w:World}{K:aJj}{mg:aJm}{base:Heap}
theorem aCb{x qual:Str}{st:Stmt}{f:Addr}{fd:FuncData}{N ps:List Str}{k:Nat}{s:OA}{wB:WS}(F:ZW K x qual st f fd)(S:aV N ps (aC st))(len:∀ds mh R,s ds mh R->ds.length=ps.length)
  (hb:∀(cdv:Value) (A:Around) (outer:List Env) (s:Shared) (H:Hp) (E:XK),gC k (A.deeper (envOfC qual (aC st) s.heap.objs.size f cdv))->
   kX (vP D9 P w K mg base N qual (aC st) f cdv A outer s H E).Q9 (cJ st) wB)
  (g:∀ds mh R,kW mh->cG mh.length ds=true->s ds mh R->wB {nx:=λ_ a=>Out mh.length .cL a R,rt:=λd a=>Out mh.length d a R} (aI N ds) mh):jN P w K mg base D9 (k+1) f fd ps (OR K s):=by
 refine F.ok S (λvs H Q E h=>?_) (λcdv A outer i H vs Q E j h=>?_)
 ·obtain⟨μ,mh,ds,R,b,c,h,_⟩:=h;rw[aN c];exact len ds mh R h
 ·obtain⟨μ,mh,ds,R,b,c,h,l⟩:=h;refine⟨_,hb cdv A outer i H E j,μ,aI N ds,mh,_,b,KY c,g ds mh R b.mok (by rw[<-b.len];exact gZ ds vs c) h,?_⟩;have e:=Q0 b l;exact⟨λm mh' q μ' n H' o p r =>e .cL mh' q μ' .cL H' o p .cL,e,λ_ _ q=>False.elim q,λ_ _ q=>False.elim q⟩
end
def Fn(P:Program)(w:World)(K:aJj)(mg:aJm)(base:Heap)(k:Nat)(x:Str)(ps:List Str)(s:OA):Prop:=
 ∃f fd,jN P w K mg base D9 k f fd ps (OR K s)/\mg x=some (.ref f)/\PySem.W.keepIn K (.ref f)=true/\Binds K fd ps []
variable{P:Program}{w:World}{mg:aJm}{x:Str}{ps:List Str}
theorem Fn.mono{base:Heap}{j k:Nat}{s:OA}(h:Fn P w K mg base j x ps s)(e:j<=k):Fn P w K mg base k x ps s:=
 let ⟨f,fd,a,b,c,d⟩:=h;⟨f,fd,a.mono e,b,c,d⟩
theorem Fn.imp{base:Heap}{k:Nat}{s g :OA}(h:Fn P w K mg base k x ps s)(hi:∀ds mh R,g ds mh R->s ds mh R):Fn P w K mg base k x ps g :=
 let ⟨f,fd,a,b,c,d⟩:=h;⟨f,fd,a.imp λvs H Q E e=>by obtain⟨μ,mh,ds,R,i,j,l,m⟩:=e;exact⟨μ,mh,ds,R,i,j,hi ds mh R l,m⟩,b,c,d⟩
def kS(K:aJj)(mg:aJm)(x:Str)(d:D):Prop:=∃v u,mg x=some u/\RelV v u/\∀μ H,Is K μ H d v
section
variable {X:Cx}{e:Expr}{es:List Expr}{wr:WA}{pos p:Pos}{x:Str}
theorem MX{k:Nat}{s:OA}(F:Fn X.prog X.w X.K X.mg X.base k x ps s)(i:gC k X.A)(ha:LA X (e::es) wr)(hg:Gl X x:=by rfl)(g:(x==("__debug__":Str))=false:=by decide)
  (he:starEach (e::es) X.env=(false,eval e X.env)::starEach es X.env:=by rfl) (h:(backTo pos (starEach es X.env)).any (·.1)=false:=by rfl):LE X (.Call (.Name x p) (e::es) [] pos) (aF s wr):=by
 obtain⟨f,fd,a,b,c,d⟩:=F;exact RX a i hg b c d ha g he h
theorem aBq{d:D}(h:kS X.K X.mg x d)(hg:Gl X x:=by rfl)(hd:(x==("__debug__":Str))=false:=by decide):LE X (.Name x pos) (wC d):=by
 obtain⟨v,u,a,b,c⟩:=h;exact RU hg a b c hd
theorem CW{T:String}(a:X.mg x=none)(b:bootBuiltins x=some (.type T))(hg:Gl X x:=by rfl)(c:x≠ "__name__":=by decide)(hd:(x==("__debug__":Str))=false:=by decide):LE X (.Name x pos) (wC (.ty T)):=RS hg a b c hd
theorem aBt{id:String}{f:OA}(c:cX X (.builtin id) (fV X.K f))(d:X.mg x=none)(g:bootBuiltins x=some (.builtin id))(ha:LA X (e::es) wr)(hg:Gl X x:=by rfl)(h:x≠ "__name__":=by decide)(a:(x==("__debug__":Str))=false:=by decide)
  (he:starEach (e::es) X.env=(false,eval e X.env)::starEach es X.env:=by rfl) (b:(backTo pos (starEach es X.env)).any (·.1)=false:=by rfl):LE X (.Call (.Name x p) (e::es) [] pos) (aF f wr):=MY c hg d g ha h a he b
theorem aBr{T:String}{f:OA}(c:cX X (.type T) (fV X.K f))(d:X.mg x=none)(g:bootBuiltins x=some (.type T))(ha:LA X (e::es) wr)(hg:Gl X x:=by rfl)(h:x≠ "__name__":=by decide)(a:(x==("__debug__":Str))=false:=by decide)
  (he:starEach (e::es) X.env=(false,eval e X.env)::starEach es X.env:=by rfl) (b:(backTo pos (starEach es X.env)).any (·.1)=false:=by rfl):LE X (.Call (.Name x p) (e::es) [] pos) (aF f wr):=IU c hg d g ha h a he b
theorem PM(i:Nat)(hN:X.N.Nodup)(hi:X.N[i]? =some x:=by rfl)(a:Loc X.env.scope x:=by first | exact Or.inl rfl | exact Or.inr rfl)(b:X.fn x=true\/X.env.scope.names.lookup x=some .local:=by first | exact .inl rfl | exact .inr rfl):PG X (.Name x pos) (xX i):=QT hN hi a b
theorem aBe{a:CmpOp}(b:Expr)(h:a≠ .In:=by decide)(c:a≠ .NotIn:=by decide):behindInMarks a b=false:=MA b h c
end
structure Bl(mg:aJm):Prop where
 len:mg "len"=none
 range:mg "range"=none
 zip:mg "zip"=none
 all:mg "all"=none
 any:mg "any"=none
 abs:mg "abs"=none
 min:mg "min"=none
 max:mg "max"=none
 isinstance:mg "isinstance"=none
 sorted:mg "sorted"=none
 int:mg "int"=none
 str:mg "str"=none
 bool:mg "bool"=none
 list:mg "list"=none
 tuple:mg "tuple"=none
 set:mg "set"=none
 dict:mg "dict"=none
 sum:mg "sum"=none
 enumerate:mg "enumerate"=none
theorem Y7:bootBuiltins "int"=some (.type "int"):=by decide+kernel
theorem Y2:bootBuiltins "str"=some (.type "str"):=by decide+kernel
theorem S5:bootBuiltins "bool"=some (.type "bool"):=by decide+kernel
theorem S4:bootBuiltins "list"=some (.type "list"):=by decide+kernel
theorem vV:bootBuiltins "tuple"=some (.type "tuple"):=by decide+kernel
theorem Y3:bootBuiltins "set"=some (.type "set"):=by decide+kernel
theorem Y6:bootBuiltins "len"=some (.builtin "len"):=by decide+kernel
theorem Y8:bootBuiltins "abs"=some (.builtin "abs"):=by decide+kernel
theorem Y4:bootBuiltins "min"=some (.builtin "min"):=by decide+kernel
theorem Y5:bootBuiltins "max"=some (.builtin "max"):=by decide+kernel
theorem wN:bootBuiltins "isinstance"=some (.builtin "isinstance"):=by decide+kernel
theorem m7:bootBuiltins "sorted"=some (.builtin "sorted"):=by decide+kernel
def oLt:O2:=λx y mh Q=>match x with
 | .int i=>match y with | .int j=>Q (.bl (decide (i<j))) mh | _=>False
 | .str a=>match y with | .str b=>Q (.bl (decide (a.cps.toList<b.cps.toList))) mh | _=>False
 | _=>False
def oLe:O2:=λx y mh Q=>match x with
 | .int i=>match y with | .int j=>Q (.bl (decide (i<=j))) mh | _=>False
 | .str a=>match y with | .str b=>Q (.bl (!decide (b.cps.toList<a.cps.toList))) mh | _=>False
 | _=>False
def OV:O2:=λx y mh Q=>match x with
 | .int i=>match y with | .int j=>Q (.bl (decide (j<i))) mh | _=>False
 | _=>False
def oGe:O2:=λx y mh Q=>match x with
 | .int i=>match y with | .int j=>Q (.bl (decide (j<=i))) mh | _=>False
 | _=>False
section
variable {X:Cx}
theorem aB8(g:X.A.units+64<cLine):dO X (compareOp .Lt) (bB X.K oLt):=by
 intro pins s σ H x y v u Q I a b q;obtain⟨μ,mh,dx,c,R,d,e,f,q,F⟩:=q
 cases dx with
 | int i=>cases c with
  | int j=>cases bO e;cases bO f;exact aB3 pins s σ H _ _ v u Q I a b ⟨i,j,rfl,rfl,F.here d q .bl⟩
  | _=>exact False.elim q
 | str i=>cases c with
  | str j=>cases d6 e;cases d6 f;exact IJ pins s σ H _ _ v u Q I a b ⟨i,j,rfl,rfl,F.here d q .bl⟩
  | _=>exact False.elim q
 | _=>exact False.elim q
theorem aB9(g:X.A.units+64<cLine):dO X (compareOp .LtE) (bB X.K oLe):=by
 intro pins s σ H x y v u Q I a b q;obtain⟨μ,mh,dx,c,R,d,e,f,q,F⟩:=q
 cases dx with
 | int i=>cases c with
  | int j=>cases bO e;cases bO f;exact aB4 pins s σ H _ _ v u Q I a b ⟨i,j,rfl,rfl,F.here d q .bl⟩
  | _=>exact False.elim q
 | str i=>cases c with
  | str j=>
   cases d6 e;cases d6 f;obtain⟨t,rfl⟩:=a;obtain⟨t',rfl⟩:=b;exact PySem.P.le_str ⟨.bl (!decide (j.cps.toList<i.cps.toList)),H,I,by show _=_;first | rfl | (congr 1;simp),F.here d q .bl⟩
  | _=>exact False.elim q
 | _=>exact False.elim q
theorem aBb(g:X.A.units+64<cLine):dO X (compareOp .Gt) (bB X.K OV):=by
 intro pins s σ H x y v u Q I a b q;obtain⟨μ,mh,dx,c,R,d,e,f,q,F⟩:=q
 cases dx with
 | int i=>cases c with
  | int j=>cases bO e;cases bO f;exact aB5 pins s σ H _ _ v u Q I a b ⟨i,j,rfl,rfl,F.here d q .bl⟩
  | _=>exact False.elim q
 | _=>exact False.elim q
theorem aBc(g:X.A.units+64<cLine):dO X (compareOp .GtE) (bB X.K oGe):=by
 intro pins s σ H x y v u Q I a b q;obtain⟨μ,mh,dx,c,R,d,e,f,q,F⟩:=q
 cases dx with
 | int i=>cases c with
  | int j=>cases bO e;cases bO f;exact aB6 pins s σ H _ _ v u Q I a b ⟨i,j,rfl,rfl,F.here d q .bl⟩
  | _=>exact False.elim q
 | _=>exact False.elim q
end
variable{α:Type}
def got(o:Option α)(k:α->Prop):Prop:=match o with | some a=>k a | none=>False
@[simp] theorem bT (a:α)(k:α->Prop):got (some a) k=k a:=rfl
@[simp] theorem aC6 (k:α->Prop):got none k=False:=rfl
theorem fP(o:Option α)(k:α->Prop):(∃a,o=some a/\k a)↔got o k:=by
 cases o <;> simp[got]
def TC:D->Option Bool | .bl b=>some b | _=>none
def asI:D->Option Int | .int i=>some i | _=>none
@[simp] theorem aFe (b:Bool):TC (.bl b)=some b:=rfl
@[simp] theorem aD9 (i:Int):asI (.int i)=some i:=rfl
theorem exB(x:D)(P:Bool->Prop):(∃k,x= .bl k/\P k)=got (TC x) P:=by
 apply propext
 cases x with
 | bl b=>exact⟨λa=>by obtain⟨k,e,h⟩:=a;cases e;exact h,λh=>⟨b,rfl,h⟩⟩
 | _=>exact⟨λc=>by obtain⟨k,e,h⟩:=c;exact(by cases e),λh=>False.elim h⟩
theorem exI(x:D)(P:Int->Prop):(∃k,x= .int k/\P k)=got (asI x) P:=by
 apply propext
 cases x with
 | int b=>exact⟨λa=>by obtain⟨k,e,h⟩:=a;cases e;exact h,λh=>⟨b,rfl,h⟩⟩
 | _=>exact⟨λc=>by obtain⟨k,e,h⟩:=c;exact(by cases e),λh=>False.elim h⟩
section
variable {mh:MH}{Q:DK}{ρ:eK}
@[simp] theorem aAg (i:Nat):aB i ρ mh Q↔got ((ρ[i]?).join) λd=>Q d mh:=by
 unfold aB
 cases h:ρ[i]? with
 | none=>simp
 | some o=>cases o <;> simp
@[simp] theorem s_c (d:D):wC d ρ mh Q=(Q d mh):=rfl
@[simp] theorem aE1 (f:O2)(a b:WE):aX f a b ρ mh Q=(a ρ mh λx c=>b ρ c λy d=>f x y d Q):=rfl
@[simp] theorem s_un (f:O1)(a:WE):EA f a ρ mh Q=(a ρ mh λx b=>f x b Q):=rfl
@[simp] theorem aCs (f g:O2)(a b c:WE):qM f g a b c ρ mh Q↔a ρ mh λx e=>b ρ e λy h=>f x y h λz d=>got (TC z) λk=>if k=true then c ρ d λu i=>g y u i Q else Q (.bl false) d:=by unfold qM;simp only[exB]
@[simp] theorem s_nil (R:List D->MH->Prop):aD ρ mh R=(R [] mh):=rfl
@[simp] theorem aEe (a:WE)(r:WA)(R:List D->MH->Prop):aA a r ρ mh R=(a ρ mh λx b=>r ρ b λxs c=>R (x::xs) c):=rfl
@[simp] theorem s_call (f:OA)(a:WA):aF f a ρ mh Q=(a ρ mh λds b=>f ds b Q):=rfl
@[simp] theorem s_tup (a:WA):f7 a ρ mh Q=(a ρ mh λds b=>ds.length<=sizeLine/\Q (.tup ds) b):=rfl
@[simp] theorem s_lst (a:WA):e7 a ρ mh Q=(a ρ mh λds b=>ds.length<=sizeLine/\Q (.ref b.length) (b++[.lst ds])):=rfl
@[simp] theorem aEf (a b:WE):tR a b ρ mh Q↔a ρ mh λx d=>got (TC x) λc=>if c=true then b ρ d Q else Q (.bl false) d:=by unfold tR;simp only[exB]
@[simp] theorem aE2 (a:WE):GF a ρ mh Q↔a ρ mh λx b=>got (TC x) λc=>Q (.bl !c) b:=by unfold GF;simp only[exB]
@[simp] theorem s_if (t:WT)(a b:WE):wIf t a b ρ mh Q=(t ρ mh λc d=>if c=true then a ρ d Q else b ρ d Q):=rfl
@[simp] theorem s_sl (f:OS)(a:WE)(l h:WO):TZ f a l h ρ mh Q=(a ρ mh λx b=>l ρ b λlo c=>h ρ c λhi d=>f x lo hi d Q):=rfl
@[simp] theorem s_no (R:Option Int->MH->Prop):OP ρ mh R=(R none mh):=rfl
@[simp] theorem aE0 (a:WE)(R:Option Int->MH->Prop):lJ a ρ mh R↔a ρ mh λx b=>got (asI x) λi=>R (some i) b:=by unfold lJ;simp only[exI]
@[simp] theorem s_mt (T:String)(f:OM)(a:WE)(r:WA):GG T f a r ρ mh Q=(a ρ mh λx b=>zV b T x/\r ρ b λds c=>f x ds c Q):=rfl
@[simp] theorem s_lc (own:List Str)(aH:List Nat)(i:WI)(g:WG)(t:WT)(a:WE):EB own aH i g t a ρ mh Q=(i ρ mh λds St b=>jJ g t a (fW own aH ρ) St Q ds [] b):=rfl
variable {R:Bool->MH->Prop}
@[simp] theorem s_tst (a:WE):cY a ρ mh R↔a ρ mh λx b=>got (TC x) λk=>R k b:=by unfold cY;simp only[exB]
@[simp] theorem s_tru (a:WE):tP a ρ mh R↔a ρ mh λx b=>got (jA b x) λk=>R k b:=by
 unfold tP
 have:(λx b=>∃k,jA b x=some k/\R k b)=λx b=>got (jA b x) λk=>R k b:=by
  funext x m;exact propext (fP _ _)
 rw[this]
@[simp] theorem aEg (t u:WT):pB t u ρ mh R=(t ρ mh λc a=>if c=true then u ρ a R else R false a):=rfl
@[simp] theorem s_orT (t u:WT):PC t u ρ mh R=(t ρ mh λc a=>if c=true then R true a else u ρ a R):=rfl
@[simp] theorem aE3 (t:WT):wZ t ρ mh R=(t ρ mh λc a=>R (!c) a):=rfl
@[simp] theorem K6:kU ρ mh R=(R true mh):=rfl
variable {E:fY}
@[simp] theorem aE4:dQ E ρ mh=(E.nx ρ mh):=rfl
@[simp] theorem aAi (t u:WS):aS t u E ρ mh=(t {E with nx:=u E} ρ mh):=rfl
@[simp] theorem s_cnt:UR E ρ mh=(E.ct ρ mh):=rfl
@[simp] theorem aEc (a:WE):iN a E ρ mh=(a ρ mh λ_ b=>E.nx ρ b):=rfl
@[simp] theorem s_ret (a:WE):dE a E ρ mh=(a ρ mh E.rt):=rfl
@[simp] theorem s_ifS (t:WT)(a b:WS):gI t a b E ρ mh=(t ρ mh λc d=>if c=true then a E ρ d else b E ρ d):=rfl
@[simp] theorem T4 (a:WE)(g:WG):bX a g E ρ mh=(a ρ mh λd b=>g d ρ λc =>E.nx c b):=rfl
@[simp] theorem aDw (a o i:WE):tQ a o i E ρ mh=(a ρ mh λd b=>o ρ b λob c=>i ρ c λg e=>PY ob g d e λf=>E.nx ρ f):=rfl
@[simp] theorem s_for (i:WI)(g:WG)(b:WS):lK i g b E ρ mh=(i ρ mh λds St a=>lW g b E St ds ρ a):=rfl
@[simp] theorem aEb (i:Nat)(d:D)(P:eK->Prop):gN i d ρ P=(P (ρ.set i (some d))):=rfl
@[simp] theorem aCr (P:eK->Prop):iQ [] ρ P↔P ρ:=by simp[iQ]
@[simp] theorem aAl (t:WG)(u:TJ)(d:D)(r:List D)(P:eK->Prop):bH t u (d::r) ρ P↔t d ρ λc =>u r c P:=⟨λf=>by obtain⟨a,b,e,h⟩:=f;cases e;exact h,λh=>⟨d,r,rfl,h⟩⟩
@[simp] theorem s_gT (n:Nat)(u:TJ)(ds:List D)(P:eK->Prop):gT n u (.tup ds) ρ P↔ds.length=n/\u ds ρ P:=by
 unfold gT;exact⟨λa=>by obtain⟨b,e,h⟩:=a;cases e;exact h,λh=>⟨ds,rfl,h⟩⟩
@[simp] theorem aDx (a:WE)(P:List D->(MH->Prop)->MH->Prop):dP a ρ mh P↔a ρ mh λx b=>got (bC b x) λds=>P ds (λmh' =>bC mh' x=some ds) b:=by
 unfold dP
 have:(λx b=>∃ds,bC b x=some ds/\P ds (λmh' =>bC mh' x=some ds) b)=λx b=>got (bC b x) λds=>P ds (λmh' =>bC mh' x=some ds) b:=by
  funext x m;exact propext (fP _ _)
 rw[this]
@[simp] theorem aDy (a:WA)(P:List D->(MH->Prop)->MH->Prop):nT a ρ mh P=(a ρ mh λds b=>∃j,ds=[.int j]/\ -(2^62)<=j/\j<=sizeLine/\P (uN 0 j.toNat) (λ_=>True) b):=rfl
@[simp] theorem aDv (a:WA)(P:List D->(MH->Prop)->MH->Prop):tO a ρ mh P↔a ρ mh λxs b=>match xs with
  | [x,y]=>got (bC b x) λds=>got (bC b y) λc=>ds.length<=sizeLine/\P (kT ds c) (λmh' =>bC mh' x=some ds/\bC mh' y=some c) b
  | _=>False:=by
 unfold tO
 have:(λxs b=>∃x y ds c,xs=[x,y]/\bC b x=some ds/\bC b y=some c/\ds.length<=sizeLine/\P (kT ds c) (λmh' =>bC mh' x=some ds/\bC mh' y=some c) b)=λxs b=>match xs with
  | [x,y]=>got (bC b x) λds=>got (bC b y) λc=>ds.length<=sizeLine/\P (kT ds c) (λmh' =>bC mh' x=some ds/\bC mh' y=some c) b
  | _=>False:=by
  funext xs m;apply propext
  match xs with
  | []=>simp
  | [_]=>simp
  | [x,y]=>
   simp only[<-fP];constructor
   ·rintro⟨g,i,ds,c,e,d,f,h⟩;cases e;exact⟨ds,d,c,f,h⟩
   ·rintro⟨ds,d,c,f,h⟩;exact⟨x,y,ds,c,rfl,d,f,h⟩
  | _::_::_::_=>simp
 rw[this]
@[simp high] theorem aD5 (b:Int)(P:Int->Prop):(∃c,[D.int b]=[D.int c]/\P c)↔P b:=⟨λa=>by obtain⟨c,e,h⟩:=a;cases e;exact h,λh=>⟨b,rfl,h⟩⟩
@[simp high] theorem aD4 (a b:Int)(P:Int->Int->Prop):(∃c d,[D.int a,D.int b]=[D.int c,D.int d]/\P c d)↔P a b:=⟨λf=>by obtain⟨c,d,e,h⟩:=f;cases e;exact h,λh=>⟨a,b,rfl,h⟩⟩
@[simp] theorem K7 (C:Int->Int->Prop)(g:Int->Int->D)(i j:Int):CH C g (.int i) (.int j) mh Q↔C i j/\Q (g i j) mh:=by
 unfold CH;exact⟨λc=>by obtain⟨a,b,e,f,h⟩:=c;cases e;cases f;exact h,λh=>⟨i,j,rfl,rfl,h⟩⟩
@[simp] theorem s_neg (i:Int):m9 (.int i) mh Q↔Q (.int (-i)) mh:=by
 unfold m9;exact⟨λb=>by obtain⟨a,e,h⟩:=b;cases e;exact h,λh=>⟨i,rfl,h⟩⟩
@[simp] theorem K9 (i j:Int):f9 (.int i) (.int j) mh Q=(Q (.int (i+j)) mh):=rfl
@[simp] theorem aEi (i j:Str):f9 (.str i) (.str j) mh Q=(i.length+j.length<=sizeLine/\Q (.str (i++j)) mh):=rfl
@[simp] theorem aEh (i j:List D):f9 (.tup i) (.tup j) mh Q=(i.length+j.length<=sizeLine/\Q (.tup (i++j)) mh):=rfl
theorem zC{n m:Nat}{i j:List D}(d:mh[n]? =some (.lst i))(g:mh[m]? =some (.lst j)):f9 (.ref n) (.ref m) mh Q↔(i++j).length<=sizeLine/\Q (.ref mh.length) (mh++[.lst (i++j)]):=by
 show (∃i j,mh[n]? =some (.lst i)/\mh[m]? =some (.lst j)/\E4 (i++j) mh Q)↔_;rw[d,g];exact⟨λc=>by obtain⟨a,b,e,f,h⟩:=c;cases e;cases f;exact h,λh=>⟨i,j,rfl,rfl,h⟩⟩
@[simp] theorem K8 (ds:List D)(i:Int):eJ (.tup ds) (.int i) mh Q↔got (n6 ds i) λd=>Q d mh:=by
 unfold eJ;rw[<-fP];exact⟨λb=>by obtain⟨a,e,j,d,f,g,h⟩:=b;cases e;cases f;exact⟨d,g,h⟩,λc=>by obtain⟨d,f,h⟩:=c;exact⟨i,rfl,ds,d,rfl,f,h⟩⟩
@[simp] theorem aAj (ds:List D)(i:Int):eJ (.fl ds) (.int i) mh Q↔got (n6 ds i) λd=>Q d mh:=by
 unfold eJ;rw[<-fP];exact⟨λb=>by obtain⟨a,e,j,d,f,g,h⟩:=b;cases e;cases f;exact⟨d,g,h⟩,λc=>by obtain⟨d,f,h⟩:=c;exact⟨i,rfl,ds,d,rfl,f,h⟩⟩
variable{n:Nat}
theorem eX(h:mh[n]? =some (.lst ds))(i:Int):eJ (.ref n) (.int i) mh Q↔got (n6 ds i) λd=>Q d mh:=by
 unfold eJ;rw[<-fP];have e:bC mh (.ref n)=some ds:=by simp[bC,h]
 exact⟨λb=>by obtain⟨a,j,l,d,f,k,g⟩:=b;cases j;rw[e]at f;cases f;exact⟨d,k,g⟩,λc=>by obtain⟨d,f,g⟩:=c;exact⟨i,rfl,ds,d,e,f,g⟩⟩
@[simp] theorem s_ltI (i j:Int):oLt (.int i) (.int j) mh Q=(Q (.bl (decide (i<j))) mh):=rfl
@[simp] theorem s_leI (i j:Int):oLe (.int i) (.int j) mh Q=(Q (.bl (decide (i<=j))) mh):=rfl
@[simp] theorem aAk (i j:Int):OV (.int i) (.int j) mh Q=(Q (.bl (decide (j<i))) mh):=rfl
@[simp] theorem s_geI (i j:Int):oGe (.int i) (.int j) mh Q=(Q (.bl (decide (j<=i))) mh):=rfl
@[simp] theorem s_eqI (i j:Int):oEq (.int i) (.int j) mh Q↔Q (.bl (i==j)) mh:=by simp[oEq,dM,bare,deep,jZ]
@[simp] theorem s_neI (i j:Int):OU (.int i) (.int j) mh Q↔Q (.bl (!(i==j))) mh:=by simp[OU,dM,bare,deep,jZ]
@[simp] theorem s_eqB (i j:Bool):oEq (.bl i) (.bl j) mh Q↔Q (.bl (i==j)) mh:=by simp[oEq,dM,bare,deep,jZ]
@[simp] theorem s_neB (i j:Bool):OU (.bl i) (.bl j) mh Q↔Q (.bl (!(i==j))) mh:=by simp[OU,dM,bare,deep,jZ]
@[simp] theorem s_eqS (i j:Str):oEq (.str i) (.str j) mh Q↔Q (.bl (i==j)) mh:=by simp[oEq,dM,bare,deep,jZ]
@[simp] theorem s_eqT (i j:List D):oEq (.tup i) (.tup j) mh Q↔eD i=true/\eD j=true/\cK i+1<=40/\Q (.bl (eG i j)) mh:=by simp[oEq,dM,bare,deep,jZ]
@[simp] theorem aEa (x:D)(T:String):qF [x,.ty T] mh Q↔got (PL mh x) λt=>T∈bI/\Q (.bl (sA t T)) mh:=by
 unfold qF;rw[<-fP];constructor
 ·rintro⟨f,c,t,e,a,⟨g,b,d,h⟩ | ⟨i,b,_⟩⟩
  ·cases e;cases b;exact⟨t,a,d,h⟩
  ·cases e;cases b
 ·rintro⟨t,a,d,h⟩;exact⟨x,_,t,rfl,a,.inl ⟨T,rfl,d,h⟩⟩
@[simp] theorem aE9 (x:D)(T U:String):qF [x,.tup [.ty T,.ty U]] mh Q↔got (PL mh x) λt=>T∈bI/\U∈bI/\Q (.bl (sA t T || sA t U)) mh:=by
 unfold qF;rw[<-fP];constructor
 ·rintro⟨k,c,t,e,d,⟨g,f,a,h⟩ | ⟨i,f,a,h⟩⟩
  ·cases e;cases f
  ·cases e;injection f with b
   match i,b with
   | [g,l],b=>
    simp at b;obtain⟨rfl,rfl⟩:=b;exact⟨t,d,a _ (by simp),a _ (by simp),by simpa using h⟩
 ·rintro⟨t,d,a,j,h⟩;exact⟨x,_,t,rfl,d,.inr ⟨[T,U],rfl,by simp[a,j],by simpa using h⟩⟩
@[simp] theorem VE (ds:List D):fG [.tup ds] mh Q↔Q (.int ds.length) mh:=by
 unfold fG;exact⟨λb=>by obtain⟨a,e,h⟩:=b;cases e;obtain⟨d,c,h⟩:=h;cases c;exact h,λh=>⟨_,rfl,ds,rfl,h⟩⟩
@[simp] theorem aE8 (ds:List D):fG [.fl ds] mh Q↔Q (.int ds.length) mh:=by
 unfold fG;exact⟨λb=>by obtain⟨a,e,h⟩:=b;cases e;obtain⟨d,c,h⟩:=h;cases c;exact h,λh=>⟨_,rfl,ds,rfl,h⟩⟩
theorem jU(h:mh[n]? =some (.lst ds)):fG [.ref n] mh Q↔Q (.int ds.length) mh:=by
 unfold fG;have e:bC mh (.ref n)=some ds:=by simp[bC,h]
 exact⟨λb=>by obtain⟨a,f,c⟩:=b;cases f;obtain⟨g,d,c⟩:=c;rw[e]at d;cases d;exact c,λc=>⟨_,rfl,ds,e,c⟩⟩
@[simp] theorem aE7 (z:Str):fG [.str z] mh Q↔z.length<=sizeLine/\Q (.int z.length) mh:=by
 unfold fG;exact⟨λb=>by obtain⟨a,e,h⟩:=b;cases e;exact h,λh=>⟨_,rfl,h⟩⟩
@[simp] theorem s_abs (i:Int):TH [.int i] mh Q↔Q (.int (if i<0 then -i else i)) mh:=by
 unfold TH;exact⟨λb=>by obtain⟨a,e,h⟩:=b;cases e;exact h,λh=>⟨i,rfl,h⟩⟩
@[simp] theorem aE6 (i j:Int):D7 [.int i,.int j] mh Q↔Q (.int (if j > i then j else i)) mh:=by
 unfold D7;exact⟨λc=>by obtain⟨a,b,e,h⟩:=c;cases e;exact h,λh=>⟨i,j,rfl,h⟩⟩
@[simp] theorem aE5 (i j:Int):yP [.int i,.int j] mh Q↔Q (.int (if j<i then j else i)) mh:=by
 unfold yP;exact⟨λc=>by obtain⟨a,b,e,h⟩:=c;cases e;exact h,λh=>⟨i,j,rfl,h⟩⟩
@[simp] theorem aAh (x:D):rF [x] mh Q↔got (bC mh x) λds=>Q (.tup ds) mh:=by
 unfold rF;rw[<-fP];exact⟨λb=>by obtain⟨a,ds,e,d,h⟩:=b;cases e;exact⟨ds,d,h⟩,λc=>by obtain⟨ds,d,h⟩:=c;exact⟨x,ds,rfl,d,h⟩⟩
@[simp] theorem s_slT (ds:List D)(lo hi:Option Int):Q8 (.tup ds) lo hi mh Q=(Q (.tup (cutD ds lo hi)) mh):=rfl
theorem GR(h:mh[n]? =some (.lst ds))(lo hi:Option Int):Q8 (.ref n) lo hi mh Q↔Q (.ref mh.length) (mh++[.lst (cutD ds lo hi)]):=by
 show (∃ds,nA mh (.ref n)=some ds/\Q (.ref mh.length) (mh++[.lst (cutD ds lo hi)]))↔_;have e:nA mh (.ref n)=some ds:=by simp[nA,h]
 exact⟨λa=>by obtain⟨d,c,b⟩:=a;rw[e]at c;cases c;exact b,λb=>⟨ds,e,b⟩⟩
theorem uI{P:MH->Prop}(h:mh[n]? =some (.lst ds))(i:Int)(d:D):PY (.ref n) (.int i) d mh P↔got (FG ds.length i) λj=>P (mh.set n (.lst (ds.set j d))):=by
 unfold PY;rw[<-fP];exact⟨λa=>by obtain⟨m,o,k,j,f,g,c,l,e⟩:=a;cases f;cases g;rw[h]at c;cases c;exact⟨j,l,e⟩,λb=>by obtain⟨j,c,e⟩:=b;exact⟨n,ds,i,j,rfl,rfl,h,c,e⟩⟩
theorem dJ{b:List D}(h:mh[n]? =some (.lst b))(d:D):cI (.ref n) [d] mh Q↔b.length<sizeLine/\Q .cL (mh.set n (.lst (b++[d]))):=by
 unfold cI;exact⟨λa=>by obtain⟨m,fs,d',f,g,e,c⟩:=a;cases f;cases g;rw[h]at e;cases e;exact c,λc=>⟨n,b,d,rfl,rfl,h,c⟩⟩
@[simp] theorem aFc (d:D)(ds:List D):n6 (d::ds) 0=some d:=by
 have:=iT (xs:=d::ds) (j:=0) (v:=d) rfl;simpa using this
theorem fB(mh:MH)(o:MO):(mh++[o])[mh.length]? =some o:=by simp
end
variable{n:Nat}{d:D}
theorem cC(h:R d mh):Out n d mh R:= .inl h
theorem pV{mh a:MH}(ok:kW mh)(b:cV mh.length d=true)(h:R d mh):Out mh.length d (mh++a) R:= .inr (.inl ⟨mh,a,rfl,aFw _,ok,b,h⟩)
def lx:List Int->List Int->Bool
 | [],[]=>false
 | [],_::_=>true
 | _::_,[]=>false
 | a::as,b::bs=>if a<b then true else if b<a then false else lx as bs
theorem G2:∀x y:List Int,lx x y=true->lx y x=false
 | [],[],h=>by simp[lx]at h
 | [],_::_,h=>by simp[lx]
 | _::_,[],h=>by simp[lx]at h
 | a::as,b::bs,h=>by
  simp only[lx]at h⊢;by_cases c:a<b
  ·rw[if_neg (by lia),if_pos c]
  ·rw[if_neg c]at h;by_cases d:b<a
   ·rw[if_pos d]at h;cases h
   ·rw[if_neg d]at h⊢;rw[if_neg c];exact G2 as bs h
theorem T7:∀x y z:List Int,lx y x=false->lx z y=false->lx z x=false
 | [],y,z,h1,h2=>by
  cases z with
  | nil=>rfl
  | cons _ _=>rfl
 | a::as,[],z,h1,h2=>by simp[lx]at h1
 | a::as,b::bs,[],h1,h2=>by simp[lx]at h2
 | a::as,b::bs,c::cs,h1,h2=>by
  simp only[lx]at h1 h2⊢;by_cases d:b<a
  ·rw[if_pos d]at h1;cases h1
  ·rw[if_neg d]at h1;by_cases e:c<b
   ·rw[if_pos e]at h2;cases h2
   ·rw[if_neg e]at h2;rw[if_neg (by lia)];by_cases f:a<c
    ·rw[if_pos f]
    ·rw[if_neg f];rw[if_neg (by lia)]at h1 h2;exact T7 as bs cs h1 h2
def j5:D->List Int
 | .int i=>[i]
 | .str z=>z.cps.toList.map (λ(c:Nat)=>(c:Int))++[-1]
 | _=>[]
def enc:D->List Int
 | .tup ds=>ds.flatMap j5
 | d=>j5 d
theorem E8:∀a b:List Nat,lx (a.map (λ(c:Nat)=>(c:Int))++[-1]) (b.map (λ(c:Nat)=>(c:Int))++[-1])=decide (a<b)
 | [],[]=>by simp[lx]
 | [],b::bs=>by
  have:(-1:Int)<(b:Int):=by lia
  simp[lx,this]
 | a::as,[]=>by
  have d:¬((a:Int) < -1):=by lia
  have f:(-1:Int)<(a:Int):=by lia
  simp[lx,d,f]
 | a::as,b::bs=>by
  have g:=E8 as bs;simp only[List.map_cons,List.cons_append,lx,g];by_cases d:a<b
  ·rw[if_pos (by lia)];exact(decide_eq_true (List.cons_lt_cons_iff.mpr (.inl d))).symm
  ·rw[if_neg (by lia)];by_cases f:b<a
   ·rw[if_pos (by lia)];exact(aHp (λq=>by rcases List.cons_lt_cons_iff.mp q with q | q <;> lia)).symm
   ·rw[if_neg (by lia)];have e:a=b:=by lia
    subst e;rw[Bool.eq_iff_iff,decide_eq_true_iff,decide_eq_true_iff,List.cons_lt_cons_iff];simp
inductive Sc where | i | s
def gB:Sc->D->Bool
 | .i,.int _=>true
 | .s,.str _=>true
 | _,_=>false
def eA:List Sc->List D->Bool
 | [],[]=>true
 | c::cs,d::ds=>gB c d && eA cs ds
 | _,_=>false
theorem RB(x:List Int):∀r b :List Int,lx (x++r) (x++b)=lx r b :=by
 induction x with
 | nil=>intro r b;rfl
 | cons a as ih=>intro r b;simp[lx,ih]
theorem PR{a b:Str}(h:a.cps.toList=b.cps.toList):a=b:=by
 cases a;cases b;simp at h;simp[h]
theorem rP:∀(a b:List Nat) (r d :List Int),a≠b->lx ((a.map (λ(c:Nat)=>(c:Int))++[-1])++r) ((b.map (λ(c:Nat)=>(c:Int))++[-1])++d)=lx (a.map (λ(c:Nat)=>(c:Int))++[-1]) (b.map (λ(c:Nat)=>(c:Int))++[-1])
 | [],[],_,_,h=>absurd rfl h
 | [],b::bs,r,d,_=>by
  have:(-1:Int)<(b:Int):=by lia
  simp[lx,this]
 | a::as,[],r,d,_=>by
  have f:¬((a:Int) < -1):=by lia
  have g:(-1:Int)<(a:Int):=by lia
  simp[lx,f,g]
 | a::as,b::bs,r,d,h=>by
  simp only[List.map_cons,List.cons_append,lx];by_cases f:(a:Int)<b
  ·simp[f]
  ·by_cases g:(b:Int)<a
   ·simp[f,g]
   ·have e:a=b:=by lia
    subst e;simp only[f,g,if_false];exact rP as bs r d λq=>h (by rw[q])
theorem RD{c:Sc}{d e:D}(f:gB c d=true)(k:gB c e=true)(h:d≠e)(r g :List Int):lx (j5 d++r) (j5 e++g)=lx (j5 d) (j5 e):=by
 cases c <;> cases d <;> simp[gB]at f <;> cases e <;> simp[gB]at k
 ·rename_i i j;have:i≠j:=λq=>h (by rw[q]);simp only[j5,List.cons_append,List.nil_append,lx];by_cases f:i<j
  ·simp[f]
  ·have:j<i:=by lia
   simp[f,this]
 ·rename_i a b;simp only[j5];exact rP _ _ r g λq=>h (by rw[PR q])
theorem N1{c:Sc}{d e:D}(a:gB c d=true)(b:gB c e=true):jZ d e=true↔d=e:=by
 cases c <;> cases d <;> simp[gB]at a <;> cases e <;> simp[gB]at b
 ·simp[jZ]
 ·simp[jZ]
mutual
theorem KO{h:Heap}:∀{d e:D} {u:Value},Vl h d u->Vl h e u->d=e
 | .cL,e,u,p,q=>by
  unfold Vl at p;subst p
  cases e <;> unfold Vl at q <;> first | rfl | (cases q;done) | (obtain⟨_,q⟩:=q;cases q;done) | (obtain⟨_,_,q,_⟩:=q;cases q;done)
 | .bl a,e,u,p,q=>by
  unfold Vl at p;subst p
  cases e <;> unfold Vl at q <;> first | (cases q;rfl) | (cases q;done) | (obtain⟨_,q⟩:=q;cases q;done) | (obtain⟨_,_,q,_⟩:=q;cases q;done)
 | .int a,e,u,p,q=>by
  unfold Vl at p;obtain⟨t,rfl⟩:=p
  cases e <;> unfold Vl at q <;> first | (cases q;done) | (obtain⟨_,q⟩:=q;cases q;rfl) | (obtain⟨_,q⟩:=q;cases q;done) | (obtain⟨_,_,q,_⟩:=q;cases q;done)
 | .str a,e,u,p,q=>by
  unfold Vl at p;obtain⟨t,rfl⟩:=p
  cases e <;> unfold Vl at q <;> first | (cases q;done) | (obtain⟨_,q⟩:=q;cases q;rfl) | (obtain⟨_,q⟩:=q;cases q;done) | (obtain⟨_,_,q,_⟩:=q;cases q;done)
 | .ty _,e,u,p,q=>by unfold Vl at p;exact p.elim
 | .ref _,e,u,p,q=>by unfold Vl at p;exact p.elim
 | .tup as,e,u,p,q=>by
  unfold Vl at p;obtain⟨a,us,rfl,ht,l⟩:=p
  cases e with
  | tup bs=>
   unfold Vl at q;obtain⟨b,f,e,c,g⟩:=q;cases e;obtain⟨o,k,_,n,m⟩:=ht;obtain⟨v,i,_,w,j⟩:=c;rw[k]at i;cases i;rw[m]at j;injection j with r;have s:us=f:=by simpa using aGs Array.toList r
   subst s;rw[yY l g]
  | fl bs=>
   unfold Vl at q;obtain⟨b,f,e,c,g⟩:=q;cases e;exact(sT c ht).elim
  | _=>unfold Vl at q;first | (cases q;done) | (obtain⟨_,q⟩:=q;cases q;done)
 | .fl as,e,u,p,q=>by
  unfold Vl at p;obtain⟨a,us,rfl,ht,l⟩:=p
  cases e with
  | fl bs=>
   unfold Vl at q;obtain⟨b,f,e,c,g⟩:=q;cases e;obtain⟨o,k,_,n,m⟩:=ht;obtain⟨v,i,_,w,j⟩:=c;rw[k]at i;cases i;rw[m]at j;injection j with r;have s:us=f:=by simpa using aGs Array.toList r
   subst s;rw[yY l g]
  | tup bs=>
   unfold Vl at q;obtain⟨b,f,e,c,g⟩:=q;cases e;exact(sT ht c).elim
  | _=>unfold Vl at q;first | (cases q;done) | (obtain⟨_,q⟩:=q;cases q;done)
theorem yY{h:Heap}:∀{ds a:List D} {us:List Value},cZ h ds us->cZ h a us->ds=a
 | [],a,us,p,q=>by unfold cZ at p;subst p;cases a with | nil=>rfl | cons=>unfold cZ at q;obtain⟨_,_,e,_⟩:=q;cases e
 | d::ds,a,us,p,q=>by
  unfold cZ at p;obtain⟨u,r,rfl,i,l⟩:=p
  cases a with
  | nil=>unfold cZ at q;cases q
  | cons e a=>
   unfold cZ at q;obtain⟨g,j,b,c,f⟩:=q;cases b;rw[KO i c,yY l f]
end
mutual
theorem Vl.keep{h h' :Heap}(k:∀b o,h.get? b=some o->h'.get? b=some o):∀(d:D) (u:Value),Vl h d u->Vl h' d u
 | .cL,u,q=>by unfold Vl at*;exact q
 | .bl _,u,q=>by unfold Vl at*;exact q
 | .int _,u,q=>by unfold Vl at*;exact q
 | .str _,u,q=>by unfold Vl at*;exact q
 | .ty _,u,q=>by unfold Vl at*;exact q
 | .ref _,u,q=>by unfold Vl at*;exact q
 | .tup ds,u,q=>by
  unfold Vl at*;obtain⟨a,us,e,⟨o,c,f⟩,l⟩:=q;exact⟨a,us,e,⟨o,k _ _ c,f⟩,cZ.keep k ds us l⟩
 | .fl ds,u,q=>by
  unfold Vl at*;obtain⟨a,us,e,⟨o,c,f⟩,l⟩:=q;exact⟨a,us,e,⟨o,k _ _ c,f⟩,cZ.keep k ds us l⟩
theorem cZ.keep{h h' :Heap}(k:∀b o,h.get? b=some o->h'.get? b=some o):∀(ds:List D) (us:List Value),cZ h ds us->cZ h' ds us
 | [],us,q=>by unfold cZ at*;exact q
 | d::ds,us,q=>by
  unfold cZ at*;obtain⟨u,r,e,i,l⟩:=q;exact⟨u,r,e,Vl.keep k d u i,cZ.keep k ds r l⟩
end
def F0(ds:List D):Prop:=(∃c,∀d∈ds,gB c d=true)\/∃c b,∀d∈ds,∃a,d= .tup a/\eA (c::b) a=true
open Classical in
noncomputable def dv(h:Heap)(u:Value):D:=if q:∃d,Vl h d u then q.choose else .cL
theorem n5{u:Value}(p:Vl h d u):dv h u=d:=by
 unfold dv;rw[dif_pos ⟨d,p⟩];exact KO (Exists.choose_spec (⟨d,p⟩:∃d,Vl h d u)) p
noncomputable def ltV(h:Heap)(x y:Keyed):Bool:=lx (enc (dv h x.1)) (enc (dv h y.1))
theorem E9(h:Heap):TS.Wk (ltV h):=⟨λx y=>G2 _ _,λx y z=>T7 _ _ _⟩
theorem mO{h:Heap}:∀{ds:List D} {us:List Value},cZ h ds us->∀u∈us,∃d∈ds,Vl h d u
 | [],us,q,u,hu=>by unfold cZ at q;subst q;cases hu
 | d::ds,us,q,u,hu=>by
  unfold cZ at q;obtain⟨w,r,rfl,i,l⟩:=q;rcases aFx.mp hu with rfl | hu
  ·exact⟨d,aFs,i⟩
  ·obtain⟨e,he,p⟩:=mO l u hu;exact⟨e,aFt _ he,p⟩
open PySem.W in
theorem xR{prog:Program}{w:World}{A:Around}{Q:Bool->Shared->Prop}{s:Shared}(p:A.units+32<cLine):∀(m:List Sc) (as bs:List D) (us vs:List Value) (i:Nat) (b:Bool),(b=true->i=0->True)->eA m as=true->eA m bs=true->cZ s.heap as us->cZ s.heap bs vs->
  Q (lx (as.flatMap j5) (bs.flatMap j5)) s->KatLex prog w A b false Q (us.zip vs) i s
 | [],[],[],us,vs,i,b,_,_,_,f,g,q=>by unfold cZ at f g;subst f g;exact kat_nil q
 | [],[],_::_,_,_,_,_,_,_,h2,_,_,_=>by simp[eA]at h2
 | [],_::_,_,_,_,_,_,_,h1,_,_,_,_=>by simp[eA]at h1
 | _::_,[],_,_,_,_,_,_,h1,_,_,_,_=>by simp[eA]at h1
 | _::_,_::_,[],_,_,_,_,_,_,h2,_,_,_=>by simp[eA]at h2
 | c::m,a::as,d::bs,us,vs,i,b,hb,h1,h2,f,g,q=>by
  unfold cZ at f g;obtain⟨u,r,rfl,h,f⟩:=f;obtain⟨v,t,rfl,j,g⟩:=g;simp only[eA,Bool.and_eq_true]at h1 h2;rw[List.zip_cons_cons];have B:deep a<=0:=by cases c <;> cases a <;> simp[gB]at h1 <;> simp[deep]
  refine kat_cons (j4 (s:=s) 0 B (by lia) h j prog w _ _ ?_);simp only[List.flatMap_cons]at q;refine kat_go (λe=>kat_yes ?_) (λe=>kat_no ?_)
  ·have n:a=d:=(N1 h1.1 h2.1).mp e;subst n;rw[RB]at q;exact xR p m as bs r t (i+1) b (λ_ _=>trivial) h1.2 h2.2 f g q
  ·have o:a≠d:=λz=>by rw[(N1 h1.1 h2.1).mpr z]at e;cases e
   rw[RD h1.1 h2.1 o]at q
   cases c with
   | i=>
    cases a <;> simp[gB]at h1;cases d <;> simp[gB]at h2;rename_i x y;unfold Vl at h j;obtain⟨C,rfl⟩:=h;obtain⟨E,rfl⟩:=j
    have k :Q (decide (x<y)) s:=by
     have:lx (j5 (.int x)) (j5 (.int y))=decide (x<y):=by
      simp only[j5,lx];by_cases l:x<y
      ·simp[l]
      ·simp[l]
     rw[<-this];exact q
    cases hbi:(b && i==0) with
    | true=>exact oneLt_int k
    | false=>exact kat_one _ _ (lt_int k)
   | s=>
    cases a <;> simp[gB]at h1;cases d <;> simp[gB]at h2;rename_i x y;unfold Vl at h j;obtain⟨C,rfl⟩:=h;obtain⟨E,rfl⟩:=j
    have k :Q (decide (x.cps.toList<y.cps.toList)) s:=by
     have:lx (j5 (.str x)) (j5 (.str y))=decide (x.cps.toList<y.cps.toList):=E8 _ _;rw[<-this];exact q
    cases hbi:(b && i==0) with
    | true=>exact oneLt_str k
    | false=>exact kat_one _ _ (lt_str k)
def scT:Sc->String | .i=>"int" | .s=>"str"
section
variable {prog:Program}{w:World}{A:Around}
theorem qX:∀{a:List Sc} {ds:List D},eA a ds=true->ds.length=a.length
 | [],[],_=>rfl
 | [],_::_,h=>by simp[eA]at h
 | _::_,[],h=>by simp[eA]at h
 | c::a,d::ds,h=>by simp only[eA,Bool.and_eq_true]at h;simp[qX h.2]
theorem mR{vs:List Value}{x:Keyed}(h:x∈(pairsOf vs).toList):x=(x.1,x.1)/\x.1∈vs:=by
 rw[pairsOf_toList]at h
 induction vs with
 | nil=>simp at h
 | cons v r ih=>
  rw[List.zip_cons_cons]at h;rcases aFx.mp h with e | e
  ·rw[e];exact⟨rfl,aFs⟩
  ·obtain⟨a,b⟩:=ih e;exact⟨a,aFt _ b⟩
theorem t8{s:Shared}{vs:List Value}(hu:A.units+40<cLine)(U:F0 ds)(l:cZ s.heap ds vs)(T:2<=vs.length):
  ∃κ,∀h' :Heap,(∀b o,s.heap.get? b=some o->h'.get? b=some o)->TS.m8 prog w A {s with heap:=h'} κ (ltV s.heap) (pairsOf vs)/\
   ∀B G,B κ {s with heap:=h'}->wpAny (model prog w) A (keyKind' vs.toArray) B G {s with heap:=h'}:=by
 rcases U with ⟨c,f⟩ | ⟨c,V,f⟩
 ·refine⟨oneType',λh' k=>⟨λx y H I Q q=>?_,λB G q=>?_⟩⟩
  ·obtain⟨_,J⟩:=mR H;obtain⟨_,K⟩:=mR I;obtain⟨d,g,dp⟩:=mO l _ J;obtain⟨e,em,ep⟩:=mO l _ K
   have C :Q (lx (enc d) (enc e)) {s with heap:=h'}:=by
    have:ltV s.heap x y=lx (enc d) (enc e):=by unfold ltV;rw[n5 dp,n5 ep]
    rw[<-this];exact q
   have hd:=f d g;have he:=f e em;obtain⟨x1,x2⟩:=x;obtain⟨y1,y2⟩:=y
   cases c with
   | i=>
    cases d <;> simp[gB]at hd;cases e <;> simp[gB]at he;rename_i i j;unfold Vl at dp ep;obtain⟨h,rfl⟩:=dp;obtain⟨t2,rfl⟩:=ep;refine PySem.W.kat_lt_int ?_
    have:lx (enc (.int i)) (enc (.int j))=decide (i<j):=by
     simp only[enc,j5,lx];by_cases m:i<j
     ·simp[m]
     ·simp[m]
    rw[<-this];exact C
   | s=>
    cases d <;> simp[gB]at hd;cases e <;> simp[gB]at he;rename_i i j;unfold Vl at dp ep;obtain⟨h,rfl⟩:=dp;obtain⟨t2,rfl⟩:=ep;refine PySem.W.kas_lt_str ?_;have:lx (enc (.str i)) (enc (.str j))=decide (i.cps.toList<j.cps.toList):=E8 _ _;rw[<-this];exact C
  ·have ty:∀v∈vs,PySem.W.Looks (model prog w) h' (typeOf v) (.type (scT c)):=λv hv=>by
    obtain⟨d,g,dp⟩:=mO l _ hv;have hd:=f d g
    cases c with
    | i=>cases d <;> simp[gB]at hd;unfold Vl at dp;obtain⟨h,rfl⟩:=dp;exact aI6 rfl
    | s=>cases d <;> simp[gB]at hd;unfold Vl at dp;obtain⟨h,rfl⟩:=dp;exact aI6 rfl
   exact PySem.W.kas_kind (s:={s with heap:=h'}) T ty (by cases c <;> rfl) (by cases c <;> rfl) q
 ·refine⟨tuples' true,λh' k=>⟨λx y H I Q q=>?_,λB G q=>?_⟩⟩
  ·obtain⟨_,J⟩:=mR H;obtain⟨_,K⟩:=mR I;obtain⟨d,g,dp⟩:=mO l _ J;obtain⟨e,em,ep⟩:=mO l _ K
   have C :Q (lx (enc d) (enc e)) {s with heap:=h'}:=by
    have:ltV s.heap x y=lx (enc d) (enc e):=by unfold ltV;rw[n5 dp,n5 ep]
    rw[<-this];exact q
   obtain⟨as,rfl,ha⟩:=f d g;obtain⟨bs,rfl,hb⟩:=f e em;obtain⟨x1,x2⟩:=x;obtain⟨y1,y2⟩:=y;unfold Vl at dp ep;obtain⟨a,us,ea,⟨o,ho,t,n,hd⟩,z⟩:=dp;obtain⟨b,L,eb,⟨o2,M,X,n2,N⟩,Y⟩:=ep;have O :x1=Value.ref a:=ea;have P :y1=Value.ref b:=eb;subst O P;refine PySem.W.kat_lt (s:={s with heap:=h'}) (k _ _ ho) hd (k _ _ M) N ?_;have z1:=bG z;have z2:=bG Y;have z3:=qX ha;have z4:=qX hb;have zz:decide (us.toArray.size<L.toArray.size)=false:=aHp (by simp only[List.size_toArray];lia);rw[zz];exact xR (s:={s with heap:=h'}) (by lia) (c::V) as bs us L 0 true (λ_ _=>trivial) ha hb (cZ.keep k as us z) (cZ.keep k bs L Y) C
  ·have fs:∃fs:List Value,PySem.W.KatTups h' vs fs/\fs.length=vs.length/\∀v∈fs,PySem.W.Looks (model prog w) h' (typeOf v) (.type (scT c)):=by
    clear q T
    have go:∀(ds:List D) (vs:List Value),(∀d∈ds,∃E,d= .tup E/\eA (c::V) E=true)->cZ s.heap ds vs->∃fs:List Value,PySem.W.KatTups h' vs fs/\fs.length=vs.length/\∀v∈fs,PySem.W.Looks (model prog w) h' (typeOf v) (.type (scT c)):=by
     intro ds
     induction ds with
     | nil=>intro vs _ l;unfold cZ at l;subst l;exact⟨[],PySem.W.KatTups.nil,rfl,λv hv=>by cases hv⟩
     | cons d r ih=>
      intro vs f l;unfold cZ at l;obtain⟨u,ur,rfl,p,l⟩:=l;obtain⟨fs,R,Z,S⟩:=ih ur (λe he=>f e (aFt _ he)) l;obtain⟨E,rfl,he⟩:=f d aFs;unfold Vl at p;obtain⟨a,us,rfl,⟨o,ho,t,n,hd⟩,z⟩:=p
      cases E with
      | nil=>simp[eA]at he
      | cons e0 er=>
       unfold cZ at z;obtain⟨u0,u1,rfl,F,_⟩:=z;simp only[eA,Bool.and_eq_true]at he;refine⟨u0::fs,PySem.W.KatTups.cons (k _ _ ho) t hd (by simp) R,by simp[Z],λv hv=>?_⟩;rcases aFx.mp hv with rfl | hv
       ·cases c with
        | i=>cases e0 <;> simp[gB]at he;unfold Vl at F;obtain⟨h,rfl⟩:=F;exact aI6 rfl
        | s=>cases e0 <;> simp[gB]at he;unfold Vl at F;obtain⟨h,rfl⟩:=F;exact aI6 rfl
       ·exact S v hv
    exact go ds vs f l
   obtain⟨fs,R,Z,S⟩:=fs;refine PySem.W.kat_kind (s:={s with heap:=h'}) R (by lia) S (by cases c <;> rfl) ?_;have:(Value.type (scT c) !=Value.type "tuple")=true:=by cases c <;> rfl
   rw[this];exact q
end
theorem lU{α c:Type}(f:α->c):∀{l:List c} {m:List c},l.Perm m->∀t:List α,m=t.map f->∃t' :List α,t'.Perm t/\t'.map f=l:=by
 intro l m h
 induction h with
 | nil=>intro t e;cases t <;> simp at e;exact⟨[],.refl _,rfl⟩
 | cons x _ ih=>
  intro t e
  cases t with
  | nil=>simp at e
  | cons a r=>
   simp at e;obtain⟨t',p,q⟩:=ih r e.2;exact⟨a::t',p.cons a,by simp[q,e.1]⟩
 | swap x y l=>
  intro t e
  match t,e with
  | [],e=>simp at e
  | [_],e=>simp at e
  | a::b::r,e=>
   simp at e;exact⟨b::a::r,.swap _ _ _,by simp[e]⟩
 | trans _ _ ih1 ih2=>
  intro t e;obtain⟨d,g,i⟩:=ih2 t e;obtain⟨j,k,n⟩:=ih1 d i.symm;exact⟨j,k.trans g,n⟩
def HM:OA:=λxs mh Q=>∃x ds,xs=[x]/\nA mh x=some ds/\ds.length<4000/\F0 ds/\
 ∀a,a.Perm ds->a.Pairwise (λd e=>lx (enc e) (enc d)=false)->Q (.ref mh.length) (mh++[.lst a])
theorem yN(U:F0 ds):eD ds=true:=by
 have sc:∀{b:List Sc} {a:List D},eA b a=true->eD a=true:=λ{b}=>by
  induction b with
  | nil=>intro a h;cases a with | nil=>rfl | cons=>simp[eA]at h
  | cons c b ih=>
   intro a h
   cases a with
   | nil=>simp[eA]at h
   | cons e a=>
    simp only[eA,Bool.and_eq_true]at h;simp only[eD,ih h.2,Bool.and_true];cases c <;> cases e <;> simp[gB]at h <;> rfl
 rcases U with ⟨c,f⟩ | ⟨c,b,f⟩
 ·induction ds with
  | nil=>rfl
  | cons d r ih=>
   have hd:=f d aFs;simp only[eD,ih λe he=>f e (List.mem_cons_of_mem _ he),Bool.and_true];cases c <;> cases d <;> simp[gB]at hd <;> rfl
 ·induction ds with
  | nil=>rfl
  | cons d r ih=>
   obtain⟨a,rfl,he⟩:=f d aFs;simp only[eD,ih λe he=>f e (List.mem_cons_of_mem _ he),Bool.and_true];simpa[bare] using sc he
structure Tri where
 d:D
 v:V
 u:Value
theorem U1{K:aJj}{μ:List Addr}{H:Hp}{h:Heap}:∀{ds:List D} {vs:List V} {us:List Value},IsL K μ H ds vs->Vals vs us->cZ h ds us->∃ts:List Tri,ts.map (·.d)=ds/\ts.map (·.v)=vs/\ts.map (·.u)=us/\∀t∈ts,Is K μ H t.d t.v/\RelV t.v t.u/\Vl h t.d t.u
 | [],vs,us,l,r,q=>by unfold IsL at l;subst l;cases r;exact⟨[],rfl,rfl,rfl,λt ht=>by cases ht⟩
 | d::ds,vs,us,l,r,q=>by
  unfold IsL at l;obtain⟨v,s,rfl,i,l⟩:=l
  cases r with
  | @cons _ g _ j k m=>
   unfold cZ at q;obtain⟨w,x,e,p,q⟩:=q;injection e with n o;subst n o;obtain⟨ts,a,b,c,f⟩:=U1 l m q
   exact⟨⟨d,v,g⟩::ts,by simp[a],by simp[b],by simp[c],λt ht=>by
    rcases aFx.mp ht with rfl | ht
    ·exact⟨i,k,p⟩
    ·exact f t ht⟩
theorem zZ{K:aJj}{μ:List Addr}{H:Hp}:∀{ts:List Tri},(∀t∈ts,Is K μ H t.d t.v)->IsL K μ H (ts.map (·.d)) (ts.map (·.v))
 | [],_=>by simp[IsL]
 | t::ts,h=>by
  simp only[List.map_cons];unfold IsL;exact⟨_,_,rfl,h t aFs,zZ λx a=>h x (aFt _ a)⟩
theorem tT:∀{ts:List Tri},(∀t∈ts,RelV t.v t.u)->Vals (ts.map (·.v)) (ts.map (·.u))
 | [],_=>.nil
 | t::ts,h=>.cons (h t aFs) (tT λx a=>h x (aFt _ a))
section
variable {X:Cx}
theorem JP(hu:X.A.units+64<cLine):cX X (.builtin "sorted") (fV X.K HM):=by
 intro pins s σ H xs us Q I r q;obtain⟨μ,mh,ds,R,p,J,⟨x,g,rfl,e,L,U,q⟩,F⟩:=q;obtain⟨v,rfl,M⟩:=rS J;obtain⟨a,vs,rfl,sq,l⟩:=uZ p M e;obtain⟨u,rfl,N⟩:=vals1 r;cases N;obtain⟨aJ,y,O,hz⟩:=I.list sq;have h:=lL I g (yN U) l y;have B:aJ.length=g.length:=bG h;have P:X.A.in1.in1.units+40<cLine:=by show X.A.units+1+1+40<_;lia
 have ask:∃κ,2<=aJ.length->∀h' :Heap,(∀b o,s.heap.get? b=some o->h'.get? b=some o)->TS.m8 X.prog X.w X.A.in1.in1 {s with heap:=h'} κ (ltV s.heap) (pairsOf aJ)/\
   ∀C S,C κ {s with heap:=h'}->wpAny (model X.prog X.w) X.A.in1.in1 (keyKind' aJ.toArray) C S {s with heap:=h'}:=by
  by_cases D:2<=aJ.length
  ·obtain⟨κ,T⟩:=t8 (prog:=X.prog) (w:=X.w) (A:=X.A.in1.in1) P U h D;exact⟨κ,λ_=>T⟩
  ·exact⟨general',λz=>absurd z D⟩
 obtain⟨κ,ask⟩:=ask;refine TS.K1 (κ:=κ) (E9 s.heap) O.isList (by lia) ask λout E i=>?_;obtain⟨ts,V,W,Y,Z⟩:=U1 l y h;rw[<-Y]at E;obtain⟨c,j,G⟩:=lU (·.u) E ts rfl;have f:∀t∈c,Is X.K μ H t.d t.v/\RelV t.v t.u/\Vl s.heap t.d t.u:=λt ht=>Z t (j.mem_iff.mp ht);have pd:(c.map (·.d)).Perm g:=by rw[<-V];exact j.map _
 have pw:(c.map (·.d)).Pairwise (λd e=>lx (enc e) (enc d)=false):=by
  rw[<-G]at i;rw[List.pairwise_map]at i⊢;refine i.imp_of_mem λ{t t'} m m' k=>?_;have e1:dv s.heap t.u=t.d:=n5 (f t m).2.2;have e2:dv s.heap t'.u=t'.d:=n5 (f t' m').2.2;unfold ltV at k;rw[e1,e2]at k;exact k
 obtain⟨ep,he⟩:=sortedAll_at s.heap aJ out.toArray
 have ln:(c.map (·.v)).length<=sizeLine:=by
  have:=j.length_eq;have n :=aGs List.length W;simp at n ⊢
  lia
 have I1:Inv X pins σ (upd H (s.heap.objs.size+1) (.lst (c.map (·.v)))) {s with heap:=sortedAll s.heap aJ out.toArray}:=
  I.laid (t' :=s.toks) (λb o hb=>sortedAll_old hb) (aJe _) ⟨ln,out,ep,by rw[<-G];exact tT λt ht=>(f t ht).2.1,he⟩
 exact⟨.ref (s.heap.objs.size+1),_,I1,rfl,gO p F (zZ λt ht=>(f t ht).1) (q _ pd pw) _ (I.bY.fresh (aJe _))⟩
end
theorem cD{g:WG}{b:WS}{E:fY}{St:MH->Prop}(e:Nat->eK->MH->Prop)(ds:List D)(f:∀i a mh,e i a mh->St mh)
  (l:∀i d a mh (N:eK->MH->Prop),ds[i]? =some d->e i a mh->(∀c mh',e (i+1) c mh' ->N c mh')->g d a λj=>b {E with nx:=N,ct:=N,bk:=E.nx} j mh)
  (hd:∀a mh,e ds.length a mh->E.nx a mh) {a:eK}  (h0:e 0 a mh):lW g b E St ds a mh:=by
 have go:∀(k i:Nat),i+k=ds.length->∀a mh,e i a mh->lW g b E St (ds.drop i) a mh:=by
  intro k
  induction k with
  | zero=>
   intro i hi a mh p;have:i=ds.length:=by lia
   subst this;rw[List.drop_of_length_le (Nat.le_refl _)];exact⟨f _ _ _ p,hd a mh p⟩
  | succ k ih=>
   intro i hi a mh p;have h:i<ds.length:=by lia
   rw[List.drop_eq_getElem_cons h];exact⟨f _ _ _ p,l i ds[i] a mh _ (by simp[h]) p λc mh' m =>ih (i+1) (by lia) c mh' m⟩
 have:=go ds.length 0 (by simp) a mh h0;simpa using this
theorem N7{g:WG}{t:WT}{w:WE}{ρe:eK}{St:MH->Prop}{Q:DK}(c:Nat->List D->MH->Prop)(ds:List D)(e:∀i ys mh,c i ys mh->St mh)
  (m:∀i d ys mh (N:List D->MH->Prop),ds[i]? =some d->c i ys mh->(∀a mh',c (i+1) a mh' ->N a mh')->g d ρe λf=>t f mh λb h=>if b=true then w f h λy l=>N (ys++[y]) l else N ys h)
  (hd:∀ys mh,c ds.length ys mh->Q (.ref mh.length) (mh++[.lst ys]))  (h0:c 0 [] mh):jJ g t w ρe St Q ds [] mh:=by
 have go:∀(k i:Nat),i+k=ds.length->∀ys mh,c i ys mh->jJ g t w ρe St Q (ds.drop i) ys mh:=by
  intro k
  induction k with
  | zero=>
   intro i hi ys mh p;have:i=ds.length:=by lia
   subst this;rw[List.drop_of_length_le (Nat.le_refl _)];exact⟨e _ _ _ p,hd ys mh p⟩
  | succ k ih=>
   intro i hi ys mh p;have j:i<ds.length:=by lia
   rw[List.drop_eq_getElem_cons j];exact⟨e _ _ _ p,m i ds[i] ys mh (λa mh' =>jJ g t w ρe St Q (ds.drop (i+1)) a mh') (by simp[j]) p λa mh' n =>ih (i+1) (by lia) a mh' n⟩
 have:=go ds.length 0 (by simp) [] mh h0;simpa using this
theorem sR{lo:Int}{n i:Nat}(h:(uN lo n)[i]? =some d):i<n/\d= .int (lo+i):=by
 simp only[uN,List.getElem?_map]at h;obtain⟨k,a,rfl⟩:=aGn.mp h;obtain⟨hi,rfl⟩:=aFp.mp a;simp at hi;exact⟨hi,by simp⟩
@[simp] theorem aCt (lo:Int)(n:Nat):(uN lo n).length=n:=by simp[uN]
def wU(mh:MH)(b:Nat):Prop:=∃c m:Int,mh[b]? =some (.lst [.int c,.int m])/\0<=c/\0<=m/\m<2147483629
variable{b:Nat}
theorem wU.lt(h:wU mh b):b<mh.length:=let ⟨_,_,e,_⟩:=h;(aFp.mp e).1
def cT(mh:MH)(b:Nat)(mh' :MH):Prop:=wU mh' b/\∃o,mh' =mh.set b o
theorem cT.len{mh mh' :MH}(h:cT mh b mh'):mh'.length=mh.length:=by obtain⟨_,o,rfl⟩:=h;simp
theorem cT.trans{mh a c:MH}(h:cT mh b a)(h' :cT a b c):cT mh b c:=by
 obtain⟨_,o,rfl⟩:=h;obtain⟨d,e,rfl⟩:=h';exact⟨d,e,by simp⟩
theorem cT.refl(h:wU mh b):cT mh b mh:=by
 refine⟨h,mh[b]'h.lt,?_⟩;simp
theorem cT.other{mh mh' :MH}(h:cT mh b mh')(a:n≠b):mh'[n]? =mh[n]? :=by
 obtain⟨_,o,rfl⟩:=h;exact List.getElem?_set_ne (aGr a)
theorem wU.zJ(h:wU mh b)(k:Nat):∀o,mh[b]? =some o->zJ k o=true:=by
 obtain⟨c,m,e,_⟩:=h;intro o ho;rw[e]at ho;cases ho;rfl
theorem cT.mok{mh mh' :MH}(h:cT mh b mh')(ok:kW mh):kW mh' :=by
 have hb:=h.1;obtain⟨_,o,e⟩:=h;intro x d;have f:mh'.length=mh.length:=by rw[e];simp
 obtain⟨n,c⟩:=aGk.mp d;by_cases a:n=b
 ·subst a;exact hb.zJ _ x c
 ·rw[e,List.getElem?_set_ne (Ne.symm a)]at c;rw[f];exact ok x (aG3 c)
def jF:OA:=λds mh Q=>∃b a,ds=[.ref b,.int a]/\1<=a/\a<=1073741789/\wU mh b/\∀r mh',0<=r->r<a->cT mh b mh' ->Q (.int r) mh'
def BY:OA:=λds mh Q=>∃(ns:List Int) (a:Int),ds=[.fl (ns.map .int),.int a]/\ns.length<=63/\0<=a/\a<=100/\∀mh',(∃o,mh' =mh++[o])->wU mh' mh.length->Q (.ref mh.length) mh'
def fH(K:aJj)(x:Str)(st:Stmt):Prop:=∃f oc od kV doc pm an cd ct sl,PySem.W.nsIn K mainGlobals x=some (some (.ref f))/\
 K.lookup f=some ⟨oc,od,.func (PySem.W.fnOf x x (eW st) (cJ st) (aC st) .none kV doc pm an cd ct),sl⟩/\PySem.W.codeIn K cd x=true/\PySem.W.keepIn K (.ref f)=true
variable{st:Stmt}
theorem aD7{f:Addr}{oc:Value}{od an:Option Addr}{sl:Array (Option Value)}{kV doc pm cd ct:Value}(a:PySem.W.nsIn K mainGlobals x=some (some (.ref f)))
  (l:K.lookup f=some ⟨oc,od,.func (PySem.W.fnOf x x (eW st) (cJ st) (aC st) .none kV doc pm an cd ct),sl⟩) (c:PySem.W.codeIn K cd x=true) (k:PySem.W.keepIn K (.ref f)=true):fH K x st:=⟨f,oc,od,kV,doc,pm,an,cd,ct,sl,a,l,c,k⟩
def cE(x:Str)(st:Stmt)(ps:List Str):Prop:=∀(kV doc pm:Value) (an:Option Addr) (cdv ct:Value) (us:List Value),us.length=ps.length->bindArgs (PySem.W.fnOf x x (eW st) (cJ st) (aC st) .none kV doc pm an cdv ct) ⟨us,[]⟩=pure (ps.zip us)
section
variable {P:Program}{w:World}{K:aJj}{mg:aJm}{base:Heap}{h:Heap}
theorem YQ{k:Nat}{s:OA}{wB:WS}(e:fH K x st)(KX:K.In h)(G:h.Ns mainGlobals mg)(g:cE x st ps)(S:aV N ps (aC st))(len:∀ds mh R,s ds mh R->ds.length=ps.length)
  (hb:∀(f:Addr) (cdv:Value) (A:Around) (outer:List Env) (s:Shared) (H:Hp) (E:XK),gC k (A.deeper (envOfC x (aC st) s.heap.objs.size f cdv))->
   kX (vP D9 P w K mg base N x (aC st) f cdv A outer s H E).Q9 (cJ st) wB)
  (i:∀ds mh R,kW mh->cG mh.length ds=true->s ds mh R->wB {nx:=λ_ b=>Out mh.length .cL b R,rt:=λd b=>Out mh.length d b R} (aI N ds) mh):Fn P w K mg base (k+1) x ps s:=by
 obtain⟨f,oc,od,kV,doc,pm,an,cd,ct,sl,a,l,c,kp⟩:=e;have F:=FN (st:=st) l c kp;exact⟨f,_,aCb F S len (λcdv A outer s H E j=>hb f cdv A outer s H E j) i,aJh KX G a,kp,F.binds g⟩
theorem NW{k:Nat}(b:fH K x st)(KX:K.In h)(G:h.Ns mainGlobals mg)(d:cE x st ps):Fn P w K mg base k x ps (λ_ _ _=>False):=by
 obtain⟨f,oc,od,kV,doc,pm,an,cd,ct,sl,a,l,c,kp⟩:=b;have F:=FN (st:=st) l c kp;refine⟨f,_,⟨λvs H Q E q=>?_,λA outer s H args us vs Q E _ _ _ _ q=>?_⟩,aJh KX G a,kp,F.binds d⟩
 ·obtain⟨_,_,_,_,_,_,q,_⟩:=q;exact q.elim
 ·obtain⟨_,_,_,_,_,_,q,_⟩:=q;exact q.elim
end
def v9:OA:=λds mh Q=>∃ns:List Int,ds=[.fl (ns.map .int)]/\ns.length<=63/\∀mh',Q (.bl true) mh'
theorem C9{K:aJj}{μ:List Addr}{H:Hp}:∀ns:List Int,IsL K μ H (ns.map .int) (ns.map .int)
 | []=>by simp[IsL]
 | n::ns=>by simp only[List.map_cons];unfold IsL;exact⟨_,_,rfl,.int,C9 ns⟩
theorem XN{ns:List Int}(b:ns.length<=63)(c:TK H)(hS:oV K H a (ns.map V.int)):OR K v9 [.ref a] H (λv _=>v= .bl true) λ_ _ _=>False:=by
 have e:OY K H a (ns.map V.int):=by
  rcases hS with (hS | hS) | hS
  ·rcases c a with z | ⟨o,xs,z⟩
   ·rw[hS]at z;cases z
   ·rw[hS]at z;cases z
  ·exact .inl hS
  ·exact .inr hS
 refine⟨[],[],[.fl (ns.map .int)],λd _=>d= .bl true,⟨rfl,List.nodup_nil,λn a o f=>by simp at f⟩,?_,⟨ns,rfl,b,λ_=>rfl⟩,λd mh' q μ' v H' _ _ I=>?_⟩
 ·refine mT ?_;unfold Is;exact⟨a,_,rfl,e,C9 ns⟩
 ·subst q;exact ND I
theorem walkD{l:PySem.W.OpenLaw}{k:Nat}{q:Program}{loose:List Str}{XP:(aJm)->Heap->Prop}{c:World->Heap->Prop}{d:DefRec}{K:Params->aJj}(g:l.most=some 63)(b:d.params.defaults=[])(i:gC k callerA)
  (j:∀(w:World) (h:Heap),c w h->(K w.params).In h)
  (F:∀(w:World) (mg:aJm) (e:Addr) (h:Heap),(K w.params).In h->h.Ns mainGlobals mg->mg d.name=some (.ref e)->
   ∃fd:FuncData,(∀(s:Shared) (u:Value),BindsTo s fd ⟨[u],[]⟩ [(x,u)])/\∀base:Heap,(K w.params).In base->base.Ns mainGlobals mg->jN l.prog w (K w.params) mg base D9 k e fd [x] (OR (K w.params) v9)):
  PySem.W.WalkO q loose XP c l.row.toRowW d [] (λf vs=>PySem.call f vs):=
 L2.PB (n:=63) (k:=k) (x:=x) (CX:=λ_=>D9) (sp:=λw=>OR (K w.params) v9) g (by decide) b i j F (λ_ _ a ns m o p=>XN m o p) λ_ _ _ _ _ z=>z
theorem XQ{k:Nat}{g:Addr}(KX:K.In h)(G:h.Ns mainGlobals mg)(i:mg "law"=some (.ref g))(j:fH K "law" st)(S:aV N [x] (aC st))(m:cE "law" st [x])
  (hb:∀base:Heap,∃wB:WS,(∀(f:Addr) (cdv:Value) (A:Around) (outer:List Env) (s:Shared) (H:Hp) (E:XK),gC k (A.deeper (envOfC "law" (aC st) s.heap.objs.size f cdv))->
   kX (vP D9 P w K mg base N "law" (aC st) f cdv A outer s H E).Q9 (cJ st) wB)/\
   ∀ds mh R,kW mh->cG mh.length ds=true->v9 ds mh R->wB {nx:=λ_ b=>Out mh.length .cL b R,rt:=λd b=>Out mh.length d b R} (aI N ds) mh):
  ∃fd:FuncData,(∀(s:Shared) (u:Value),BindsTo s fd ⟨[u],[]⟩ [(x,u)])/\∀base:Heap,jN P w K mg base D9 (k+1) g fd [x] (OR K v9):=by
 obtain⟨f,oc,od,kV,doc,pm,an,cd,ct,sl,a,l,c,kp⟩:=j;have e:=i.symm.trans (aJh KX G a);cases e;have F:=FN (st:=st) l c kp;refine⟨_,λs u=>.of_eq (m kV doc pm an cd ct [u] rfl),λbase=>?_⟩;obtain⟨wB,n,o⟩:=hb base;exact aCb F S (λds mh R p=>by obtain⟨ns,rfl,_⟩:=p;rfl) (λcdv A outer s H E q=>n g cdv A outer s H E q) o
theorem bl_mk(KX:K.In h)(G:h.Ns mainGlobals mg)
  (l:PySem.W.nsIn K mainGlobals "len"=some none) (m:PySem.W.nsIn K mainGlobals "range"=some none) (n:PySem.W.nsIn K mainGlobals "zip"=some none) (o:PySem.W.nsIn K mainGlobals "all"=some none) (p:PySem.W.nsIn K mainGlobals "any"=some none) (q:PySem.W.nsIn K mainGlobals "abs"=some none) (r:PySem.W.nsIn K mainGlobals "min"=some none) (s:PySem.W.nsIn K mainGlobals "max"=some none) (t:PySem.W.nsIn K mainGlobals "isinstance"=some none) (a:PySem.W.nsIn K mainGlobals "sorted"=some none) (b:PySem.W.nsIn K mainGlobals "int"=some none) (c:PySem.W.nsIn K mainGlobals "str"=some none) (d:PySem.W.nsIn K mainGlobals "bool"=some none) (e:PySem.W.nsIn K mainGlobals "list"=some none) (f:PySem.W.nsIn K mainGlobals "tuple"=some none) (g:PySem.W.nsIn K mainGlobals "set"=some none) (i:PySem.W.nsIn K mainGlobals "dict"=some none) (j:PySem.W.nsIn K mainGlobals "sum"=some none) (k:PySem.W.nsIn K mainGlobals "enumerate"=some none):Bl mg:=
 ⟨aGc KX G l,aGc KX G m,aGc KX G n,aGc KX G o,aGc KX G p,aGc KX G q,aGc KX G r,aGc KX G s,aGc KX G t,aGc KX G a,aGc KX G b,aGc KX G c,aGc KX G d,aGc KX G e,aGc KX G f,aGc KX G g,aGc KX G i,aGc KX G j,aGc KX G k⟩
theorem FJ{M:Model}{A:Around}{E:aJk}{s:Shared}{a b:Value}{Q:aJk}(ha:s.TypeIs a "list")(hb:s.TypeIs b "list")(c:wpAny M A (call (.builtin "list.__iadd__") [a,b]) Q E s):wpAny M A (inplaceOp .Add a b) Q E s:=by
 refine aGj (aFo (aHy ha (aFo (aIo (show fillsInplaceSlot (.type "list") "add" true=pure false from rfl) ?_))));show wpAny M A (if false=true then _ else _) Q E s;rw[if_neg Bool.false_ne_true];exact aFo (wpAny_binaryOp1_none ha hb rfl (aFo (aIo (show seqSlot? (Value.type "list") (dunderI "add")=pure (some (Value.builtin "list.__iadd__")) from rfl) (aFo (aGx c)))))
section
variable {X:Cx}
theorem NG:dO X (inplaceOp .Add) (λx y H Q=>∃l b xs d,x= .ref l/\y= .ref b/\H l=some (.lst xs)/\H b=some (.lst d)/\xs.length+d.length<=sizeLine/\Q (.ref l) (upd H l (.lst (xs++d)))):=by
 intro pins s σ H x y v u Q I i j h;obtain⟨l,b,xs,d,rfl,rfl,f,k,hz,q⟩:=h;cases i;cases j;obtain⟨z,aJ,n,r,t,e⟩:=I.FA f;obtain⟨w,a,m,o,p,g⟩:=I.FA k;have hsz:aJ.toArray.size+a.toArray.size<=sizeLine:=by rw[List.size_toArray,List.size_toArray];lia
 have c:¬(!aJ.toArray.isEmpty && Builtin.List.listTooLong (aJ.toArray.size+a.toArray.size))=true:=by
  rw[CI hsz,Bool.and_false];exact Bool.false_ne_true
 refine FJ ⟨_,e,rfl⟩ ⟨_,g,rfl⟩ (call_meets F.slot_list_iadd ⟨_,e,rfl⟩ F.entry_list_iadd (F.args_list_iadd_2 _ _)
  (AutoSeq1.list___iadd___list_list_0 l aJ.toArray n b a.toArray m c (by rw[List.size_toArray];lia) (by lia)) ⟨e,g,?_⟩)
 refine⟨.ref l,_,I.W4 (its' :=aJ++a) f e (by simp) (r.append o) ?_,rfl,q⟩;rw[List.length_append]
 lia
def L7:O2:=λx y mh Q=>match x with
 | .int i=>match y with | .int j=>Q (.int (i+j)) mh | _=>False
 | .str i=>match y with | .str j=>i.length+j.length<=sizeLine/\Q (.str (i++j)) mh | _=>False
 | .ref n=>match y with | .ref m=>∃a fs,mh[n]? =some (.lst a)/\mh[m]? =some (.lst fs)/\a.length+fs.length<=sizeLine/\Q (.ref n) (mh.set n (.lst (a++fs))) | _=>False
 | _=>False
theorem Q5:dO X (inplaceOp .Add) (bB X.K L7):=by
 intro pins s σ H x y v u Q I e f q;obtain⟨μ,mh,dx,g,R,c,d,h,q,F⟩:=q
 cases dx with
 | int i=>
  cases g with
  | int j=>cases bO d;cases bO h;exact SH pins s σ H _ _ v u Q I e f ⟨i,j,rfl,rfl,F.here c q .int⟩
  | _=>exact False.elim q
 | str i=>
  cases g with
  | str j=>cases d6 d;cases d6 h;exact DB pins s σ H _ _ v u Q I e f ⟨i,j,rfl,rfl,q.1,F.here c q.2 .str⟩
  | _=>exact False.elim q
 | ref n=>
  cases g with
  | ref m=>
   obtain⟨A,fs,o,p,hz,q⟩:=q;obtain⟨a,vs,rfl,r,t,l⟩:=g9 c d o;obtain⟨b,w,rfl,B,z,k⟩:=g9 c h p;exact NG pins s σ H _ _ v u Q I e f ⟨a,b,vs,w,rfl,rfl,t,z,by rw[aN l,aN k];exact hz,F.put c r (iP l k) q d⟩
  | _=>exact False.elim q
 | _=>exact False.elim q
def US(i:Nat)(w:WE)(f:O2):WS:=λE a mh=>∃x,a[i]? =some (some x)/\w a mh λy b=>f x y b λz c=>E.nx (a.set i (some z)) c
theorem XA(i:Nat){e:Expr}{w:WE}{l:Operator}{f:O2}{pos a :Pos}(hN:X.N.Nodup)(ho:dO X (inplaceOp l) (bB X.K f))(he:LE X e w)(hi:X.N[i]? =some x:=by rfl)(b:Loc X.env.scope x:=by first | exact Or.inl rfl | exact Or.inr rfl)(m:X.fn x=true\/X.env.scope.names.lookup x=some .local:=by first | exact .inl rfl | exact .inr rfl | assumption):
  LS X (.AugAssign (.Name x a) l e pos) (US i w f):=PS.imp (VQ hN hi b he ho m) λD σ H h=>by
 obtain⟨μ,n,mh,E,R,En,⟨x,b,h⟩,F⟩:=h;obtain⟨v,o,p⟩:=En.2 i x b;refine⟨v,o,μ,n,mh,_,R,En,h,λd c q μ1 u B g r s=>?_⟩;exact⟨μ1,c,x,d,_,r,Is.mono R g x v p,s,q,λz j t k C y P2 R2 A=>F.nx _ j t k _ y (g.trans P2) R2 ((En.mono R (g.trans P2)).set i A)⟩
end
theorem C5{a b:Key}(h:bJ a=bJ b):a=b:=by
 cases a <;> cases b <;> simp[bJ]at h <;> rw[h]
open Classical in
noncomputable def putD(kvs:List (D×D))(k v:D):List (D×D):=if ∃p∈kvs,p.1=k then kvs.map (λp=>if p.1=k then (p.1,v) else p) else kvs++[(k,v)]
variable{kvs:List (D×D)}
theorem LK{k v:D}{p:D×D}(h:p∈putD kvs k v):p∈kvs\/(p.1=k/\p.2=v):=by
 unfold putD at h;split at h
 ·obtain⟨q,a,e⟩:=aG0.mp h;split at e
  ·rename_i hk;subst e;exact .inr ⟨hk,rfl⟩
  ·subst e;exact .inl a
 ·rcases aFv.mp h with h | h
  ·exact .inl h
  ·simp at h;subst h;exact .inr ⟨rfl,rfl⟩
open Classical in
theorem ID(kvs:List (D×D))(k v:D):(putD kvs k v).map (·.1)=if (∃p∈kvs,p.1=k) then kvs.map (·.1) else kvs.map (·.1)++[k]:=by
 unfold putD;split
 ·rw[List.map_map];apply aJ6;intro p _;simp only[Function.comp];split <;> rfl
 ·simp
section
variable {K:aJj}{μ:List Addr}{H:Hp}{κ:Type}[DecidableEq κ]{f:κ->D}
theorem B2(g:∀{a b},f a=f b->a=b)(k:κ){d:D}{v:V}(hd:Is K μ H d v):∀(kvs:List (D×D)) (kk:List (κ×V)),kvs.map (·.1)=kk.map (λp=>f p.1)->IsL K μ H (kvs.map (·.2)) (kk.map (·.2))->
  IsL K μ H ((open Classical in kvs.map λp=>if p.1=f k then (p.1,d) else p).map (·.2)) ((kk.map λp=>if p.1=k then (p.1,v) else p).map (·.2))
 | [],[],_,_=>by simp[IsL]
 | [],_::_,h,_=>by simp at h
 | _::_,[],h,_=>by simp at h
 | p::kvs,q::kk,h,l=>by
  simp only[List.map_cons,List.cons.injEq]at h;simp only[List.map_cons]at l⊢;unfold IsL at l⊢;obtain⟨w,r,e,i,l⟩:=l;simp only[List.cons.injEq]at e;obtain⟨rfl,rfl⟩:=e;have j:=B2 g k hd kvs kk h.2 l;by_cases c:q.1=k
  ·have:p.1=f k:=by rw[h.1,c]
   simp only[if_pos c,if_pos this];exact⟨_,_,rfl,hd,j⟩
  ·have:¬p.1=f k:=λz=>c (g (h.1.symm.trans z));simp only[if_neg c,if_neg this];exact⟨_,_,rfl,i,j⟩
theorem QH(m:∀{a b},f a=f b->a=b)(k:κ){v:V}(hd:Is K μ H d v){kk:List (κ×V)}(h:kvs.map (·.1)=kk.map (λp=>f p.1))(l:IsL K μ H (kvs.map (·.2)) (kk.map (·.2))):
  (putD kvs (f k) d).map (·.1)=(putK kk k v).map (λp=>f p.1)/\IsL K μ H ((putD kvs (f k) d).map (·.2)) ((putK kk k v).map (·.2)):=by
 have same:(∃p∈kvs,p.1=f k)↔(kk.any λn=>decide (n.1=k))=true:=by
  rw[List.any_eq_true];constructor
  ·rintro⟨p,i,e⟩;have:f k∈kk.map (λp=>f p.1):=by rw[<-h,<-e];exact aG0.mpr ⟨p,i,rfl⟩
   obtain⟨q,j,g⟩:=aG0.mp this;exact⟨q,j,by simpa using m g⟩
  ·rintro⟨q,j,e⟩;have:f q.1∈kvs.map (·.1):=by rw[h];exact aG0.mpr ⟨q,j,rfl⟩
   obtain⟨p,i,g⟩:=aG0.mp this;exact⟨p,i,by rw[g];simp at e;rw[e]⟩
 unfold putD putK;by_cases c:∃p∈kvs,p.1=f k
 ·rw[if_pos c,if_pos (same.mp c)];refine⟨?_,B2 m k hd kvs kk h l⟩
  have o:(open Classical in kvs.map λp=>if p.1=f k then (p.1,d) else p).map (·.1)=kvs.map (·.1):=by
   rw[List.map_map];apply aJ6;intro p _;simp only[Function.comp];split <;> rfl
  have g:(kk.map λp=>if p.1=k then (p.1,v) else p).map (λp=>f p.1)=kk.map (λp=>f p.1):=by
   rw[List.map_map];apply aJ6;intro p _;simp only[Function.comp];split <;> rfl
  rw[o,g,h]
 ·rw[if_neg c,if_neg (λz=>c (same.mpr z))];refine⟨by simp[h],?_⟩;simp only[List.map_append,List.map_cons,List.map_nil];exact iP l (mT hd)
end
theorem SV{o:MO}{ob:HO}(R:Rep K μ mh H)(h:μ[n]? =some a)(i:JZ (some ob))(l:oB K μ (upd H a ob) o a):Rep K μ (mh.set n o) (upd H a ob):=by
 have P:aK μ H μ (upd H a ob):=aK.set R h;refine⟨by simp[R.len],R.nd,λm b f d e=>?_⟩;by_cases c:m=n
 ·subst c;rw[h]at d;cases d;have g:m<mh.length:=by rw[<-R.len];exact(aFp.mp h).1
  rw[List.getElem?_set_self g]at e;cases e;exact l
 ·rw[List.getElem?_set_ne (Ne.symm c)]at e;exact(R.obj m b f d e).mono R P (aM λz=>c (MF R.nd d (by rw[z];exact h)))
theorem Rep.aEt{q:Addr}{o:MO}{ob:HO}(R:Rep K μ mh H)(a:H q=none)(l:oB K (μ++[q]) (upd H q ob) o q):Rep K (μ++[q]) (mh++[o]) (upd H q ob):=by
 have b:Rep K μ mh (upd H q ob):=R.new a;exact b.TF (λz=>R.ne a z rfl) l
def PD(t:Bool):WE:=λ_ mh Q=>Q (.ref mh.length) (mh++[.dic t []])
section
variable {X:Cx}{pos:Pos}
theorem RV:LE X (.Dict [] [] pos) (PD false):=PE.imp L3 λσ H Q h=>by
 obtain⟨μ,c,mh,R,a,E,h,F⟩:=h;intro p b;exact F _ _ h (μ++[p]) _ _ (aK.ME a b) (a.aEt b ⟨[],⟨[],bR,rfl,rfl⟩,by simp[IsL]⟩) (by unfold Is;exact⟨p,by rw[<-a.len];simp,rfl⟩)
end
theorem p5{k:Key}{v:V}(h:Is K μ H (bJ k) v):v=kV k:=by
 cases k <;> (simp only[bJ]at h;unfold Is at h;exact h)
theorem qY{K:aJj}{μ:List Addr}{H:Hp}:∀{ks:List Key} {vs:List V},IsL K μ H (ks.map bJ) vs->vs=ks.map kV
 | [],vs,h=>by simp only[List.map_nil]at h;unfold IsL at h;exact h
 | k::ks,vs,h=>by
  simp only[List.map_cons]at h;unfold IsL at h;obtain⟨v,r,rfl,i,l⟩:=h;rw[p5 i,qY l];rfl
theorem vN{v:V}{t:Bool}(R:Rep K μ mh H)(h:Is K μ H (.ref n) v)(e:mh[n]? =some (.dic t kvs)):∃a vs,v= .ref a/\μ[n]? =some a/\HQ (H a) (kvs.map (·.1)) vs t/\IsL K μ H (kvs.map (·.2)) vs:=by
 obtain⟨a,q,rfl⟩:=oI h;obtain⟨vs,b,l⟩:=R.obj n a _ q e;exact⟨a,vs,rfl,q,b,l⟩
def T6(o k d:D)(mh:MH)(Q:MH->Prop):Prop:=∃n kvs key,o= .ref n/\mh[n]? =some (.dic false kvs)/\k=bJ key/\kvs.length<sizeLine/\Q (mh.set n (.dic false (putD kvs k d)))
def GD(w g wi:WE):WS:=λE a mh=>w a mh λd b=>g a b λo c=>wi a c λi e=>T6 o i d e λf=>E.nx a f
section
variable {X:Cx}{pos pos' tpos:Pos}{o i e:Expr}{es:List Expr}{w wo wi:WE}{wa:WA}
theorem RI(W:X.A.units+64<cLine)(he:LE X e w)(ho:LE X o wo)(hi:LE X i wi)(G:swapsWith e (some (.Subscript o i pos')) pos.line X.env=pure false:=by rfl):LS X (.Assign [.Subscript o i pos'] e pos) (GD w wo wi):=
 PS.imp (QP (by lia) ho hi he G) λD σ H h=>by
  obtain⟨μ,g,mh,E,R,En,h,F⟩:=h;refine⟨μ,g,mh,_,R,En,h,λd m q μ1 v Y p y I=>?_⟩;refine⟨μ1,g,m,_,y,En.mono R p,q,λJ r L s Z H2 P2 R2 M=>?_⟩;refine⟨s,g,r,_,R2,En.mono R (p.trans P2),L,λdi t N b vi u x j O=>?_⟩;obtain⟨n,kvs,key,rfl,P,rfl,hz,Q⟩:=N;obtain⟨a,vs,rfl,z,⟨kk,S,B,rfl⟩,l⟩:=vN j (Is.mono R2 x _ _ M) P;cases p5 O;have T:=Is.mono y (P2.trans x) d v I;have C:aK b u b (upd u a (.dK (putK kk key v))):=aK.set j z;have ln:kk.length=kvs.length:=by have:=aGs List.length B;simp at this;lia
  obtain⟨U,V⟩:=QH (f:=bJ) C5 key T B l;have R4:Rep X.K b (t.set n (.dic false (putD kvs (bJ key) d))) (upd u a (.dK (putK kk key v))):=SV j z (by trivial) ⟨_,⟨_,bR,U,rfl⟩,V.mono j C⟩;have c:=((p.trans P2).trans x).trans C;exact⟨a,_,rfl,.k S (by lia),F.nx g _ Q b σ _ c R4 (En.mono R c)⟩
end
def iB(h:Heap)(d:Addr)(a:Array DictEntry)(ep:Nat):Prop:=∃o,h.get? d=some o/\o.ExactDict/\o.data= .dict a ep
variable{es:Array DictEntry}
theorem iB.keep{h h' :Heap}{d:Addr}{ep:Nat}(x:iB h d es ep)(k:∀o,h.get? d=some o->h'.get? d=some o):iB h' d es ep:=let ⟨o,a,b,c⟩:=x;⟨o,k o a,b,c⟩
section
variable {prog:Program}{w:World}{A:Around}{E:aJk}{s:Shared}{it d:Addr}{i ep:Nat}{es:Array DictEntry}
variable{Q:Option Value->Shared->Prop}
theorem LH{e:DictEntry}(b:Heap.IsKeyIter s.heap it d i es.size ep)(m:iB s.heap d es ep)(n:es[i]? =some e)
  (q:∀h',Heap.IsKeyIter h' it d (i+1) es.size ep->Heap.SameBut it s.heap h' ->Q (some e.key) {s with heap:=h'}):wpAny (model prog w) A (pyNext (.ref it)) Q E s:=by
 obtain⟨o,ho,h,hd⟩:=id b;obtain⟨od,f,p,g⟩:=id m;have ht:=b.typeIs;refine aFo (aHb (aGf ht aH6 (aGa aH6 ht F.entry_dict_keyiterator_next ?_ (F.args_dict_keyiterator_next_1 _))));refine aFo (aFq ?_);refine aFo (aFo (aFo (aHi ht (aFq ?_))));refine aFo (aI9 ho hd ?_);show wpAny _ _ (if (Value.ref d==Value.none)=true then _ else _) _ _ _;rw[if_neg (show ¬((Value.ref d==Value.none)=true) from Bool.false_ne_true)];refine aFo (aFq ?_);refine aFo (wpAny_dictEntries f g ?_);rw[if_neg (show ¬(((es.size:Int) !=(es.size:Int))=true) by simp)];refine aFo (aFq ?_);refine aFo (wpAny_dictEpoch f g ?_);rw[if_neg (show ¬(((ep:Int) !=(ep:Int))=true) by simp)];refine aFq ?_
 have r:(if (i:Int)<0 then none else es[(i:Int).toNat]?)=some e:=by
  rw[if_neg (by lia)];simpa using n
 show wpAny _ _ (match (if (i:Int)<0 then none else es[(i:Int).toNat]?) with | some e=>_ | none=>_) _ _ _;rw[r];refine aFo (aFo (aHi ht (aFq ?_)));refine aFo (wpAny_isOneOf_keyiter ht ?_);refine aFo (aJc ho hd (by show 1<4;lia) ?_)
 have j:(s.heap.update it (Obj.mapFields λx=>x.setIfInBounds 1 (rawInt ((i:Int)+1)))).get? it=some (Obj.mapFields (λx=>x.setIfInBounds 1 (rawInt ((i:Int)+1))) o):=by
  refine aGq _ ho ?_;obtain⟨c,k,l,sl⟩:=o;simp only at hd h;subst hd;rfl
 have a:Heap.IsKeyIter (s.heap.update it (Obj.mapFields λx=>x.setIfInBounds 1 (rawInt ((i:Int)+1)))) it d (i+1) es.size ep:=by
  refine⟨_,j,?_,?_⟩
  ·obtain⟨c,k,l,sl⟩:=o;simp only at hd h;subst hd;exact h
  ·obtain⟨c,k,l,sl⟩:=o;simp only at hd h;subst hd;rfl
 refine aFo (aGj (aFo (wpAny_isOneOf_keyiter (Heap.IsKeyIter.typeIs (s:={s with heap:=s.heap.update it (Obj.mapFields λx=>x.setIfInBounds 1 (rawInt ((i:Int)+1)))}) a) (aFq (aFq ⟨_,rfl,aFq (q _ a (aGw _ _ _))⟩)))))
theorem QD(g:A.handled=none)(a:Heap.IsKeyIter s.heap it d i es.size ep)(h:iB s.heap d es ep)(j:es[i]? =none)
  (q:∀h',Heap.ExtBut it s.heap h' ->Q none {s with heap:=h'}):wpAny (model prog w) A (pyNext (.ref it)) Q E s:=by
 obtain⟨o,ho,m,hd⟩:=id a;obtain⟨od,c,k,f⟩:=id h;have ht:=a.typeIs;refine aFo (aHb (aGf ht aH6 (aGa aH6 ht F.entry_dict_keyiterator_next ?_ (F.args_dict_keyiterator_next_1 _))));refine aFo (aFq ?_);refine aFo (aFo (aFo (aHi ht (aFq ?_))));refine aFo (aI9 ho hd ?_);show wpAny _ _ (if (Value.ref d==Value.none)=true then _ else _) _ _ _;rw[if_neg (show ¬((Value.ref d==Value.none)=true) from Bool.false_ne_true)];refine aFo (aFq ?_);refine aFo (wpAny_dictEntries c f ?_);rw[if_neg (show ¬(((es.size:Int) !=(es.size:Int))=true) by simp)];refine aFo (aFq ?_);refine aFo (wpAny_dictEpoch c f ?_);rw[if_neg (show ¬(((ep:Int) !=(ep:Int))=true) by simp)];refine aFq ?_
 have l:(if (i:Int)<0 then none else es[(i:Int).toNat]?)=none:=by
  rw[if_neg (by lia)];simpa using j
 show wpAny _ _ (match (if (i:Int)<0 then none else es[(i:Int).toNat]?) with | some e=>_ | none=>_) _ _ _;rw[l];refine aFo (aFo (aHi ht (aFq ?_)));refine aFo (aJc ho hd (by show 0<4;lia) ?_);refine aFo (aFo (aGg (aFo (aIo (show firstArgMember (Value.type "StopIteration") []=pure _ from rfl) (aGg ?_)))));refine aFo (wpAny_handled ?_);rw[show A.in1.handled=none from g];refine wpAny_throw (aFo (aIg (T:= "StopIteration") (b:=true) ⟨_,aFy _ rfl,rfl⟩ rfl (aFq (q _ ?_))));intro b u hb e;refine aFr _ (aFr _ ?_);rw[Heap.get?_update_ne _ _ _ _ hb];exact e
end
theorem iB.typeIs{s:Shared}{d:Addr}{ep:Nat}(x:iB s.heap d es ep):s.TypeIs (.ref d) "dict":=let ⟨o,a,b,c⟩:=x;⟨o,a,b.1⟩
section
variable {prog:Program}{w:World}{A:Around}{E:aJk}{s:Shared}{d:Addr}{ep:Nat}{es:Array DictEntry}
theorem LG{Q:aJk}(hd:(d==sysModules)=false)(b:iB s.heap d es ep)
  (q:Q (.ref s.heap.objs.size) {s with heap:=s.heap.push {cls:= .type "dict_keyiterator",data:= .fields #[.ref d,.int 0 0,.int es.size 0,.int ep 0]}}):wpAny (model prog w) A (pyIter (.ref d)) Q E s:=by
 obtain⟨o,ho,c,a⟩:=id b;refine aI7 b.typeIs F.slot_dict_iter (aGa F.slot_dict_iter b.typeIs F.entry_dict_iter ?_ (F.args_dict_iter_1 _));refine aFo (aFo (wpAny_notOrdered_dict b.typeIs (aFo (aFq (aFq ?_)))));refine aFo (aFq ?_);refine aFo (m:=Builtin.Dict.showsAll d) ?_;show wpAny _ _ (if (d==sysModules)=true then _ else _) _ _ _;rw[hd,if_neg Bool.false_ne_true];refine aFq (aFo (wpAny_dictEntries ho a (aFo (wpAny_dictEpoch ho a (aFo (aGg (aFq ⟨_,rfl,"dict_keyiterator",_,⟨_,aFy _ rfl,rfl⟩,aH6.lookup,q⟩)))))))
theorem QC(hd:(d==sysModules)=false):W.KdlSrc prog w "dict" d d es.size (λi v=>∃e,es[i]? =some e/\v=e.key) λh=>iB h d es ep where
 type:=λs x=>x.typeIs
 there:=λh x=>let ⟨o,a,_⟩:=x;⟨aG2 a,aG2 a⟩
 keep:=λh h' x k=>x.keep λo=>k d (.inl rfl) o
 notList:=rfl
 notTuple:=rfl
 hint:=λA E s Q x q=>W.kdl_hint_dict x.typeIs q
 iter:=λA s l x=>by
  refine⟨_,λi h=>Heap.IsKeyIter h s.heap.objs.size d i es.size ep/\iB h d es ep,λE Q q=>LG hd x q,?_,?_⟩
  ·have g:d≠s.heap.objs.size:=by obtain⟨o,a,_⟩:=x;exact aG9 (aG2 a)
   refine⟨λb hb=>by simp at hb;simp[hb],λi h h' st k=>⟨st.1.at λo=>k _ (by simp) o,st.2.keep λo=>k _ (by simp) o⟩,λi s1 Q E hi st q=>?_,λs1 Q E st q=>?_,λi s1 Q E st q=>wpAny_pyIter_keyiter st.1 q⟩
   ·have j:es[i]? =some es[i]:=by simp[hi]
    refine LH st.1 st.2 j λh' a b=>q _ h' s1.toks ⟨_,j,rfl⟩ ⟨a,st.2.keep λo e=>(b.2 d g).trans e⟩ λc o f e=>?_;simp at f;exact(b.2 c f).trans e
   ·refine QD l st.1 st.2 (by simp) λh' a=>q h' s1.toks λc o f e=>?_;simp at f;exact a c o f e
  ·refine⟨⟨_,aFy _ rfl,rfl,rfl⟩,x.keep λo e=>aFr _ e⟩
end
end D3
namespace TS
open PySem PySem.Spec PyProof.Rows L2
section
variable {prog:Program}{w:World}{A:Around}{E:aJk}{s:Shared}{lt:Value×Value->Value×Value->Bool}{r d:Addr}{n:Nat}{P:Nat->Value->Prop}{OK:Heap->Prop}{T:String}
theorem K2(O:Wk lt){Q:aJk}(src:W.KdlSrc prog w T r d n P OK)(l:A.handled=none)(ok:OK s.heap)(p:n<4000)
  (j:∀vs:List Value,ItemsOf P vs.toArray n->∀(c:Heap) (f:Nat),(∀b o,s.heap.get? b=some o->c.get? b=some o)->∃κ,2<=vs.length->∀h' :Heap,(∀b o,c.get? b=some o->h'.get? b=some o)->
   m8 prog w A.in1.in1 {s with heap:=h',toks:=f} κ lt (pairsOf vs)/\∀i t,i κ {s with heap:=h',toks:=f}->wpAny (model prog w) A.in1.in1 (keyKind' vs.toArray) i t {s with heap:=h',toks:=f})
  (h:∀vs:List Value,ItemsOf P vs.toArray n->∀out:List Value,out.Perm vs->out.Pairwise (λx y=>lt (y,y) (x,x)=false)->∀(c g:Heap) (f:Nat) (ep:Nat),(∀b o,s.heap.get? b=some o->c.get? b=some o)->(∀b o,c.get? b=some o->g.get? b=some o)->
   g.get? c.objs.size=some (seqObj "list" out.toArray ep)->Q (.ref c.objs.size) {s with heap:=g,toks:=f}):
  wpAny (model prog w) A (call (.builtin "sorted") [.ref r]) Q E s:=by
 have C:sizeLine=16777216:=aGe;refine aIh kind_sorted plain_sorted entry_sorted (args_sorted1 _) ?_;unfold Builtin.«sorted»;refine aFo (m:=checkCount "sorted" 1 1 _) (aFq ?_);refine aFo (W.kdu_collect src l ok (by lia) λc f a kept items=>?_);have hsz:a.toList.length=n:=by have:=items.1;simpa using this
 obtain⟨κ,j⟩:=j a.toList (by simpa using items) c f kept;refine aFo (aJg ?_ (by lia));have ob:(c.push (seqObj "list" a.toList.toArray 0)).get? c.objs.size=some (seqObj "list" a.toList.toArray 0):=aFy _ rfl;refine aFo (aGj (aGa slot_list_sort ⟨_,ob,rfl⟩ entry_list_sort (EN (κ:=κ) (s:={s with heap:=c.push (seqObj "list" a.toList.toArray 0),toks:=f}) O ob (by lia) (λg h' k=>?_) λout u v=>⟨_,rfl,aFq ⟨_,rfl,?_⟩⟩) (args_list_sort _)))
 ·obtain⟨z,B⟩:=j g h' λb o e=>k b o (aG9 (aG2 e)) (aFr _ e);exact⟨z,λi q=>B i _ q⟩
 ·obtain⟨ep,he⟩:=sortedHeap_at (out:=out.toArray) ob;refine h a.toList (by simpa using items) out u v c _ f ep kept (λb o e=>?_) he;have lb:=aG2 e;have hb:b<(c.push (seqObj "list" a.toList.toArray 0)).objs.size:=by rw[size_push'];exact aGt lb
  rw[sortedHeap_old (Nat.ne_of_lt lb) hb];exact aFr _ e
end
end TS
namespace D3
open PySem PySem.Spec PyProof.Rows L2
def D6:OA:=λxs mh Q=>∃n t kvs,xs=[.ref n]/\mh[n]? =some (.dic t kvs)/\kvs.length<4000/\F0 (kvs.map (·.1))/\∀fs:List D,fs.Perm (kvs.map (·.1))->fs.Pairwise (λd e=>lx (enc e) (enc d)=false)->Q (.ref mh.length) (mh++[.lst fs])
theorem UC{K:aJj}{μ:List Addr}{H:Hp}(k:Key):Is K μ H (bJ k) (kV k):=by
 cases k <;> (simp only[bJ];unfold Is;rfl)
theorem sV{K:aJj}{μ:List Addr}{H:Hp}:∀ks:List Key,IsL K μ H (ks.map bJ) (ks.map kV)
 | []=>by simp[IsL]
 | k::ks=>by simp only[List.map_cons];unfold IsL;exact⟨_,_,rfl,UC k,sV ks⟩
theorem B3{P:Program}{w:World}{k:Key}{u:Value}(h:(aW P w).is k u=true):RelV (kV k) u:=by
 rcases bS (k:=k) (v:=u) h with ⟨i,t,rfl,rfl⟩ | ⟨x,t,rfl,rfl⟩
 ·exact⟨t,rfl⟩
 ·exact⟨t,rfl⟩
theorem uT{P:Program}{w:World}:∀{a:List DictEntry} {vs:List (Key×Value)} {kk:List (Key×V)},Pairs (aW P w) a vs->KV kk vs->Vals (kk.map λp=>kV p.1) (a.map (·.key))
 | [],vs,kk,p,r=>by cases p;cases r;exact .nil
 | e::a,vs,kk,p,r=>by
  cases p with
  | cons b g c=>
   cases r with
   | cons d f=>
    simp only[List.map_cons];refine .cons ?_ (uT c f);rw[d.1];exact B3 b
theorem xW{K:aJj}{μ:List Addr}{H:Hp}:∀kk:List (Key×V),IsL K μ H (kk.map λp=>bJ p.1) (kk.map λp=>kV p.1)
 | []=>by simp[IsL]
 | p::kk=>by simp only[List.map_cons];unfold IsL;exact⟨_,_,rfl,UC _,xW kk⟩
theorem xV{K:aJj}{μ:List Addr}{H:Hp}:∀{kk:List (List Key×V)} {xs:List (List Key×Addr×Value)},KT H kk xs->IsL K μ H (kk.map λp=>.tup (p.1.map bJ)) (xs.map λx=>.ref x.2.1)
 | [],xs,r=>by cases r;simp[IsL]
 | p::kk,xs,r=>by
  cases r with
  | cons a b=>
   simp only[List.map_cons];unfold IsL;refine⟨_,_,rfl,?_,xV b⟩;unfold Is;exact⟨_,_,rfl,.inl (.inl a.2.1),sV _⟩
theorem gQ:∀(xs:List (List Key×Addr×Value)),Vals (xs.map λx=>V.ref x.2.1) (xs.map λx=>Value.ref x.2.1)
 | []=>.nil
 | x::xs=>.cons rfl (gQ xs)
theorem SU{X:Cx}{pins:List (Addr×Obj)}{σ:L2.St}{H:Hp}{s:Shared}{μ:List Addr}{a:Addr}{ks:List D}{vs:List V}{t:Bool}(I:Inv X pins σ H s)(g:HQ (H a) ks vs t):
  ∃(b:Array DictEntry) (ep:Nat) (h:List V),(a==sysModules)=false/\iB s.heap a b ep/\IsL X.K μ H ks h/\Vals h (b.toList.map (·.key)):=by
 cases t with
 | false=>
  obtain⟨kk,e,rfl,rfl⟩:=g;obtain⟨z,hd,vs,r,o,b,ep,c,d,f,i,j,k⟩:=UH I.bY e;exact⟨b,ep,_,hd,⟨o,c,d,f⟩,xW kk,uT j r⟩
 | true=>
  obtain⟨kk,e,rfl,rfl⟩:=g;obtain⟨z,hd,xs,r,o,b,ep,c,d,f,i,j⟩:=UG I.bY e;refine⟨b,ep,_,hd,⟨o,c,d,f⟩,xV r,?_⟩;rw[i,List.map_map];exact gQ xs
section
variable {X:Cx}
theorem FU(hu:X.A.units+64<cLine)(Y:X.calm=true):cX X (.builtin "sorted") (fV X.K D6):=by
 intro pins s σ H xs us Q I r q;obtain⟨μ,mh,ds,R,N,Z,⟨n,t,kvs,rfl,e,h64,U,q⟩,F⟩:=q;obtain⟨v,rfl,iv⟩:=rS Z;obtain⟨a,vs,rfl,hn,hv,l0⟩:=vN N iv e;obtain⟨u,rfl,ru⟩:=vals1 r;cases ru;obtain⟨f,ep,ws,hd,D,l,O⟩:=SU (μ:=μ) I hv;have E:=lL I (kvs.map (·.1)) (yN U) l O;have P:f.size=kvs.length:=by have:=bG E;simpa using this
 have u2:X.A.in1.in1.units+40<cLine:=by show X.A.units+1+1+40<_;lia
 have y:∀vs:List Value,ItemsOf (λi v=>∃e,f[i]? =some e/\v=e.key) vs.toArray f.size->vs=f.toList.map (·.key):=λvs h=>by
  apply aIt;intro i;have hs:vs.length=f.size:=by simpa using h.1
  by_cases hi:i<f.size
  ·have B :i<vs.length:=by lia
   obtain⟨e,p,g⟩:=h.2 i vs[i] (by simp[B]);rw[List.getElem?_map,List.getElem?_eq_getElem B];simp only[Array.getElem?_toList,p,Option.map_some,g]
  ·rw[List.getElem?_eq_none (by lia),List.getElem?_eq_none (by simp;lia)]
 refine TS.K2 (E9 s.heap) (QC (ep:=ep) hd) (I.ok.hd Y) D (by lia) (λvs hi p x kept=>?_) λvs hi out S G p g x J kept j he=>?_
 ·cases y vs hi;by_cases g:2<=(f.toList.map (·.key)).length
  ·obtain⟨κ,hk⟩:=t8 (prog:=X.prog) (w:=X.w) (A:=X.A.in1.in1) (s:={s with toks:=x}) u2 U E g;exact⟨κ,λ_ h' k=>hk h' λb o e=>k b o (kept b o e)⟩
  ·exact⟨general',λz=>absurd z g⟩
 ·cases y vs hi;obtain⟨ts,T,t2,t3,t4⟩:=U1 l O E;rw[<-t3]at S;obtain⟨c,L,V⟩:=lU (·.u) S ts rfl;have C:∀t∈c,Is X.K μ H t.d t.v/\RelV t.v t.u/\Vl s.heap t.d t.u:=λt ht=>t4 t (L.mem_iff.mp ht);have pd:(c.map (·.d)).Perm (kvs.map (·.1)):=by rw[<-T];exact L.map _
  have pw:(c.map (·.d)).Pairwise (λd e=>lx (enc e) (enc d)=false):=by
   rw[<-V]at G;rw[List.pairwise_map]at G⊢;refine G.imp_of_mem λ{t t'} m m' M=>?_;have e1:dv s.heap t.u=t.d:=n5 (C t m).2.2;have e2:dv s.heap t'.u=t'.d:=n5 (C t' m').2.2;unfold ltV at M;rw[e1,e2]at M;exact M
  have ln:(c.map (·.v)).length<=sizeLine:=by
   have a1:=L.length_eq;have a2:=aGs List.length T;have a3:=aGe;simp at a2⊢
   lia
  have W:Inv X pins σ H {s with heap:=p,toks:=x}:=I.kept (t' :=x) kept
  have I1:Inv X pins σ (upd H p.objs.size (.lst (c.map (·.v)))) {s with heap:=g,toks:=x}:=
   W.laid (h' :=g) (t' :=x) j (aFw _) ⟨ln,out,J,by rw[<-V];exact tT λt ht=>(C t ht).2.1,he⟩
  exact⟨.ref p.objs.size,_,I1,rfl,gO N F (zZ λt ht=>(C t ht).1) (q _ pd pw) _ (W.bY.fresh (aFw _))⟩
end
def f6(mh:MH)(b:Nat)(mh' :MH):Prop:=∃a T,mh' =a++T/\cT mh b a
variable{mh:MH}{b:Nat}
theorem f6.refl(h:wU mh b):f6 mh b mh:=⟨mh,[],by simp,.refl h⟩
variable{mh':MH}
theorem f6.le(h:f6 mh b mh'):mh.length<=mh'.length:=by
 obtain⟨a,T,rfl,t⟩:=h;rw[List.length_append,t.len];lia
theorem f6.blt(h:f6 mh b mh'):b<mh.length:=by
 obtain⟨a,T,rfl,t⟩:=h;rw[<-t.len];exact t.1.lt
theorem f6.bag(h:f6 mh b mh'):wU mh' b:=by
 obtain⟨a,T,rfl,⟨c,m,e,r⟩,_⟩:=h;exact⟨c,m,by rw[List.getElem?_append_left (List.getElem?_eq_some_iff.mp e).1];exact e,r⟩
theorem f6.to{mh mh' a:MH}(h:f6 mh b mh')(t:cT mh' b a):f6 mh b a:=by
 have hb:=h.blt;obtain⟨d,T,rfl,g⟩:=h;have f:b<d.length:=by rw[g.len];exact hb
 obtain⟨⟨c,m,e,r⟩,o,rfl⟩:=t;rw[List.set_append_left _ _ f]at e⊢;refine⟨d.set b o,T,rfl,g.trans ⟨⟨c,m,?_,r⟩,o,rfl⟩⟩;rw[List.getElem?_append_left (by simpa using f)]at e;exact e
theorem f6.push(h:f6 mh b mh')(o:MO):f6 mh b (mh' ++[o]):=by
 obtain⟨a,T,rfl,c⟩:=h;exact⟨a,T++[o],by simp,c⟩
theorem f6.set{b n:Nat}(h:f6 mh b mh')(d:mh.length<=n)(o:MO):f6 mh b (mh'.set n o):=by
 obtain⟨a,T,rfl,c⟩:=h;refine⟨a,T.set (n-a.length) o,?_,c⟩;rw[List.set_append_right _ _ (by rw[c.len];exact d)]
theorem GK{a:Int}{Q:DK}(h:f6 mh b mh')(d:1<=a)(e:a<=1073741789)
  (q:∀r c,0<=r->r<a->f6 mh b c->c.length=mh'.length->(∀n,mh.length<=n->c[n]? =mh'[n]?)->Q (.int r) c):jF [.ref b,.int a] mh' Q:=
 ⟨b,a,rfl,d,e,h.bag,λr c f g t=>q r c f g (h.to t) t.len λn i=>t.other (by have:=h.blt;lia)⟩
open Classical in
noncomputable def dG:List (D×D)->D->Option D
 | [],_=>none
 | p::r,k=>if p.1=k then some p.2 else dG r k
theorem yZ{K:aJj}{μ:List Addr}{H:Hp}(key:Key):∀{kvs:List (D×D)} {kk:List (Key×V)},kvs.map (·.1)=kk.map (λp=>bJ p.1)->IsL K μ H (kvs.map (·.2)) (kk.map (·.2))->
  (qP kk key=none/\dG kvs (bJ key)=none)\/∃d v,qP kk key=some v/\dG kvs (bJ key)=some d/\Is K μ H d v
 | [],[],_,_=>.inl ⟨rfl,rfl⟩
 | [],_::_,h,_=>by simp at h
 | _::_,[],h,_=>by simp at h
 | p::kvs,q::kk,h,l=>by
  simp only[List.map_cons,List.cons.injEq]at h;simp only[List.map_cons]at l;unfold IsL at l;obtain⟨w,r,e,i,l⟩:=l;simp only[List.cons.injEq]at e;obtain⟨rfl,rfl⟩:=e;by_cases a:q.1=key
  ·right;have b:p.1=bJ key:=by rw[h.1,a]
   exact⟨p.2,q.2,pD a,by simp[dG,b],i⟩
  ·have b:¬p.1=bJ key:=λz=>a (C5 (h.1.symm.trans z));rw[pE a];simp only[dG,if_neg b];exact yZ key h.2 l
section
variable {X:Cx}
theorem SG(m:X.A.units+64<cLine):UJ X (λx y H Q=>∃a v,x= .ref a/\F6 H a y (some v)/\Q v H):=by
 intro b c pins s σ H x y v u Q I i j h k;obtain⟨a,z,rfl,g,q⟩:=h;cases i;have f:=DO I g;unfold subscriptTail;refine aFo ?_;rw[getitemInPython_of_ne f.not_modules];refine aFo (aJ3 f PySem.F.slot_dict_getitem.lookup ?_)
 have fin:wpAny (model X.prog X.w) X.A (subscripted c false (.ref a) u) (λr d=>wpAny (model X.prog X.w) X.A (letTemporaryGo b (.ref a) r >>=λ_=>pure r) (EP X pins σ Q) X.xe d) X.xe s:=by
  rw[k];exact wpAny_operating (JM (by lia) I g j λn o l e =>aFo (wpAny_letTemporaryGo (aFq ⟨z,H,l,e,q⟩)))
 first
  | exact aFq (aFo fin)
  | exact aFo (aFq (aFo fin))
  | exact aFo fin
def WM:O2:=λx y mh Q=>∃n kvs key d,x= .ref n/\mh[n]? =some (.dic false kvs)/\y=bJ key/\dG kvs y=some d/\Q d mh
theorem ixD(h:X.A.units+64<cLine):UJ X (bB X.K WM):=by
 intro b c pins s σ H x y v u Q I i j q m;obtain⟨μ,mh,dx,D,R,f,o,p,⟨n,kvs,key,d,rfl,e,rfl,hd,q⟩,F⟩:=q;obtain⟨a,vs,rfl,E,⟨kk,r,t,rfl⟩,l⟩:=vN f o e;cases p5 p
 rcases yZ key t l with ⟨_,z⟩ | ⟨d',w,B,g,C⟩
 ·rw[hd]at z;cases z
 ·rw[hd]at g;cases g;exact SG h b c pins s σ H _ _ v u Q I i j ⟨a,w,rfl,by rw[<-B];exact .k r,F.here f q C⟩ m
end
end D3
namespace TS
open PySem PySem.Spec PyProof.Rows L2
section
variable {prog:Program}{w:World}{A:Around}{E:aJk}{s:Shared}{lt:Value×Value->Value×Value->Bool}
theorem K0(O:Wk lt){Q:aJk}{r:Addr}{Ok:List Value->Shared->Prop}
  (c:∀(E:aJk) (R:List Value->Shared->Prop),(∀vs a,Ok vs a ->R vs a)->wpAny (model prog w) A.in1 (collect (.ref r)) R E s)
  (g:∀vs a,Ok vs a ->vs.length<4000)
  (i:∀vs a,Ok vs a ->∃κ,2<=vs.length->∀h' :Heap,(∀b o,a.heap.get? b=some o->h'.get? b=some o)->
   m8 prog w A.in1.in1 {a with heap:=h'} κ lt (pairsOf vs)/\∀f j,f κ {a with heap:=h'}->wpAny (model prog w) A.in1.in1 (keyKind' vs.toArray) f j {a with heap:=h'})
  (h:∀vs a,Ok vs a ->∀out:List Value,out.Perm vs->out.Pairwise (λx y=>lt (y,y) (x,x)=false)->∀(d:Heap) (ep:Nat),(∀b o,a.heap.get? b=some o->d.get? b=some o)->
   d.get? a.heap.objs.size=some (seqObj "list" out.toArray ep)->Q (.ref a.heap.objs.size) {a with heap:=d}):
  wpAny (model prog w) A (call (.builtin "sorted") [.ref r]) Q E s:=by
 have u:sizeLine=16777216:=aGe;refine aIh kind_sorted plain_sorted entry_sorted (args_sorted1 _) ?_;unfold Builtin.«sorted»;refine aFo (m:=checkCount "sorted" 1 1 _) (aFq ?_);refine aFo (c _ _ λvs a ok=>?_);have hsz:=g vs a ok;obtain⟨κ,i⟩:=i vs a ok;refine aFo (aJg ?_ (by lia));have ob:(a.heap.push (seqObj "list" vs.toArray 0)).get? a.heap.objs.size=some (seqObj "list" vs.toArray 0):=aFy _ rfl;refine aFo (aGj (aGa slot_list_sort ⟨_,ob,rfl⟩ entry_list_sort (EN (κ:=κ) (s:={a with heap:=a.heap.push (seqObj "list" vs.toArray 0)}) O ob (by lia) (λd h' k=>?_) λout l n=>⟨_,rfl,aFq ⟨_,rfl,?_⟩⟩) (args_list_sort _)))
 ·obtain⟨p,t⟩:=i d h' λb o e=>k b o (aG9 (aG2 e)) (aFr _ e);exact⟨p,λf q=>t f _ q⟩
 ·obtain⟨ep,he⟩:=sortedHeap_at (out:=out.toArray) ob;refine h vs a ok out l n _ ep (λb o e=>?_) he;have lb:=aG2 e;have hb:b<(a.heap.push (seqObj "list" vs.toArray 0)).objs.size:=by rw[size_push'];exact aGt lb
  rw[sortedHeap_old (Nat.ne_of_lt lb) hb];exact aFr _ e
end
end TS
namespace D3
open PySem PySem.Spec PyProof.Rows L2
section
variable {X:Cx}
variable{pins:List (Addr×Obj)}
theorem Inv.drawn{σ:L2.St}{H:Hp}{s a :Shared}(I:Inv X pins σ H s)(hg:a.gens=s.gens)(ho:a.os=s.os)(e:∀b o,s.heap.get? b=some o->a.heap.get? b=some o):Inv X pins σ H a :=by
 have J:Inv X pins σ H {s with heap:=a.heap,toks:=a.toks}:=I.kept (t' :=a.toks) e;obtain⟨f,g,h,i,j,k,l,m,n,c,d⟩:=J;exact⟨f,by rw[ho];exact g,by rw[hg];exact h,i,j,k,l,m,n,c,d⟩
theorem w4{P:Program}{w:World}:∀{ks:List Key} {us:List Value},Vals (ks.map kV) us->ks.length=us.length/\∀(i:Nat) (v:Value),us[i]? =some v->∃k,ks[i]? =some k/\(aW P w).is k v=true/\v.scannable=true
 | [],us,r=>by cases r;exact⟨rfl,λi v h=>by simp at h⟩
 | k::ks,us,r=>by
  cases r with
  | cons a b=>
   obtain⟨e,f⟩:=w4 (P:=P) (w:=w) b;refine⟨by simp[e],λi v h=>?_⟩
   cases i with
   | zero=>
    simp at h;subst h;refine⟨k,rfl,xS a,?_⟩
    cases k with
    | inl i=>obtain⟨t,rfl⟩:=a;rfl
    | inr x=>obtain⟨t,rfl⟩:=a;rfl
   | succ i=>exact f i v (by simpa using h)
theorem VD{σ:L2.St}{H:Hp}{s:Shared}{p:Addr}{ks:List Key}(I:Inv X pins σ H s)(e:H p=some (A3 X.prog X.w p ks)):ST.gP (aW X.prog X.w) (ST.hC X.w) s.heap p ks:=(I.bY p _ e).1
theorem pC{P:Program}{w:World}{h:Heap}:∀{ps:List (Key×Value)},(∀p∈ps,(aW P w).is p.1 p.2=true)->cZ h (ps.map λp=>bJ p.1) (ps.map (·.2))
 | [],_=>by simp[cZ]
 | p::ps,hp=>by
  simp only[List.map_cons];unfold cZ;refine⟨_,_,rfl,?_,pC λq c=>hp q (aFt _ c)⟩;have:=hp p aFs
  rcases bS (k:=p.1) (v:=p.2) this with ⟨i,t,a,b⟩ | ⟨x,t,a,b⟩
  ·rw[a,b];simp only[bJ];unfold Vl;exact⟨t,rfl⟩
  ·rw[a,b];simp only[bJ];unfold Vl;exact⟨t,rfl⟩
theorem KP{ds a:List D}(U:F0 ds)(p:a.Perm ds):F0 a:=by
 rcases U with ⟨c,h⟩ | ⟨c,b,h⟩
 ·exact .inl ⟨c,λd hd=>h d (p.mem_iff.mp hd)⟩
 ·exact .inr ⟨c,b,λd hd=>h d (p.mem_iff.mp hd)⟩
theorem mH(hu:X.A.units+64<cLine)(K:X.calm=true):cX X (.builtin "sorted") (λxs H Q=>∃(p:Addr) (ks:List Key),xs=[.ref p]/\H p=some (A3 X.prog X.w p ks)/\ks.length<4000/\F0 (ks.map bJ)/\
  ∀f :List Key,f.Perm ks->(f.map bJ).Pairwise (λd e=>lx (enc e) (enc d)=false)->∀q,H q=none->Q (.ref q) (upd H q (.lst (f.map kV)))):=by
 intro pins s σ H xs us Q I r q;obtain⟨p,ks,rfl,e,L,U,q⟩:=q;obtain⟨u,rfl,M⟩:=vals1 r;cases M;have N:=VD I e;have sz:=aGe;have O:X.A.in1.in1.units+40<cLine:=by show X.A.units+1+1+40<_;lia
 refine TS.K0 (A:=X.A) (E9 s.heap) (Ok:=λvs c =>ST.ZS (aW X.prog X.w) ks vs/\c.gens=s.gens/\c.os=s.os/\∀b o,s.heap.get? b=some o->c.heap.get? b=some o)
  (λE R S=>ST.BU (A:=X.A.in1) N (I.ok.hd K) (by lia) λc vs T hg ho i=>S vs c ⟨T,hg,ho,i⟩) ?_ ?_ ?_
 ·rintro vs c ⟨⟨ps,V,j,n⟩,_⟩;have W:=aGs List.length V;have Y:=j.length_eq;simp at W Y
  lia
 ·rintro vs c ⟨⟨ps,rfl,j,n⟩,hg,ho,i⟩;have Z:cZ s.heap (ps.map λp=>bJ p.1) (ps.map (·.2)):=pC n;have U2:F0 (ps.map λp=>bJ p.1):=KP U (by have:=j.map bJ;simpa[Function.comp_def] using this);by_cases l:2<=(ps.map (·.2)).length
  ·obtain⟨κ,y⟩:=t8 (prog:=X.prog) (w:=X.w) (A:=X.A.in1.in1) (s:={c with heap:=s.heap}) O U2 Z l;exact⟨κ,λ_ h' k=>y h' λb o e=>k b o (i b o e)⟩
  ·exact⟨general',λz=>absurd z l⟩
 ·rintro vs c ⟨⟨ps,rfl,j,n⟩,hg,ho,i⟩ out p1 B l ep kept he;obtain⟨a,C,D⟩:=lU (·.2) p1 ps rfl;have x:∀p∈a,(aW X.prog X.w).is p.1 p.2=true:=λp hp=>n p (C.mem_iff.mp hp);have J:Inv X pins σ H c :=Inv.drawn I hg ho i;have F:(a.map (·.1)).Perm ks:=(C.map _).trans j
  have pw:((a.map (·.1)).map bJ).Pairwise (λd e=>lx (enc e) (enc d)=false):=by
   rw[<-D]at B;rw[List.pairwise_map]at B;rw[List.pairwise_map,List.pairwise_map];refine B.imp_of_mem λ{t t'} m m' G=>?_
   have v1:Vl s.heap (bJ t.1) t.2:=by
    have:=pC (h:=s.heap) (ps:=[t]) (P:=X.prog) (w:=X.w) λq g=>by simp at g;subst g;exact x _ m
    simp only[List.map_cons,List.map_nil]at this;unfold cZ at this;obtain⟨u,r,e,v,_⟩:=this;cases e;exact v
   have v2:Vl s.heap (bJ t'.1) t'.2:=by
    have:=pC (h:=s.heap) (ps:=[t']) (P:=X.prog) (w:=X.w) λq g=>by simp at g;subst g;exact x _ m'
    simp only[List.map_cons,List.map_nil]at this;unfold cZ at this;obtain⟨u,r,e,v,_⟩:=this;cases e;exact v
   unfold ltV at G;rw[n5 v1,n5 v2]at G;exact G
  have ln:((a.map (·.1)).map kV).length<=sizeLine:=by have:=F.length_eq;simp at*;lia
  have vv:Vals ((a.map (·.1)).map kV) out:=by
   rw[<-D];clear C D F pw ln
   induction a with
   | nil=>exact .nil
   | cons p a ih=>exact .cons (B3 (x p aFs)) (ih λq g=>x q (aFt _ g))
  have I1:Inv X pins σ (upd H c.heap.objs.size (.lst ((a.map (·.1)).map kV))) {c with heap:=l}:=
   J.laid (h' :=l) (t' :=c.toks) kept (aFw _) ⟨ln,out,ep,vv,he⟩
  exact⟨.ref c.heap.objs.size,_,I1,rfl,q _ F pw _ (J.bY.fresh (aFw _))⟩
end
theorem E2{ks:List Key}(h:ks.Nodup)(k:Key):(ST.mJ ks k).Nodup:=by
 unfold ST.mJ;split
 ·exact h
 ·rename_i hk;rw[List.nodup_append];exact⟨h,by simp,λa ha b hb=>by simp at hb;subst hb;exact λz=>hk (z▸ha)⟩
theorem gJ:∀{xs ks:List Key},ks.Nodup->(ST.aR ks xs).Nodup
 | [],ks,h=>h
 | x::xs,ks,h=>gJ (xs:=xs) (E2 h x)
def WQ:Expr->Bool
 | .Starred .. =>false
 | _=>true
def IM:List Expr->Bool
 | []=>true
 | e::es=>WQ e && IM es
theorem tX{e:Expr}{a:List Expr}{env:Env}(h:WQ e=true):starEach (e::a) env=(false,eval e env)::starEach a env:=by
 cases e <;> first | rfl | (simp[WQ]at h)
theorem pF{pos:Pos}{env:Env}:∀{a:List Expr},IM a=true->(backTo pos (starEach a env)).any (·.1)=false
 | [],_=>rfl
 | e::a,h=>by
  unfold IM at h;rw[Bool.and_eq_true]at h;rw[tX h.1];show (false || (backTo pos (starEach a env)).any (·.1))=false;rw[pF h.2];rfl
section
variable {X:Cx}{e:Expr}{es:List Expr}{w:WE}{wr wa:WA}{pos p:Pos}{x:Str}
theorem aF2(ha:LE X e w)(a:LA X es wr)(h:WQ e=true:=by rfl):LA X (e::es) (aA w wr):=SA ha a (tX h)
theorem aBs{k:Nat}{ps:List Str}{s:OA}(F:Fn X.prog X.w X.K X.mg X.base k x ps s)(b:gC k X.A)(ha:LA X (e::es) wr)(hg:Gl X x:=by rfl)(a:(x==("__debug__":Str))=false:=by decide)
  (h:WQ e=true:=by rfl) (c:IM es=true:=by rfl):LE X (.Call (.Name x p) (e::es) [] pos) (aF s wr):=MX F b ha hg a (tX h) (pF c)
theorem FD{id:String}{f:OA}(b:cX X (.builtin id) (fV X.K f))(c:X.mg x=none)(d:bootBuiltins x=some (.builtin id))(ha:LA X (e::es) wr)(hg:Gl X x:=by rfl)(g:x≠ "__name__":=by decide)(a:(x==("__debug__":Str))=false:=by decide)
  (h:WQ e=true:=by rfl) (i:IM es=true:=by rfl):LE X (.Call (.Name x p) (e::es) [] pos) (aF f wr):=aBt b c d ha hg g a (tX h) (pF i)
theorem aF1{T:String}{f:OA}(b:cX X (.type T) (fV X.K f))(c:X.mg x=none)(d:bootBuiltins x=some (.type T))(ha:LA X (e::es) wr)(hg:Gl X x:=by rfl)(g:x≠ "__name__":=by decide)(a:(x==("__debug__":Str))=false:=by decide)
  (h:WQ e=true:=by rfl) (i:IM es=true:=by rfl):LE X (.Call (.Name x p) (e::es) [] pos) (aF f wr):=aBr b c d ha hg g a (tX h) (pF i)
end
def G1:Expr->Bool
 | .ListComp .. =>false
 | .SetComp .. =>false
 | .DictComp .. =>false
 | _=>true
theorem BR{e:Expr}{t:Option Expr}{l:Nat}{env:Env}(h:G1 e=true):swapsWith e t l env=pure false:=by
 cases e <;> first | rfl | (simp[G1]at h)
section
variable {X:Cx}{e:Expr}{w:WE}{pos:Pos}
theorem aEv(i:Nat){x:Str}{a :Pos}(hN:X.N.Nodup)(he:LE X e w)(hi:X.N[i]? =some x:=by rfl)(b:Loc X.env.scope x:=by first | exact Or.inl rfl | exact Or.inr rfl)(c:G1 e=true:=by rfl)(d:X.fn x=true\/X.env.scope.names.lookup x=some .local:=by first | exact .inl rfl | exact .inr rfl | assumption):
  LS X (.Assign [.Name x a] e pos) (bX w (gN i)):=W5 i hN he hi b (BR c) d
theorem aEw(he:LE X e w)(a:G1 e=true:=by rfl):LS X (.Expr e pos) (iN w):=RJ he (BR a)
end
section
variable {ρ:eK}{mh:MH}{Q:DK}{E:fY}
@[simp] theorem aDz (w f wi:WE):GD w f wi E ρ mh=(w ρ mh λd a=>f ρ a λo b=>wi ρ b λi c=>T6 o i d c λe=>E.nx ρ e):=rfl
@[simp] theorem s_dic (t:Bool):PD t ρ mh Q=(Q (.ref mh.length) (mh++[.dic t []])):=rfl
end
variable{x:Str}
theorem ZP{K:aJj}{h:Heap}{mg:aJm}{i:Int}{t:Tok}(KX:K.In h)(G:h.Ns mainGlobals mg)(e:PySem.W.nsIn K mainGlobals x=some (some (.int i t))):kS K mg x (.int i):=
 ⟨.int i,_,aJh KX G e,⟨t,rfl⟩,λ_ _=>.int⟩
theorem i3(d e:D)(ds:List D):n6 (d::e::ds) 1=some e:=by
 have:=iT (xs:=d::e::ds) (j:=1) (v:=e) rfl;simpa using this
theorem A0(d e f:D)(ds:List D):n6 (d::e::f::ds) 2=some f:=by
 have:=iT (xs:=d::e::f::ds) (j:=2) (v:=f) rfl;simpa using this
variable{α:Type}
theorem AY{f:α->D}{ss:List α}{i:Int}(h0:0<=i)(a:i<ss.length):∃v,v∈ss/\ss[i.toNat]? =some v/\n6 (ss.map f) i=some (f v):=by
 have hi:i.toNat<ss.length:=by lia
 refine⟨ss[i.toNat],aHx _,by simp[hi],?_⟩;have e:i=((i.toNat:Nat):Int):=by lia
 have:=iT (xs:=ss.map f) (j:=i.toNat) (v:=f (ss[i.toNat])) (by rw[List.getElem?_map,List.getElem?_eq_getElem hi];rfl);rw[<-e]at this;exact this
open Classical in
theorem GH(k v:D):∀kvs:List (D×D),(∃p∈kvs,p.1=k)->dG (kvs.map λp=>if p.1=k then (p.1,v) else p) k=some v
 | [],h=>by obtain⟨p,b,_⟩:=h;cases b
 | p::kvs,h=>by
  rw[List.map_cons];by_cases e:p.1=k
  ·simp[dG,e]
  ·simp only[dG,if_neg e];refine GH k v kvs ?_;obtain⟨r,c,a⟩:=h;rcases aFx.mp c with z | z
   ·subst z;exact absurd a e
   ·exact⟨r,z,a⟩
theorem GI(k v:D):∀kvs:List (D×D),(¬∃p∈kvs,p.1=k)->dG (kvs++[(k,v)]) k=some v
 | [],h=>by simp[dG]
 | p::kvs,h=>by
  have e:¬p.1=k:=λz=>h ⟨p,aFs,z⟩;rw[List.cons_append];simp only[dG,if_neg e];exact GI k v kvs λa=>by obtain⟨r,b,c⟩:=a;exact h ⟨r,aFt _ b,c⟩
theorem PH(kvs:List (D×D))(k v:D):dG (putD kvs k v) k=some v:=by
 classical
 unfold putD;by_cases h:∃p∈kvs,p.1=k
 ·rw[if_pos h];exact GH k v kvs h
 ·rw[if_neg h];exact GI k v kvs h
open Classical in
theorem oD(k v:D){a :D}(b:a ≠k):∀kvs:List (D×D),dG (kvs.map λp=>if p.1=k then (p.1,v) else p) a =dG kvs a
 | []=>rfl
 | p::kvs=>by
  rw[List.map_cons];by_cases e:p.1=k
  ·have c:¬p.1=a :=λz=>b (z.symm.trans e);simp only[if_pos e,dG,if_neg c,oD k v b kvs]
  ·simp only[if_neg e,dG,oD k v b kvs]
theorem tU(k v:D){a :D}(b:a ≠k):∀kvs:List (D×D),dG (kvs++[(k,v)]) a =dG kvs a
 | []=>by simp[dG,Ne.symm b]
 | p::kvs=>by
  rw[List.cons_append];simp only[dG,tU k v b kvs]
theorem EG(kvs:List (D×D)){k a :D}(v:D)(b:a ≠k):dG (putD kvs k v) a =dG kvs a :=by
 classical
 unfold putD;split
 ·exact oD k v b kvs
 ·exact tU k v b kvs
variable{mh:MH}
theorem sN{b:Nat}{a:Int}{Q:DK}(c:1<=a)(d:a<=1073741789)(hb:wU mh b)(q:∀r mh',0<=r->r<a->cT mh b mh' ->Q (.int r) mh'):jF [.ref b,.int a] mh Q:=⟨b,a,rfl,c,d,hb,q⟩
theorem TB{ns:List Int}{a:Int}{Q:DK}(b:ns.length<=63)(c:0<=a)(d:a<=100)(q:∀mh',(∃o,mh' =mh++[o])->wU mh' mh.length->Q (.ref mh.length) mh'):BY [.fl (ns.map .int),.int a] mh Q:=⟨ns,a,rfl,b,c,d,q⟩
def b9(mh mh' :MH):Prop:=∃T,mh' =mh++T
theorem b9.refl:b9 mh mh:=⟨[],by simp⟩
variable{mh':MH}
theorem b9.app(h:b9 mh mh')(T:MH):b9 mh (mh' ++T):=by
 obtain⟨U,rfl⟩:=h;exact⟨U++T,by simp⟩
theorem b9.le(h:b9 mh mh'):mh.length<=mh'.length:=by obtain⟨U,rfl⟩:=h;simp
variable{n:Nat}{o:MO}
theorem b9.old(h:b9 mh mh')(e:mh[n]? =some o):mh'[n]? =some o:=by
 obtain⟨T,rfl⟩:=h;rw[List.getElem?_append_left (List.getElem?_eq_some_iff.mp e).1];exact e
theorem b9.push(h:b9 mh mh')(o:MO):b9 mh (mh' ++[o]):=by
 obtain⟨T,rfl⟩:=h;exact⟨T++[o],by simp⟩
theorem b9.set(h:b9 mh mh')(a:mh.length<=n)(o:MO):b9 mh (mh'.set n o):=by
 obtain⟨T,rfl⟩:=h;exact⟨T.set (n-mh.length) o,by rw[List.set_append_right _ _ a]⟩
theorem b9.out{d:D}{R:DK}(h:b9 mh mh')(ok:kW mh)(hd:cV mh.length d=true)(q:R d mh):Out mh.length d mh' R:=by
 obtain⟨T,rfl⟩:=h;exact pV ok hd q
theorem b9.V3{j:Nat}{R:DK}(h:b9 mh mh')(ok:kW mh)(a:mh.length<=j)(e:mh'[j]? =some o)(hd:zJ mh.length o=true)(q:R (.ref mh.length) (mh++[o])):Out mh.length (.ref j) mh' R:=by
 obtain⟨T,rfl⟩:=h;exact .inr (.inr ⟨mh,T,j,o,rfl,aFw _,ok,rfl,a,e,hd,q⟩)
theorem f6.V3{b j:Nat}{R:DK}(h:f6 mh b mh')(ok:kW mh)(c:mh.length<=j)(e:mh'[j]? =some o)(hd:zJ mh.length o=true)(q:∀a,cT mh b a->R (.ref a.length) (a++[o])):Out mh.length (.ref j) mh' R:=by
 obtain⟨a,T,rfl,t⟩:=h;exact .inr (.inr ⟨a,T,j,o,rfl,by rw[t.len];exact aFw _,t.mok ok,rfl,by rw[t.len];exact c,e,by rw[t.len];exact hd,q a t⟩)
theorem f6.app{b:Nat}(h:f6 mh b mh')(T:MH):f6 mh b (mh' ++T):=by
 obtain⟨a,U,rfl,c⟩:=h;exact⟨a,U++T,by simp,c⟩
theorem b8{o x:MO}(e:mh[n]? =some o):(mh++[x])[n]? =some o:=by
 rw[List.getElem?_append_left (List.getElem?_eq_some_iff.mp e).1];exact e
theorem bQ{mh T:MH}(e:mh[n]? =some o):(mh++T)[n]? =some o:=by
 rw[List.getElem?_append_left (List.getElem?_eq_some_iff.mp e).1];exact e
theorem get_set{n m:Nat}{o x:MO}(e:mh[n]? =some o)(h:m≠n):(mh.set m x)[n]? =some o:=by
 rw[List.getElem?_set_ne h];exact e
theorem cS(x:MO)(e:mh[n]? =some o):(mh.set n x)[n]? =some x:=by
 rw[List.getElem?_set_self (List.getElem?_eq_some_iff.mp e).1]
theorem iX(e:mh[n]? =some o):n<mh.length:=(aFp.mp e).1
theorem bF{ds:List D}(e:mh[n]? =some (.lst ds)):bC mh (.ref n)=some ds:=by simp[bC,e]
theorem u4{ds:List D}(e:mh[n]? =some (.lst ds)):nA mh (.ref n)=some ds:=by simp[nA,e]
theorem ZD(d e f g:D)(ds:List D):n6 (d::e::f::g::ds) 3=some g:=by
 have:=iT (xs:=d::e::f::g::ds) (j:=3) (v:=g) rfl;simpa using this
theorem sU(l:List α)(x:α):n6 (l++[x]) (-1)=some x:=by
 unfold n6 FG;rw[if_neg (by lia),if_pos (by simp;lia)];simp only[Option.bind_some];have:((-1:Int)+((l++[x]).length:Int)).toNat=l.length:=by simp;lia
 rw[this];simp
theorem vC(n:Nat):FG (n+1) (-1)=some n:=by
 unfold FG;rw[if_neg (by lia),if_pos (by lia)];congr 1;lia
theorem fL{f:α->D}{l:List α}{i:Nat}{d:D}(h:(l.map f)[i]? =some d):∃x,l[i]? =some x/\d=f x:=by
 rw[List.getElem?_map]at h;obtain⟨x,a,b⟩:=aGn.mp h;exact⟨x,a,b.symm⟩
theorem take_snoc{l:List α}{i:Nat}{x:α}(h:l[i]? =some x):l.take (i+1)=l.take i++[x]:=by
 rw[List.take_add_one,h];rfl
theorem mX(ds:List D):cutD ds (some 1) none=ds.tail:=by
 cases ds with
 | nil=>rfl
 | cons a ds=>
  unfold cutD;have b:HT.c7 (a::ds).length 0 (some 1)=1:=by simp[HT.c7]
  have c:HT.c7 (a::ds).length (a::ds).length none=(a::ds).length:=by simp[HT.c7]
  rw[b,c];simp
theorem oM{α j:Type}{g:WG}{t:WT}{w:WE}{ρe:eK}{St:MH->Prop}{Q:DK}(em:α->D)(p:α->Bool)(f:α->j)(a:j->D):∀(ds:List α) (ys:List j) {mh:MH},St mh->
  (∀d∈ds,∀(N:DK) (M:MH->Prop),(p d=true->N (a (f d)) mh)->(p d=false->M mh)->g (em d) ρe λc=>t c mh λb i=>if b=true then w c i N else M i)->
  Q (.ref mh.length) (mh++[.lst ((ys++(ds.filter p).map f).map a)])->jJ g t w ρe St Q (ds.map em) (ys.map a) mh
 | [],ys,mh,hst,_,q=>⟨hst,by simpa using q⟩
 | d::ds,ys,mh,hst,h,q=>by
  refine⟨hst,?_⟩;refine h d aFs _ _ (λk=>?_) λk=>?_
  ·have:=oM (Q:=Q) (St:=St) (g:=g) (t:=t) (w:=w) (ρe:=ρe) em p f a ds (ys++[f d]) hst (λe he=>h e (aFt _ he)) (by rw[List.filter_cons_of_pos k]at q;simpa using q);simpa using this
  ·exact oM em p f a ds ys hst (λe he=>h e (aFt _ he)) (by rw[List.filter_cons_of_neg (by simp[k])]at q;exact q)
theorem yD{α b:Type}{g:WG}{w:WE}{ρe:eK}{St:MH->Prop}{Q:DK}(em:α->D)(f:α->b)(a:b->D):∀(ds:List α) (ys:List b) {mh:MH},St mh->
  (∀d∈ds,∀(N:DK),N (a (f d)) mh->g (em d) ρe λc=>w c mh N)->
  Q (.ref mh.length) (mh++[.lst ((ys++ds.map f).map a)])->jJ g kU w ρe St Q (ds.map em) (ys.map a) mh
 | [],ys,mh,hst,_,q=>⟨hst,by simpa using q⟩
 | d::ds,ys,mh,hst,h,q=>by
  refine⟨hst,?_⟩;simp only[K6,if_true];refine h d aFs _ ?_;have:=yD (Q:=Q) (St:=St) (g:=g) (w:=w) (ρe:=ρe) em f a ds (ys++[f d]) hst (λe he=>h e (aFt _ he)) (by simpa using q);simpa using this
theorem oN{α j:Type}{g:WG}{t:WT}{w:WE}{ρe:eK}{St:MH->Prop}{Q:DK}(em:α->D)(p:α->Bool)(f:α->j)(e:j->D)(ds:List α)(i:St mh)
  (h:∀d∈ds,∀(N:DK) (M:MH->Prop),(p d=true->N (e (f d)) mh)->(p d=false->M mh)->g (em d) ρe λa=>t a mh λb c=>if b=true then w a c N else M c)
  (q:Q (.ref mh.length) (mh++[.lst (((ds.filter p).map f).map e)])):jJ g t w ρe St Q (ds.map em) [] mh:=oM em p f e ds [] i h q
theorem gS{α e:Type}{g:WG}{w:WE}{ρe:eK}{St:MH->Prop}{Q:DK}(em:α->D)(f:α->e)(a:e->D)(ds:List α)(b:St mh)
  (h:∀d∈ds,∀(N:DK),N (a (f d)) mh->g (em d) ρe λc=>w c mh N)
  (q:Q (.ref mh.length) (mh++[.lst ((ds.map f).map a)])):jJ g kU w ρe St Q (ds.map em) [] mh:=yD em f a ds [] b h q
theorem uE{M:MH}(h:M[n]? =some o):M.set n o=M:=by
 apply aIt;intro i;by_cases hi:i=n
 ·subst hi;rw[List.getElem?_set_self (iX h),h]
 ·rw[List.getElem?_set_ne (Ne.symm hi)]
theorem zip_map{α:Type}(f:α->D):∀(l m:List α),kT (l.map f) (m.map f)=(l.zip m).map λp=>.tup [f p.1,f p.2]
 | [],_=>by simp[kT]
 | a::l,[]=>by simp[kT]
 | a::l,b::m=>by simp[kT,zip_map f l m]
def vZ(P:Program)(w:World)(K:aJj)(mg:aJm)(base:Heap)(k:Nat)(x:Str)(N:List Str)(st:Stmt)(wB:WS):Prop:=
 ∀(f:Addr) (cdv:Value) (A:Around) (outer:List Env) (s:Shared) (H:Hp) (E:XK),gC k (A.deeper (envOfC x (aC st) s.heap.objs.size f cdv))->
  kX (vP D9 P w K mg base N x (aC st) f cdv A outer s H E).Q9 (cJ st) wB
section
variable {P:Program}{w:World}{K:aJj}{mg:aJm}{base:Heap}{h:Heap}
theorem eU{st:Stmt}{N ps:List Str}{k:Nat}{s:OA}{wB:WS}(b:fH K x st)(KX:K.In h)(G:h.Ns mainGlobals mg)(c:cE x st ps)(S:aV N ps (aC st))(hb:vZ P w K mg base k x N st wB)(len:∀ds mh R,s ds mh R->ds.length=ps.length)
  (e:∀ds mh R,kW mh->s ds mh R->wB {nx:=λ_ a=>Out mh.length .cL a R,rt:=λd a=>Out mh.length d a R} (aI N ds) mh):Fn P w K mg base (k+1) x ps s:=
 YQ b KX G c S len hb λds mh R ok _ f=>e ds mh R ok f
theorem YO{st:Stmt}{N ps:List Str}{j k:Nat}{s:OA}{wB:WS}(e:k+1=j)(b:fH K x st)(KX:K.In h)(G:h.Ns mainGlobals mg)(c:cE x st ps)(S:aV N ps (aC st))(hb:vZ P w K mg base k x N st wB)(len:∀ds mh R,s ds mh R->ds.length=ps.length)
  (f:∀ds mh R,kW mh->s ds mh R->wB {nx:=λ_ a=>Out mh.length .cL a R,rt:=λd a=>Out mh.length d a R} (aI N ds) mh):Fn P w K mg base j x ps s:=
 e▸eU b KX G c S hb len f
theorem XO{st:Stmt}{N:List Str}{k:Nat}{c:Addr}{wB:WS}(KX:K.In h)(G:h.Ns mainGlobals mg)(b:mg "law"=some (.ref c))(e:fH K "law" st)(S:aV N [x] (aC st))(f:cE "law" st [x])
  (hb:∀base:Heap,vZ P w K mg base k "law" N st wB)
  (g:∀ds mh R,kW mh->v9 ds mh R->wB {nx:=λ_ a=>Out mh.length .cL a R,rt:=λd a=>Out mh.length d a R} (aI N ds) mh):
  ∃fd:FuncData,(∀(s:Shared) (u:Value),BindsTo s fd ⟨[u],[]⟩ [(x,u)])/\∀base:Heap,jN P w K mg base D9 (k+1) c fd [x] (OR K v9):=
 XQ KX G b e S f λbase=>⟨wB,hb base,λds mh R ok _ i=>g ds mh R ok i⟩
end
def cmB:Bool->Nat
 | false=>sizeLine
 | true=>4000
def rA(b:Bool)(g:WG)(t:WT)(w:WE)(ρe:eK)(St:MH->Prop)(K:List D->MH->Prop):List D->List D->MH->Prop
 | [],ys,mh=>St mh/\K ys mh
 | d::ds,ys,mh=>St mh/\ys.length<cmB b/\g d ρe λa=>t a mh λc e=>if c=true then w a e λy f=>(b=true->∃k,y=bJ k)/\rA b g t w ρe St K ds (ys++[y]) f else rA b g t w ρe St K ds ys e
def iZ(b:Bool)(g:WG)(t:WT)(a:WI)(h:WG)(i:WT)(w:WE)(ρe:eK)(St:MH->Prop)(K:List D->MH->Prop):List D->List D->MH->Prop
 | [],ys,mh=>St mh/\K ys mh
 | d::ds,ys,mh=>St mh/\g d ρe λe=>t e mh λc f=>if c=true then a e f λl j k=>rA b h i w e j (iZ b g t a h i w ρe St K ds) l ys k else iZ b g t a h i w ρe St K ds ys f
def UQ(own:List Str)(aH:List Nat)(wi:WI)(g:WG)(t:WT)(a:WI)(d:WG)(e:WT)(w:WE)(c:eK)(mh:MH)(K:List D->MH->Prop):Prop:=wi c mh λds St b=>iZ true g t a d e w (fW own aH c) St K ds [] b
theorem bZ.jI{K:aJj}{μ μ' :List Addr}{H H' :Hp}{a:eK}{σ:L2.St}(p:eF μ H μ' H')(E:bZ K μ H a σ):bZ K μ' H' a σ:=⟨E.1,λi d e=>by
 obtain⟨v,b,c⟩:=E.2 i d e
 exact⟨v,b,Is.jI p d v c⟩⟩
section
variable {X:Cx}
theorem YW{P:Program}{w:World}{b:Bool}{a:Addr}{ys:List V}:Own (some (A6 P w b a ys)):=by cases b <;> trivial
theorem S0{b:Bool}{ys:List V}(h:ys.length<cmB b):ys.length<sizeLine/\(b=true->(ST.aR [] (ys.filterMap qQ)).length+1<scanBound):=by
 have sz:=aGe
 cases b with
 | false=>exact⟨h,λz=>nomatch z⟩
 | true=>
  have h' :ys.length<4000:=h;have a:=ST.oQ (ys.filterMap qQ) [];have c:=List.length_filterMap_le qQ ys;exact⟨by lia,λ_=>by unfold scanBound;simp at a;lia⟩
theorem MZ{b:Bool}{wi A:WI}{g g2:TG}{gd s:WG}{t N:WT}{w:WE}{own:List Str}{aH:List Nat}(hr:oR X.K g gd)(hr2:oR X.K g2 s){σ:L2.St}{H:Hp}{Q:VK}{μ:List Addr}{L:eK}{R:List D->MH->Prop}(RR:Rep X.K μ mh H)(En:bZ X.K μ H L σ)
  (h:wi L mh λds St P=>iZ b gd t A s N w (fW own aH L) St R ds [] P)
  (F:∀(p μ' :List Addr) (O H' :Hp) (mh' :MH) (d:List D) (ys:List V) (a:Addr),aK μ H p O->aK p O μ' H' ->O a=none->Rep X.K μ' mh' H' ->a∉μ' ->H' a=some (A6 X.prog X.w b a ys)->IsL X.K μ' H' d ys->R d mh' ->Q (.ref a) H'):
  PQ X.prog X.w b own aH (U6 X.K wi) g (OQ X.K t) (EJ X.prog X.w b (U6 X.K A) g2 (OQ X.K N) (tL X.K w)) σ H Q:=by
 refine⟨μ,L,mh,_,RR,En,h,λds St P q p J O P1 R1 It a u=>?_⟩;have S:a∉p:=λz=>R1.ne u z rfl;have mutC:∀{H:Hp} {ys:List V},H a=some (A6 X.prog X.w b a ys)->JZ (H a):=λ{H ys} e=>by rw[e];cases b <;> trivial
 refine⟨λi m ys H' =>∃μ' mh' d,aK p O μ' H' /\Rep X.K μ' mh' H' /\a∉μ' /\H' a=some (A6 X.prog X.w b a ys)/\IsL X.K μ' H' d ys/\i<=ds.length/\m=ds.length-i/\iZ b gd t A s N w (fW own aH L) St R (ds.drop i) d mh',
  ⟨ds.length,p,P,[],aK.out aK.refl u,R1.new u,S,bR,by unfold IsL;rfl,aH2 _,by simp,by simpa using q⟩,?_⟩
 rintro i m ys H' ⟨μ',mh',d,P',R',ha',e',l',hi',rfl,c⟩;refine⟨e',?_⟩;by_cases T:i<ds.length
 ·rw[List.drop_eq_getElem_cons T]at c;obtain⟨hst,c⟩:=c;obtain⟨hgo,hy⟩:=It.go μ' mh' H' (P'.weak R1) R' hst i ds[i] (by simp[T]);refine .inr ⟨hgo,λv B=>∃f r j,aK p O f B/\Rep X.K f r B/\a∉f/\B a=some (A6 X.prog X.w b a v)/\IsL X.K f B j v/\iZ b gd t A s N w (fW own aH L) St R (ds.drop (i+1)) j r,?_,λx H'' y=>?_⟩
  ·rintro v B ⟨f,r,j,P2,R2,U,e2,l2,c2⟩;exact⟨ds.length-(i+1),by lia,f,r,j,P2,R2,U,e2,l2,T,rfl,c2⟩
  ·obtain⟨Py,Ry,Iy⟩:=hy x H'' y;obtain⟨hay,ey⟩:=Py.away ha' e';have ly:=IsL.mono R' Py d ys l';have P0y:=P1.trans (P'.trans Py);refine hr x _ H'' _ μ' (fW own aH L) mh' _ _ Ry (En.mono RR P0y).emb Iy c λC q2 σ2 W=>?_;refine⟨μ',C,mh',_,Ry,W,q2,λc mh3 q3 μ3 H3 P3 R3=>?_⟩;obtain⟨ha3,e3⟩:=P3.away hay ey;have l3:=IsL.mono Ry P3 d ys ly;have P13:=(P'.trans Py).trans P3
   cases c with
   | false=>rw[if_neg Bool.false_ne_true]at q3⊢;exact⟨μ3,mh3,d,P13,R3,ha3,e3,l3,q3⟩
   | true=>
    rw[if_pos rfl]at q3⊢;refine⟨μ3,C,mh3,_,R3,W.mono Ry P3,q3,λM St2 mh4 q4 Y J2 H4 P4 R4 It2=>?_⟩;obtain⟨ha4,e4⟩:=P4.away ha3 e3;have l4:=IsL.mono R3 P4 d ys l3
    refine⟨λk m ys H' =>∃μ' mh' d,aK p O μ' H' /\eF Y H4 μ' H' /\Rep X.K μ' mh' H' /\a∉μ' /\H' a=some (A6 X.prog X.w b a ys)/\IsL X.K μ' H' d ys/\k<=M.length/\m=M.length-k/\rA b s N w C St2 (iZ b gd t A s N w (fW own aH L) St R (ds.drop (i+1))) (M.drop k) d mh',
     ⟨M.length,Y,mh4,d,P13.trans P4,aK.refl.weak R4,R4,ha4,e4,l4,aH2 _,by simp,by simpa using q4⟩,?_⟩
    rintro k m Z H5 ⟨E,G,l,P15,P5,R5,ha5,e5,l5,hk5,rfl,c5⟩;by_cases I:k<M.length
    ·rw[List.drop_eq_getElem_cons I]at c5;obtain⟨hst5,hsz5,c5⟩:=c5;obtain⟨hgo5,hy5⟩:=It2.go E G H5 P5 R5 hst5 k M[k] (by simp[I]);refine .inr ⟨hgo5,λv B=>∃f r j,aK p O f B/\eF Y H4 f B/\Rep X.K f r B/\a∉f/\B a=some (A6 X.prog X.w b a v)/\IsL X.K f B j v/\rA b s N w C St2 (iZ b gd t A s N w (fW own aH L) St R (ds.drop (i+1))) (M.drop (k+1)) j r,?_,λx6 H6 y6=>?_⟩
     ·rintro v B ⟨f,r,j,P2,W2,R2,U,e2,l2,c2⟩;exact⟨M.length-(k+1),by lia,f,r,j,P2,W2,R2,U,e2,l2,I,rfl,c2⟩
     ·obtain⟨P6,R6,I6⟩:=hy5 x6 H6 y6;obtain⟨ha6,e6⟩:=P6.away ha5 e5;have l6:=IsL.mono R5 P6 l Z l5;have En6:=bZ.mono R5 P6 (bZ.jI P5 ((W.mono Ry P3).mono R3 P4));refine hr2 x6 _ H6 _ E C G _ _ R6 En6 I6 c5 λρ7 q7 σ7 En7=>?_;refine⟨E,ρ7,G,_,R6,En7,q7,λc mh8 q8 μ8 H8 P8 R8=>?_⟩;obtain⟨ha8,e8⟩:=P8.away ha6 e6;have l8:=IsL.mono R6 P8 l Z l6;have P18:=(P15.trans P6).trans P8;have W48:=(P5.trans (P6.weak R5)).trans (P8.weak R6)
      cases c with
      | false=>rw[if_neg Bool.false_ne_true]at q8⊢;exact⟨μ8,mh8,l,P18,W48,R8,ha8,e8,l8,q8⟩
      | true=>
       rw[if_pos rfl]at q8⊢;refine⟨S0 (by rw[aN l8];exact hsz5),μ8,ρ7,mh8,_,R8,En7.mono R6 P8,q8,λy mh9 q9 μ9 vy H9 P9 R9 I9=>?_⟩;obtain⟨ha9,e9⟩:=P9.away ha8 e8;have hm:JZ (H9 a):=mutC e9;obtain⟨hk9,q9⟩:=q9;have l9:=IsL.mono R8 P9 l Z l8;refine⟨λhb=>by obtain⟨k,rfl⟩:=hk9 hb;exact⟨k,p5 I9⟩,e9,μ9,mh9,l++[y],aK.out (P18.trans P9) u,?_,R9.out hm ha9,ha9,bR,IsL.out hm _ _ (iP l9 (mT I9)),q9⟩;have W49:=W48.trans (P9.weak R8);refine⟨W49.pre,λb o e n=>?_⟩;have:=W49.fr b o e n;by_cases hb:b=a
       ·subst hb;rw[e9]at this;cases this;exact absurd YW n
       ·rw[aM hb];exact this
    ·have e:k=M.length:=by lia
     subst e;rw[List.drop_of_length_le (Nat.le_refl _)]at c5;exact .inl ⟨It2.stop E G H5 P5 R5 c5.1,E,G,l,P15,R5,ha5,e5,l5,c5.2⟩
 ·have e:i=ds.length:=by lia
  subst e;rw[List.drop_of_length_le (Nat.le_refl _)]at c;exact .inl ⟨It.stop μ' mh' H' (P'.weak R1) R' c.1,F _ _ _ _ _ _ _ _ P1 P' u R' ha' e' l' c.2⟩
end
theorem vF{b:Bool}{d j:Type}{g:WG}{w:WE}{ρe:eK}{St:MH->Prop}{K:List D->MH->Prop}(em:d->D)(f:d->j)(c:j->D)(hb:b=true->∀x,∃k,c x=bJ k):∀(a:List d) (ys:List D) {mh:MH},St mh->ys.length+a.length<=cmB b->
  (∀e∈a,∀N:DK,N (c (f e)) mh->g (em e) ρe λi=>w i mh N)->K (ys++(a.map f).map c) mh->rA b g kU w ρe St K (a.map em) ys mh
 | [],ys,mh,hst,_,_,q=>⟨hst,by simpa using q⟩
 | e::a,ys,mh,hst,hl,h,q=>by
  simp only[List.length_cons]at hl;refine⟨hst,by lia,?_⟩;simp only[K6,if_true];refine h e aFs _ ⟨λz=>hb z _,?_⟩;exact vF em f c hb a (ys++[c (f e)]) hst (by simp;lia) (λe he=>h e (aFt _ he)) (by simpa using q)
theorem vR{b:Bool}{α m p:Type}{g r:WG}{j:WI}{w:WE}{ρe:eK}{St:MH->Prop}{K:List D->MH->Prop}(em:α->D)(a:α->List m)(c:m->D)(f:α->m->p)(l:p->D)(h:α->eK)(hb:b=true->∀x,∃k,l x=bJ k):∀(ds:List α) (ys:List D) {mh:MH},St mh->ys.length+(ds.flatMap a).length<=cmB b->
  (∀d∈ds,∀N:eK->Prop,N (h d)->g (em d) ρe N)->(∀d∈ds,∀N:List D->(MH->Prop)->MH->Prop,(∀i:MH->Prop,i mh->N ((a d).map c) i mh)->j (h d) mh N)->
  (∀d∈ds,∀e∈a d,∀N:DK,N (l (f d e)) mh->r (c e) (h d) λn=>w n mh N)->
  K (ys++(ds.flatMap λd=>(a d).map (f d)).map l) mh->iZ b g kU j r kU w ρe St K (ds.map em) ys mh
 | [],ys,mh,hst,_,_,_,_,q=>⟨hst,by simpa using q⟩
 | d::ds,ys,mh,hst,hl,h1,h2,h3,q=>by
  simp only[List.flatMap_cons,List.length_append]at hl;refine⟨hst,?_⟩;simp only[K6,if_true];refine h1 d aFs _ ?_;refine h2 d aFs _ λi o=>?_;refine vF c (f d) l hb (a d) ys o (by lia) (λe he=>h3 d aFs e he) ?_;exact vR em a c f l h hb ds _ hst (by rw[List.length_append,List.length_map,List.length_map];lia) (λe he=>h1 e (aFt _ he)) (λe he=>h2 e (aFt _ he)) (λe he=>h3 e (aFt _ he)) (by simpa using q)
theorem SX{b:Bool}{α m p:Type}{g r:WG}{i:WI}{w:WE}{ρe:eK}{St:MH->Prop}{K:List D->MH->Prop}(em:α->D)(a:α->List m)(h:m->D)(f:α->m->p)(l:p->D)(c:α->eK)(ds:List α)(hb:b=true->∀x,∃k,l x=bJ k)(n:St mh)(s:(ds.flatMap a).length<=cmB b)
  (t:∀d∈ds,∀N:eK->Prop,N (c d)->g (em d) ρe N) (u:∀d∈ds,∀N:List D->(MH->Prop)->MH->Prop,(∀j:MH->Prop,j mh->N ((a d).map h) j mh)->i (c d) mh N)
  (v:∀d∈ds,∀e∈a d,∀N:DK,N (l (f d e)) mh->r (h e) (c d) λo=>w o mh N)
  (q:K ((ds.flatMap λd=>(a d).map (f d)).map l) mh):iZ b g kU i r kU w ρe St K (ds.map em) [] mh:=
 vR em a h f l c hb ds [] n (by simpa using s) t u v (by simpa using q)
end D3
namespace L2
open PySem PySem.Spec PyProof.Rows
open Builtin Builtin.Str
open AutoSeq1 (wpAny_loadPart')
end L2
namespace D3
open PySem PySem.Spec PyProof.Rows L2
end D3
namespace L2
open PySem PySem.Spec PyProof.Rows
end L2
namespace D3
open PySem PySem.Spec PyProof.Rows L2
end D3
namespace L2
open PySem PySem.Spec PyProof.Rows
section
variable {prog:Program}{w:World}{A:Around}{E:aJk}{s:Shared}
theorem BD{M:Model}{a:Addr}{Q:Option Obj->Shared->Prop}(h:Q (s.heap.get? a) s):wpAny M A (loadIfAlive a) Q E s:=λb p _=>by
 unfold loadIfAlive;rw[Sem.wp_loadIfAlive];exact(aFq (M:=M) (A:=A) (E:=E) h) b p ‹_›
def v5(T:Addr)(fl:Bool)(TI TO:Addr):Obj:={cls:= .type "zip",dict:=none,data:= .fields #[rawInt T,.bool fl,.bool false,.ref TI,.ref TO],slots:= #[]}
theorem wV{z TI TO T:Addr}{fl:Bool}{qs:List Src}{i k:Nat}{vals:List Value}{Q:aJk}(hh:A.handled=none)(D:dN z TI TO qs)(d:s.heap.get? z=some (v5 T fl TI TO))(hT:∃o,s.heap.get? T=some o)
  (I:∃n,s.heap.get? TI=some {cls:= .type "tuple",data:= .seq (qs.map λq=>Value.ref q.it).toArray n}) (hat:∀q∈qs,q.At s.heap i) (J:qs≠[]) (hv:vals.length=k) (hkl:k<=qs.length)
  (R:∀(j:Nat) q x,qs[j]? =some q->vals[j]? =some x->∃items,q.Sq s.heap items/\items[i]? =some x) (hsz:qs.length<=sizeLine)
  (B:k<qs.length->∃q items,qs[k]? =some q/\q.Sq s.heap items/\items[i]? =none)
  (hQ:k=qs.length->∀h',h'.get? z=some (v5 T true TI TO)->(∀q∈qs,q.At h' (i+1))->h'.get? s.heap.objs.size=some {cls:= .type "tuple",data:= .seq vals.toArray}->h'.objs.size=s.heap.objs.size+1->
   (∀c o,c≠z->(∀q∈qs,c≠q.it)->s.heap.get? c=some o->h'.get? c=some o)->Q (.ref s.heap.objs.size) {s with heap:=h'})
  (hE:k<qs.length->∀h' e,(∀c o,c≠z->(∀q∈qs,c≠q.it)->s.heap.get? c=some o->h'.get? c=some o)->(∃o,h'.get? e=some o/\o.cls= .type "StopIteration")->E (.ref e) {s with heap:=h'}):
  wpAny (model prog w) A (Builtin.«zip.__next__» ⟨[.ref z],[]⟩) (λfin P =>∃v,fin= .done (.ret v)/\Q v P) E s:=by
 obtain⟨nI,I⟩:=I;obtain⟨oT,hT⟩:=hT;refine aFo (m:=field (.ref z) 2) (aGp d rfl (x:= .bool false) rfl ?_);refine aFo (m:=field (.ref z) 3) (aGp d rfl (x:= .ref TI) rfl ?_);refine aFo (m:=seqItems? (.ref TI)) (aH3 I rfl ?_)
 have S:(qs.map λq=>Value.ref q.it).toArray.isEmpty=false:=by cases qs with | nil=>exact absurd rfl J | cons a r=>rfl
 simp only[S];refine aFo (m:=Builtin.SmallTypes.ownedTupleIsFree (.ref z)) ?_;refine aGi (Q:=λb P =>b=false/\∃C,P ={s with heap:=C}/\C.get? z=some (v5 T true TI TO)/\Heap.SameBut z s.heap C) (E:=E) ?own (λb s1 hb=>?_) (λe P x=>x)
 case own=>
  unfold Builtin.SmallTypes.ownedTupleIsFree;refine aFo (m:=field (.ref z) 0) (aGp d rfl (x:=rawInt T) rfl ?_);show wpAny _ _ (loadIfAlive (Int.toNat (T:Int)) >>=_) _ _ _;refine aFo (BD ?_);rw[Int.toNat_natCast,hT];simp only[Option.isNone_some,Bool.false_eq_true,if_false];refine aFo (m:=field (.ref z) 1) (aGp d rfl (x:= .bool fl) rfl ?_)
  cases fl with
  | true=>exact aFq ⟨rfl,s.heap,rfl,d,Heap.SameBut.refl _ _⟩
  | false=>
   refine aFo (aGl (cls:= .type "zip") (vs:= #[rawInt T,.bool false,.bool false,.ref TI,.ref TO]) d (by simp) λC z1 u=>aFq ⟨rfl,C,rfl,z1,u⟩)
 obtain⟨rfl,C,rfl,z1,u⟩:=hb;simp only[Bool.false_eq_true,if_false];refine aFo ?_;refine wpAny_forIn_array' _ (λG b P =>b.1=none/\∃j h',P ={s with heap:=h'}/\G=(qs.map λq=>Value.ref q.it).drop j/\j<=k/\b.2.toList=vals.take j/\h'.get? z=some (v5 T true TI TO)/\h'.objs.size=s.heap.objs.size/\(∀q∈qs.take j,q.At h' (i+1))/\(∀q∈qs.drop j,q.At h' i)/\(∀c o,c≠z->(∀q∈qs,c≠q.it)->s.heap.get? c=some o->h'.get? c=some o)) _ ?turn ?fin _ _ ?start
 case start=>
  refine⟨rfl,0,C,rfl,by simp,aH2 _,by simp,z1,u.1,by simp,λq R=>?_,λc o K _ e=>u.extBut _ _ K e⟩;have U :q∈qs:=by simpa using R
  exact(hat q U).to λo e=>u.extBut _ _ (D.FH q U).1 e
 case turn=>
  rintro x G ⟨V,H⟩ s5 ⟨hb,j,h',rfl,hd,hj,f,hz,W,L,M,h⟩
  have l:j<qs.length:=by
   refine Nat.lt_of_not_le λhle=>?_;rw[List.drop_eq_nil_of_le (by simpa using hle)]at hd;cases hd
  have X :=hd;rw[List.drop_eq_getElem_cons (by simpa using l)]at X;injection X with ex er;have Y:x=Value.ref qs[j].it:=by rw[ex];simp
  have t:qs[j]? =some qs[j]:=aFu l;generalize hqq:qs[j]=q at t Y;subst Y;have F:q∈qs:=aG3 t;have hqz:=D.FH q F;obtain⟨l1,l2,l3⟩:=D.src q F;have Z:q.At h' i:=M q (by rw[List.drop_eq_getElem_cons l,hqq];exact aFs);refine aFo (aGj ?_);show wpAny _ _ (Builtin.SmallTypes.nextOf (.ref q.it) >>=_) _ _ _;by_cases hjk:j=k
  ·subst hjk;obtain⟨qk,itemsk,hqk,hSk,hik⟩:=B l;obtain rfl:qk=q:=(aG8 (t.symm.trans hqk)).symm;have y :=hSk.to (h' :=h') λo e=>h _ o l1 l3 e;refine aFo (Src.done (s:={s with heap:=h'}) hh Z y hik λh2 e g he=>?_);exact hE l h2 e (λc o K N q' =>g _ _ (N _ F) (h c o K N q')) he
  ·have O:vals[j]? =some vals[j]:=aFu (by lia);generalize hvv:vals[j]'(by lia)=v at O;obtain⟨items,hSq,hit⟩:=R j q v t O;have y :q.Sq h' items:=hSq.to λo e=>h _ o l1 l3 e;refine aFo (Src.item (s:={s with heap:=h'}) Z y hit λh2 at2 g=>aFq ?_);refine aFq ?_
   have apart:∀(k:Nat) p,qs[k]? =some p->k≠j->p.it≠q.it:=λk p B J e=>by
    have C:(qs.map (·.it))[k]? =some q.it:=by rw[List.getElem?_map,B];simp[e]
    have h2:(qs.map (·.it))[j]? =some q.it:=by rw[List.getElem?_map,t];rfl
    obtain⟨a1,V⟩:=aFp.mp C;obtain⟨a2,H⟩:=aFp.mp h2;refine J ?_;have pw:=aHe.mp D.nd;rcases aJf k j with hlt | heq | hlt
    ·exact absurd (V.trans H.symm) (pw k j a1 a2 hlt)
    ·exact heq
    ·exact absurd (H.trans V.symm) (pw j k a2 a1 hlt)
   refine⟨rfl,j+1,h2,rfl,er,by lia,?_,g.extBut _ _ (aGr hqz.1) hz,by rw[g.1];exact W,λp hp=>?_,λp hp=>?_,λc o K N e=>g.extBut _ _ (N q F) (h c o K N e)⟩
   ·have f:H.toList=vals.take j:=f;show (H.push v).toList=_;rw[Array.toList_push,f,List.take_add_one,O];rfl
   ·rw[List.take_add_one,t]at hp;rcases aFv.mp hp with z | z
    ·obtain⟨k,B⟩:=aHh z
     have hkj:k<j:=by
      have:=(aFp.mp B).1;rw[List.length_take]at this;lia
     rw[List.getElem?_take_of_lt hkj]at B;exact(L p z).to λo e=>g.extBut _ _ (apart k p B (by lia)) e
    ·have:p=q:=by simpa using z
     subst this;exact at2
   ·obtain⟨k,B⟩:=aHh hp;rw[List.getElem?_drop]at B;have hp' :p∈qs.drop j:=by rw[List.drop_eq_getElem_cons l];exact aFt _ hp
    exact(M p hp').to λo e=>g.extBut _ _ (apart _ p B (by lia)) e
 case fin=>
  rintro⟨V,H⟩ s5 ⟨hb,j,h',rfl,hd,hj,f,hz,W,L,M,h⟩
  have hje:j=qs.length:=by
   have:=aGs List.length hd;simp at this
   lia
  subst hje;have hkk:k=qs.length:=by lia
  have hb' :V=none:=hb;subst hb';have f:H.toList=vals.take qs.length:=f;rw[List.take_of_length_le (by lia)]at f;have z5:(h'.push {cls:= .type "tuple",data:= .seq vals.toArray}).get? z=some (v5 T true TI TO):=aFr _ hz;show wpAny _ _ (newTuple H.toList >>=_) _ _ _;rw[f];refine aFo (aIa ?_ (by simpa using (show vals.length<=sizeLine by lia)));refine aFq ⟨_,rfl,?_⟩;show Q (.ref h'.objs.size) _;rw[W];refine hQ hkk _ z5 (λq R=>(L q (by rw[List.take_of_length_le (Nat.le_refl _)];exact R)).to λo e=>aFr _ e) ?_ ?_ λc o K N e=>aFr _ (h c o K N e)
  ·rw[<-W];exact aFy _ rfl
  ·rw[size_push',W]
end
section
variable {prog:Program}{w:World}{A:Around}{E:aJk}{s:Shared}
theorem EC:typeLookup (.type "zip") "__len__"=pure none:=by rw[typeLookup_type,builtinLookup_eq_fast];kernel_rfl
theorem A8:typeLookup (.type "zip") "__length_hint__"=pure none:=by rw[typeLookup_type,builtinLookup_eq_fast];kernel_rfl
structure ZC(h0 h:Heap)(z TI TO:Addr)(qs:List Src)(rows:List (List Value))(i:Nat)(vs:List Value):Prop where
 obj:h.get? z=some {cls:= .type "zip",dict:=none,data:= .fields #[.none,.bool false,.bool false,.ref TI,.ref TO],slots:= #[]}\/∃T fl o,h.get? z=some (v5 T fl TI TO)/\h.get? T=some o/\o.cls= .type "tuple"
 aJ:∃n,h.get? TI=some {cls:= .type "tuple",data:= .seq (qs.map λq=>Value.ref q.it).toArray n}
 own:∃(xs:List Value) (n:Nat),xs.length=qs.length/\h.get? TO=some {cls:= .type "tuple",data:= .seq xs.toArray n}
 at_:∀q∈qs,q.At h i
 len:vs.length=i
 tup:∀(j:Nat) v r,vs[j]? =some v->rows[j]? =some r->∃a,v= .ref a/\h.get? a=some {cls:= .type "tuple",data:= .seq r.toArray}/\h0.objs.size<=a/\a≠z/\a≠TO/\∀q∈qs,a≠q.it
 nd:vs.Nodup
 keep:∀c o,c≠z->c≠TO->(∀q∈qs,c≠q.it)->h0.get? c=some o->h.get? c=some o
variable{h0:Heap}{qs:List Src}{rows:List (List Value)}{vs:List Value}
theorem ZC.type{z TI TO:Addr}{i:Nat}(Z:ZC h0 s.heap z TI TO qs rows i vs):s.TypeIs (.ref z) "zip":=by
 rcases Z.obj with e | ⟨T,fl,o,e,_⟩ <;> exact⟨_,e,rfl⟩
theorem ZC.other{h0 h h' :Heap}{z TI TO S:Addr}{i:Nat}(Z:ZC h0 h z TI TO qs rows i vs)(b:S≠z/\S≠TI/\S≠TO/\(∀q∈qs,S≠q.it))(m:∀o,h.get? S=some o->o.cls= .type "list")(s:h0.get? S=none)
  (k:∀c o,c≠S->h.get? c=some o->h'.get? c=some o):ZC h0 h' z TI TO qs rows i vs where
 obj:=by
  rcases Z.obj with e | ⟨T,fl,o,g,d,f⟩
  ·exact .inl (k _ _ (aGr b.1) e)
  ·refine .inr ⟨T,fl,o,k _ _ (aGr b.1) g,k _ _ (λx=>?_) d,f⟩;subst x;have:=m _ d;rw[f]at this;simp at this
 aJ:=let ⟨n,e⟩:=Z.aJ;⟨n,k _ _ (aGr b.2.1) e⟩
 own:=let ⟨xs,n,l,e⟩:=Z.own;⟨xs,n,l,k _ _ (aGr b.2.2.1) e⟩
 at_:=λq p=>(Z.at_ q p).to λo e=>k _ _ (aGr (b.2.2.2 q p)) e
 len:=Z.len
 tup:=λj v r t u=>by
  obtain⟨a,g,d,f⟩:=Z.tup j v r t u;refine⟨a,g,k _ _ (λe=>?_) d,f⟩;subst e;have:=m _ d;simp at this
 nd:=Z.nd
 keep:=λc o w y A e=>k _ _ (λx=>by subst x;rw[s]at e;cases e) (Z.keep c o w y A e)
structure ZR(h0:Heap)(qs:List Src)(rows:List (List Value)):Prop where
 row:∀(i:Nat) r,rows[i]? =some r->r.length=qs.length/\∀(j:Nat) q x,qs[j]? =some q->r[j]? =some x->∃items,q.Sq h0 items/\items[i]? =some x
 fin:∃(k:Nat) (vals:List Value),vals.length=k/\k<qs.length/\(∀(j:Nat) q x,qs[j]? =some q->vals[j]? =some x->∃items,q.Sq h0 items/\items[rows.length]? =some x)/\∃q items,qs[k]? =some q/\q.Sq h0 items/\items[rows.length]? =none
variable{Q:Option Value->Shared->Prop}
theorem O3{z TI TO:Addr}{i:Nat}(W:A.handled=none)(D:dN z TI TO qs)(hsz:qs.length<=sizeLine)(y:qs≠[])(X:ZR h0 qs rows)(Z:ZC h0 s.heap z TI TO qs rows i vs)(hi:i<rows.length)
  (I:h0.objs.size<=s.heap.objs.size)
  (Y:∀h' v,ZC h0 h' z TI TO qs rows (i+1) (vs++[v])->s.heap.objs.size<=h'.objs.size->(∀c o,c≠z->c≠TO->(∀q∈qs,c≠q.it)->s.heap.get? c=some o->h'.get? c=some o)->Q (some v) {s with heap:=h'}):
  wpAny (model prog w) A (pyNext (.ref z)) Q E s:=by
 have p:rows[i]? =some rows[i]:=aFu hi;generalize rows[i]=r at p;obtain⟨O,hr⟩:=X.row i r p
 have f:∀(j:Nat) q x,qs[j]? =some q->r[j]? =some x->∃items,q.Sq s.heap items/\items[i]? =some x:=λj q x b g=>by
  obtain⟨items,m,d⟩:=hr j q x b g;obtain⟨l1,l2,l3⟩:=D.src q (aG3 b);exact⟨items,m.to λo e=>Z.keep _ o l1 l2 l3 e,d⟩
 have lt:∀a o,s.heap.get? a=some o->a≠s.heap.objs.size:=λa o e=>aG9 (aG2 e)
 have J:s.heap.objs.size≠z:=by
  rcases Z.obj with e | ⟨_,_,_,e,_⟩ <;> exact aGr (lt _ _ e)
 have one:s.heap.objs.size≠TO:=by obtain⟨_,_,_,e⟩:=Z.own;exact aGr (lt _ _ e)
 have K:∀q∈qs,s.heap.objs.size≠q.it:=λq f=>by obtain⟨o,e,_⟩:=(Z.at_ q f).obj;exact aGr (lt _ _ e)
 have fin:∀h',(h'.get? z=some (v5 s.heap.objs.size false TI TO)\/∃T fl o,h'.get? z=some (v5 T fl TI TO)/\h'.get? T=some o/\o.cls= .type "tuple")->(∃(xs:List Value) (n:Nat),xs.length=qs.length/\h'.get? TO=some {cls:= .type "tuple",data:= .seq xs.toArray n})->(∀q∈qs,q.At h' (i+1))->
   h'.get? s.heap.objs.size=some {cls:= .type "tuple",data:= .seq r.toArray}->h'.objs.size=s.heap.objs.size+1->(∀c o,c≠z->c≠TO->(∀q∈qs,c≠q.it)->s.heap.get? c=some o->h'.get? c=some o)->Q (some (.ref s.heap.objs.size)) {s with heap:=h'}:=λh' o1 o2 o3 P o5 C=>by
  refine Y h' _ ⟨?_,?_,o2,o3,by simp[Z.len],λj v r' b g=>?_,?_,λc o F L G e=>C c o F L G (Z.keep c o F L G e)⟩ (by lia) C
  ·exact o1.elim (λe=>.inr ⟨_,_,_,e,P,rfl⟩) .inr
  ·obtain⟨n,e⟩:=Z.aJ;exact⟨n,C _ _ D.ne1 D.ne3 (λq f=>aGr (D.FH q f).2.1) e⟩
  ·by_cases H:j<vs.length
   ·rw[List.getElem?_append_left H]at b;obtain⟨a,m,d,B,R,S,U⟩:=Z.tup j v r' b g;exact⟨a,m,C _ _ R S U d,B,R,S,U⟩
   ·have u:=(aFp.mp b).1;simp at u;have ej:j=vs.length:=by lia
    subst ej;simp at b;rw[Z.len,p]at g;cases g;exact⟨_,b.symm,P,I,J,one,K⟩
  ·rw[List.nodup_append];refine⟨Z.nd,by simp,λv hv w hw=>?_⟩;obtain⟨j,H⟩:=aGk.mp hv;have u:j<rows.length:=by have:=(aFp.mp H).1;rw[Z.len]at this;lia
   obtain⟨a,m,d,_⟩:=Z.tup j v _ H (aFu u);rw[List.mem_singleton.mp hw,m];intro x;injection x with x;exact lt _ _ d x
 rcases Z.obj with e | ⟨T,fl,o,m,d,B⟩
 ·refine nW D ⟨e,Z.aJ,Z.own,Z.at_⟩ y O f hsz λh' M t1 z1 k1=>fin h' (.inl M.obj) M.own M.at_ t1 z1 k1
 ·have V:s.TypeIs (.ref z) "zip":=Z.type;unfold pyNext
  refine aFo (aHb (aGf (name:=Str.ofString "__next__") V aH5 (aGa aH5 V aIz
   (wV (k:=qs.length) W D m ⟨_,d⟩ Z.aJ Z.at_ y O (aFw _) f hsz (λh=>absurd h (aHa _)) (λ_ h' a1 a2 a3 a4 N=>?_) λh=>absurd h (aHa _)) (aIr _))))
  have T1:T≠z:=λx=>by subst x;rw[m]at d;cases d;simp[v5]at B
  have T2:∀q∈qs,T≠q.it:=λq f x=>by
   subst x;have:=Z.at_ q f;obtain⟨it,l,t⟩:=q;cases t <;> (obtain⟨o',b,g,_⟩:=this;rw[d]at b;cases b;rw[B]at g;simp at g)
  refine aFq (fin h' (.inr ⟨T,true,o,a1,N _ _ T1 T2 d,B⟩) ?_ a2 a3 a4 λc o F L G e=>N c o F G e);obtain⟨xs,n,l,e⟩:=Z.own;exact⟨xs,n,l,N _ _ D.ne2 (λq f=>aGr (D.FH q f).2.2) e⟩
theorem O4{z TI TO:Addr}(r:A.handled=none)(D:dN z TI TO qs)(hsz:qs.length<=sizeLine)(p:qs≠[])(C:ZR h0 qs rows)(Z:ZC h0 s.heap z TI TO qs rows rows.length vs)
  (t:∀h',(∀c o,c≠z->c≠TO->(∀q∈qs,c≠q.it)->s.heap.get? c=some o->h'.get? c=some o)->Q none {s with heap:=h'}):
  wpAny (model prog w) A (pyNext (.ref z)) Q E s:=by
 obtain⟨k,vals,F,u,G,v,a,d,g,i⟩:=C.fin
 have to:∀q items,q∈qs->q.Sq h0 items->q.Sq s.heap items:=λq items H f=>by
  obtain⟨I,J,K⟩:=D.src q H;exact f.to λo e=>Z.keep _ o I J K e
 have l:∀(j:Nat) q x,qs[j]? =some q->vals[j]? =some x->∃items,q.Sq s.heap items/\items[rows.length]? =some x:=λj q x n y=>by
  obtain⟨items,f,m⟩:=G j q x n y;exact⟨items,to q items (aG3 n) f,m⟩
 rcases Z.obj with e | ⟨T,fl,o,f,m,P⟩
 ·refine pW (k:=k) r D ⟨e,Z.aJ,Z.own,Z.at_⟩ (λj q n y=>?_) ⟨v,a,d,to _ _ (aG3 d) g,i⟩ hsz t
  obtain⟨x,L⟩:∃x,vals[j]? =some x:=⟨_,aFu (by lia)⟩
  obtain⟨items,f,m⟩:=l j q x n L;exact⟨items,x,f,m⟩
 ·have B:s.TypeIs (.ref z) "zip":=Z.type;unfold pyNext
  refine aFo (aHb (aGf (name:=Str.ofString "__next__") B aH5 (aGa aH5 B aIz
   (wV (k:=k) r D f ⟨_,m⟩ Z.aJ Z.at_ p F (aHr u) l hsz (λ_=>⟨v,a,d,to _ _ (aG3 d) g,i⟩) (λh=>absurd u (by lia)) λ_ h' e kp he=>?_) (aIr _))))
  obtain⟨o,ho,M⟩:=he;refine aFo (aIg (T:= "StopIteration") (b:=true) ⟨o,ho,M⟩ isSubtype_stop ?_);exact aFq (t _ λc o N _ O e=>kp c o N O e)
end
structure ZF(h0 h:Heap)(z TO:Addr)(qs:List Src)(rows:List (List Value))(vs:List Value):Prop where
 len:vs.length=rows.length
 nd:vs.Nodup
 tup:∀(j:Nat) v r,vs[j]? =some v->rows[j]? =some r->∃a,v= .ref a/\h.get? a=some {cls:= .type "tuple",data:= .seq r.toArray}/\h0.objs.size<=a
 keep:∀c o,c≠z->c≠TO->(∀q∈qs,c≠q.it)->h0.get? c=some o->h.get? c=some o
section
variable {prog:Program}{w:World}{A:Around}{R:Result->Shared->Prop}{h0:Heap}{z TI TO S:Addr}{qs:List Src}{rows:List (List Value)}
theorem ED(H:A.handled=none)(D:dN z TI TO qs)(hsz:qs.length<=sizeLine)(n:qs≠[])(I:ZR h0 qs rows)(X:rows.length<=sizeLine)(g:S≠z/\S≠TI/\S≠TO/\(∀q∈qs,S≠q.it))(u:h0.get? S=none)(res:Value):
  ∀(k i:Nat) (s:Shared) (b:Array Value) (c:Nat),rows.length-i=k->i<=rows.length->ZC h0 s.heap z TI TO qs rows i b.toList->h0.objs.size<=s.heap.objs.size->s.heap.get? S=some {cls:= .type "list",dict:=none,data:= .seq b c,slots:= #[]}->
  (∀h' d x,ZF h0 h' z TO qs rows d.toList->h'.get? S=some {cls:= .type "list",dict:=none,data:= .seq d x,slots:= #[]}->R (.ok (.ret res)) {s with heap:=h'})->
  codeAny (model prog w) A (.builtin "list.extend.loop" ⟨[.ref S,.ref z,res],[]⟩) R s:=by
 intro k
 induction k with
 | zero=>
  intro i s b c L hi Z h l y;have B:i=rows.length:=by lia
  subst B;refine aGy F.entry_extend_loop ?_;rw[Around.under_plainId F.plain_extend_loop _];show wpAny _ A.in1 (pyNext (.ref z) >>=_) _ _ s;refine aFo (O4 H D hsz n I Z λh' kp=>?_);refine aFq (y h' b c ⟨Z.len,Z.nd,λj v r M N=>?_,λc o t J K e=>kp c o t J K (Z.keep c o t J K e)⟩ (kp _ _ g.1 g.2.2.1 g.2.2.2 l));obtain⟨a,O,P,Q,T,U,V⟩:=Z.tup j v r M N;exact⟨a,O,kp _ _ T U V P,Q⟩
 | succ k ih=>
  intro i s b c L hi Z h l y;have f:i<rows.length:=by lia
  refine aGy F.entry_extend_loop ?_;rw[Around.under_plainId F.plain_extend_loop _];show wpAny _ A.in1 (pyNext (.ref z) >>=_) _ _ s;refine aFo (O3 H D hsz n I Z f h λh' v W C kp=>?_);have m :=kp _ _ g.1 g.2.2.1 g.2.2.2 l;show wpAny _ A.in1 (updateSeq S (·.push v) >>=_) _ _ _;refine aFo ?_;have hz:b.size=i:=by rw[<-Z.len];simp
  refine aHk m rfl (aFq ⟨aHg aJ7 _,ih (i+1) _ (b.push v) _ (by lia) f ?_ ?_ (aGq _ m rfl) λE d x G p =>y E d x G p⟩)
   (by rw[hz];lia) (by show (b.push v).size<=sizeLine+1;rw[Array.size_push,hz];lia)
  ·rw[Array.toList_push];exact W.other g (λo e=>by rw[m]at e;cases e;rfl) u λc o t e=>(aGm _ _ (aGr t)).trans e
  ·show _<=(Heap.update _ _ _).objs.size;rw[Heap.size_update];exact aGh h C
end
section
variable {prog:Program}{w:World}{A:Around}{E:aJk}{s:Shared}{z TI TO:Addr}{qs:List Src}{rows:List (List Value)}
theorem KA{h0 h:Heap}{z TI TO:Addr}{qs:List Src}{rows:List (List Value)}{i:Nat}{vs:List Value}(Z:ZC h0 h z TI TO qs rows i vs):h.objs.size≠z/\h.objs.size≠TI/\h.objs.size≠TO/\(∀q∈qs,h.objs.size≠q.it):=by
 have lt:∀a o,h.get? a=some o->h.objs.size≠a:=λa o e=>aIe (aG2 e);refine⟨?_,?_,?_,λq b=>?_⟩
 ·rcases Z.obj with e | ⟨_,_,_,e,_⟩ <;> exact lt _ _ e
 ·obtain⟨_,e⟩:=Z.aJ;exact lt _ _ e
 ·obtain⟨_,_,_,e⟩:=Z.own;exact lt _ _ e
 ·obtain⟨o,e,_⟩:=(Z.at_ q b).obj;exact lt _ _ e
theorem ZC.start{h:Heap}(Z:fX h z TI TO qs .none 0):ZC h h z TI TO qs rows 0 []:=⟨.inl Z.obj,Z.aJ,Z.own,Z.at_,rfl,λj v r a=>by simp at a,List.nodup_nil,λc o _ _ _ e=>e⟩
theorem A7{R:Result->Shared->Prop}(x:A.handled=none)(D:dN z TI TO qs)(hsz:qs.length<=sizeLine)(p:qs≠[]){h0:Heap}(y:ZR h0 qs rows)(B:rows.length<=sizeLine)(Z:ZC h0 s.heap z TI TO qs rows 0 [])(l:h0.objs.size<=s.heap.objs.size){S:Addr}(r:S≠z/\S≠TI/\S≠TO/\(∀q∈qs,S≠q.it))(m:h0.get? S=none)(res:Value){i:Nat}
  (g:s.heap.get? S=some {cls:= .type "list",data:= .seq #[] i})
  (C:∀h' a k,ZF h0 h' z TO qs rows a.toList->h'.get? S=some {cls:= .type "list",dict:=none,data:= .seq a k,slots:= #[]}->R (.ok (.ret res)) {s with heap:=h'}):
  wpAny (model prog w) A.in1 (Builtin.List.listExtendWith (.ref S) (.ref z) res)
   (λfin n =>match fin with | .done f=>R (.ok f) n | .again k =>k.quiet=true/\codeAny (model prog w) A k R n) (λe n =>R (.error e) n) s:=by
 unfold Builtin.List.listExtendWith;refine aFo (aHy Z.type ?_);have G:Builtin.List.listSameRef (.ref S) (.ref z)=false:=by simp[Builtin.List.listSameRef,r.1]
 have H:(Value.type "zip"==Value.type "list")=false:=by decide
 have I:(Value.type "zip"==Value.type "tuple")=false:=by decide
 simp only[G,H,I,Bool.or_false,Bool.false_eq_true,if_false]
 have J:s.heap.get? z=some {cls:= .type "zip",dict:=none,data:= .fields #[.none,.bool false,.bool false,.ref TI,.ref TO],slots:= #[]}\/∃T fl,s.heap.get? z=some (v5 T fl TI TO):=by
  rcases Z.obj with e | ⟨T,fl,_,e,_⟩
  ·exact .inl e
  ·exact .inr ⟨T,fl,e⟩
 have t:∀(Q:aJk) (E:aJk),Q (.ref z) s->wpAny (model prog w) A.in1 (pyIter (.ref z)) Q E s:=λQ E q=>by
  refine aI7 Z.type aJ5 (aGa aJ5 Z.type F.entry_zip_iter ?_ (F.args_zip_iter_1 _));exact aFq ⟨_,rfl,"zip",_,Z.type,aH5.lookup,q⟩
 refine aFo (t _ _ ?_);refine aFo (aGj ?_);unfold Builtin.List.listLengthHint;refine aFo (aJ3 Z.type EC ?_);show wpAny _ A.in1 (specialOf (Value.ref z) (Str.ofString "__length_hint__") >>=_) _ _ _;refine aFo (aJ3 Z.type A8 ?_);refine aFq ?_
 have key:∀(h:Heap) (b:Nat),ZC h0 h z TI TO qs rows 0 []->h0.objs.size<=h.objs.size->h.get? S=some {cls:= .type "list",data:= .seq #[] b}->codeAny (model prog w) A (.builtin "list.extend.loop" ⟨[.ref S,.ref z,res],[]⟩) R {s with heap:=h}:=λh b K L u=>
  ED x D hsz p y B r m res rows.length 0 {s with heap:=h} #[] b rfl (aH2 _) K L u λh' a k M N=>C h' a k M N
 refine aJ4 (λ_=>?_) (λ_=>aFq ⟨aHg aJ7 _,key _ i Z l g⟩);refine aFo (aGx ?_);refine aFo ?_;show wpAny _ A.in1 (updateSeq S (·.push .none) >>=λ_=>updateSeq S (·.pop)) _ _ _;refine aFo (aHk g rfl ?_);have d:=aGq (Obj.mapSeq (·.push Value.none)) g rfl;refine aHk (hz:=by seq_fits) d rfl ?_;have j:=aGq (Obj.mapSeq (·.pop)) d rfl;refine aFq ⟨aHg aJ7 _,key _ _ ?_ ?_ j⟩
 ·refine Z.other r (λo e=>by rw[g]at e;cases e;rfl) m λc o v e=>?_;exact(aGm _ _ (aGr v)).trans ((aGm _ _ (aGr v)).trans e)
 ·rw[Heap.size_update,Heap.size_update];exact l
theorem ZC.push{h0 h:Heap}{i:Nat}{vs:List Value}(Z:ZC h0 h z TI TO qs rows i vs)(o:Obj):ZC h0 (h.push o) z TI TO qs rows i vs:=by
 have up:∀c o',h.get? c=some o' ->(h.push o).get? c=some o' :=λc o' e=>aFr _ e;refine⟨?_,?_,?_,λq g=>(Z.at_ q g).to λo' e=>up _ _ e,Z.len,λj v r k m=>?_,Z.nd,λc o' p s t e=>up _ _ (Z.keep c o' p s t e)⟩
 ·rcases Z.obj with e | ⟨T,fl,o',b,d,f⟩
  ·exact .inl (up _ _ e)
  ·exact .inr ⟨T,fl,o',up _ _ b,up _ _ d,f⟩
 ·obtain⟨n,e⟩:=Z.aJ;exact⟨n,up _ _ e⟩
 ·obtain⟨xs,n,l,e⟩:=Z.own;exact⟨xs,n,l,up _ _ e⟩
 ·obtain⟨a,b,d,f⟩:=Z.tup j v r k m;exact⟨a,b,up _ _ d,f⟩
theorem A9{Q:List Value->Shared->Prop}(n:A.handled=none)(D:dN z TI TO qs)(hsz:qs.length<=sizeLine)(h:qs≠[])(p:fX s.heap z TI TO qs .none 0)(r:ZR s.heap qs rows)(t:rows.length<=sizeLine)
  (k:∀h' vs,ZF s.heap h' z TO qs rows vs->s.heap.objs.size<h'.objs.size->Q vs {s with heap:=h'}):wpAny (model prog w) A (collect (.ref z)) Q E s:=by
 have Z:ZC s.heap s.heap z TI TO qs rows 0 []:=ZC.start p;unfold collect;refine aFo (wpAny_runValue (aGy F.entry_proto_collect ?_));rw[Around.under_plainId F.plain_proto_collect _];show wpAny _ A.in1 (newList [] >>=λl=>again (.builtin "list.__iadd__" ⟨[l,.ref z],[]⟩)) _ _ s;refine aFo (aGg ?_);refine aFq ⟨aHg F.plain_list_iadd _,aGy F.entry_list_iadd ?_⟩;rw[Around.under_plainId F.plain_list_iadd _];have c:(s.heap.push {cls:= .type "list",data:= .seq ([]:List Value).toArray}).get? s.heap.objs.size=some {cls:= .type "list",data:= .seq #[]}:=aFy _ rfl
 have i:s.heap.get? s.heap.objs.size=none:=by
  cases e:s.heap.get? s.heap.objs.size with
  | none=>rfl
  | some o=>exact absurd (aG2 e) (aHa _)
 show wpAny _ A.in1 (Builtin.List.listExtendWith (.ref s.heap.objs.size) (.ref z) (.ref s.heap.objs.size)) _ _ _
 have key:=A7 (prog:=prog) (w:=w) (A:=A) (s:={s with heap:=s.heap.push {cls:= .type "list",data:= .seq ([]:List Value).toArray}})
  (R:=λ(q:Result) (j :Shared)=>∃(h' :Heap) (a :Array Value) (d :Nat),q= .ok (.ret (.ref s.heap.objs.size))/\j ={s with heap:=h'}/\ZF s.heap h' z TO qs rows a.toList/\h'.get? s.heap.objs.size=some {cls:= .type "list",dict:=none,data:= .seq a d,slots:= #[]})
  n D hsz h r t (Z.push _) (by rw[size_push'];lia) (KA Z) i (.ref s.heap.objs.size) c (λh' a d g u=>⟨h',a,d,rfl,rfl,g,u⟩)
 refine aGi key (λfin j x=>?_) λe j x=>?_
 ·cases fin with
  | done f=>
   obtain⟨h',a,d,e,rfl,g,b⟩:=x;cases e;show wpAny _ A (load s.heap.objs.size >>=_) _ _ _;refine aFo (aJ8 b ?_);exact aFq (k h' _ g (aG2 b))
  | again c₁=>
   refine⟨x.1,aHt x.2 λq m y=>?_⟩;obtain⟨h',a,d,rfl,rfl,g,b⟩:=y;show wpAny _ A (load s.heap.objs.size >>=_) _ _ _;refine aFo (aJ8 b ?_);exact aFq (k h' _ g (aG2 b))
 ·obtain⟨_,_,_,v,_⟩:=x;cases v
theorem vS{Q₁:aJk}(j:A.handled=none)(D:dN z TI TO qs)(hsz:qs.length<=sizeLine)(a:qs≠[])(e:fX s.heap z TI TO qs .none 0)(k:ZR s.heap qs rows)(f:rows.length<=sizeLine)
  (h:∀h' vs,ZF s.heap h' z TO qs rows vs->s.heap.objs.size<h'.objs.size->Q₁ (.ref h'.objs.size) {s with heap:=h'.push {cls:= .type "tuple",data:= .seq vs.toArray}}):
  codeAny (model prog w) A (.call (.builtin "tuple.__new__") ⟨[.type "tuple",.ref z],[]⟩) (wants Q₁ E) s:=by
 refine aJ2 ?_;show wpAny _ A.in1 (do checkBuiltinCall "tuple.__new__" ⟨[.type "tuple",.ref z],[]⟩;again (.builtin "tuple.__new__" ⟨[.type "tuple",.ref z],[]⟩)) _ _ s;refine aFo (aIo (F.newCall_tuple_1 _) (aFq ⟨aHg F.plain_tuple_new _,aGy F.entry_tuple_new ?_⟩));rw[Around.under_plainId F.plain_tuple_new _];have g:=sub_tuple_self;have b:=init_tuple_lookup;have l:=madeHere_tuple
 have c:s.TypeIs (.ref z) "zip":=⟨_,e.obj,rfl⟩
 wp_walk using aHy c,A9 (A:=A.in1) j D hsz a e k f
 intro h' vs i d;show wpAny _ _ (Builtin.Tuple.tupleExact vs.toArray >>=λv=>ret v) _ _ _;unfold Builtin.Tuple.tupleExact;refine aFo (aGg ?_ (by show vs.toArray.size<=sizeLine;simp only[List.size_toArray];rw[i.len];exact f));refine aFq ?_;exact h h' vs i d
theorem vU{Q:aJk}(e:A.handled=none)(D:dN z TI TO qs)(hsz:qs.length<=sizeLine)(c:qs≠[])(f:fX s.heap z TI TO qs .none 0)(g:ZR s.heap qs rows)(h:rows.length<=sizeLine)
  (i:∀h' vs,ZF s.heap h' z TO qs rows vs->s.heap.objs.size<h'.objs.size->Q (.ref h'.objs.size) {s with heap:=h'.push {cls:= .type "tuple",data:= .seq vs.toArray}}):
  wpAny (model prog w) A (call (.type "tuple") [.ref z]) Q E s:=by
 refine callType_codes (Q₁:=λobj a=>a.TypeIs obj "tuple"/\Q obj a) F.called_tuple (F.typeCall_tuple_1 _) F.entry_object_init
  (vS e D hsz c f g h λh' vs j d=>⟨⟨_,aFy _ rfl,rfl⟩,i h' vs j d⟩) λobj a b=>?_
 exact⟨b.1,F.args_object_init_2 obj _,object_init_meets F.called_tuple.init.lookup F.called_tuple.made (by decide) prog w A.in1 _ a ⟨b.1,rfl,b.2⟩⟩
theorem wM{Q:aJk}(j:A.handled=none)(D:dN z TI TO qs)(hsz:qs.length<=sizeLine)(i:qs≠[])(k:fX s.heap z TI TO qs .none 0)(l:ZR s.heap qs rows)(m:rows.length<=sizeLine)
  (n:∀h' vs c,ZF s.heap h' z TO qs rows vs->h'.get? s.heap.objs.size=some {cls:= .type "list",dict:=none,data:= .seq vs.toArray c,slots:= #[]}->Q (.ref s.heap.objs.size) {s with heap:=h'}):
  wpAny (model prog w) A (call (.type "list") [.ref z]) Q E s:=by
 have Z:ZC s.heap s.heap z TI TO qs rows 0 []:=ZC.start k
 refine callType_codes (Q₁:=λobj a=>obj= .ref s.heap.objs.size/\a={s with heap:=s.heap.push {cls:= .type "list",data:= .seq #[]}}) PySem.F.called_list (PySem.F.typeCall_list_1 _) PySem.F.entry_list_init
  (code_list_new _ ⟨rfl,rfl⟩) λobj a d=>?_
 obtain⟨rfl,rfl⟩:=d;have f:(s.heap.push {cls:= .type "list",data:= .seq #[]}).get? s.heap.objs.size=some {cls:= .type "list",data:= .seq #[]}:=aFy _ rfl
 have g:s.heap.get? s.heap.objs.size=none:=by
  cases e:s.heap.get? s.heap.objs.size with
  | none=>rfl
  | some o=>exact absurd (aG2 e) (aHa _)
 refine⟨⟨_,f,rfl⟩,PySem.F.args_list_init_2 _ _,?_⟩;show wpAny _ _ (do let old<-Builtin.List.listItems (.ref s.heap.objs.size);Builtin.List.listUpdate (.ref s.heap.objs.size) (λ_=>#[]);letGo old.toList.reverse;Builtin.List.listExtendWith (.ref s.heap.objs.size) (.ref z) .none) _ _ _;refine aFo ?_;unfold Builtin.List.listItems;refine aFo (aH3 f rfl (aFq ?_));show wpAny _ _ (updateSeq s.heap.objs.size (λ_=>#[]) >>=λ_=>letGo (#[]:Array Value).toList.reverse >>=λ_=>Builtin.List.listExtendWith (.ref s.heap.objs.size) (.ref z) .none) _ _ _;refine aFo (aHk f rfl ?_);have b:=aGq (Obj.mapSeq (λ_=>(#[]:Array Value))) f rfl;refine aFo (wpAny_letGo ?_);refine A7 (A:=A.in1) j D hsz i l m ((Z.push _).other (KA Z) (λo e=>by rw[f]at e;cases e;rfl) g λc o p e=>(aGm _ _ (aGr p)).trans e) ?_ (KA Z) g .none b λh' h q r t=>?_
 ·rw[Heap.size_update,size_push'];lia
 ·exact⟨rfl,n h' h.toList q r (by simpa using t)⟩
end
section
variable {X:Cx}{pins:List (Addr×Obj)}{σ:St}{H H' :Hp}{s:Shared}
theorem Inv.YN{fp:List Addr}{h' :Heap}{t' :Nat}(I:Inv X pins σ H s)(d:∀b∈fp,nC X pins H b)(k:∀b o,b∉fp->s.heap.get? b=some o->h'.get? b=some o)
  (a:∀b,b<s.heap.objs.size->H' b=H b) (new:∀b o,s.heap.objs.size<=b->H' b=some o->cW X.prog X.w H' h' b o):Inv X pins σ H' {s with heap:=h',toks:=t'}:=by
 have f:∀b u,H b=some u->b∉fp:=λb u e z=>by rw[(d b z).1]at e;cases e
 have up:∀b u,H b=some u->H' b=some u:=λb u e=>by rw[a b (I.bY b u e).lt];exact e
 refine I.step (g' :=s.gens) (d' :=s.drawn) (ch:=fp) (λb hb=>⟨(d b hb).2.2.2.1,(d b hb).2.1,(d b hb).2.2.2.2.1,(d b hb).2.2.2.2.2⟩) (λb o _ _ hc e _=>k b o hc e) (λb o _ _ hc e _=>⟨o.slots,k b o hc e⟩)
  (λb o _ e n=>by rw[a b (Heap.lt_size e)];exact n) (λb o hc e=>⟨o,k b o hc e⟩) (λb xs e=>up _ _ e) (λb o u e=>up _ _ e)
  (λb ps e=>⟨#[],by rw[up _ _ e];simp⟩) (λm g=>?_) (λb u e=>?_) I.bare
 ·obtain⟨o,h,ep,ho,r⟩:=g;exact⟨o,h,ep,k _ o (λz=>(d _ z).2.1 rfl) ho,r⟩
 ·by_cases hb:b<s.heap.objs.size
  ·rw[a b hb]at e;refine(I.bY b u e).qS (λc v hc q=>k c v ?_ q) (λc q=>up _ _ q) λc xs q=>up _ _ q;rcases hc with rfl | hc
   ·exact f _ u e
   ·exact f _ _ hc
  ·exact new b u (aIf hb) e
end
structure ON{α:Type}(cols rows:List (List α)):Prop where
 row:∀(i:Nat) r,rows[i]? =some r->r.length=cols.length/\∀(j:Nat) xs x,cols[j]? =some xs->r[j]? =some x->xs[i]? =some x
 fin:∃(k:Nat) (vals:List α) (xs:List α),vals.length=k/\cols[k]? =some xs/\xs[rows.length]? =none/\∀(j:Nat) ys x,cols[j]? =some ys->vals[j]? =some x->ys[rows.length]? =some x
open Classical in
noncomputable def qL(H:Hp):List Addr->List (List V)->Hp
 | a::as,r::rs=>upd (qL H as rs) a (.tup r)
 | _,_=>H
theorem i4{H:Hp}:∀{as:List Addr} {rs:List (List V)} {b:Addr},b∉as->qL H as rs b=H b
 | [],rs,b,_=>by cases rs <;> rfl
 | a::as,[],b,_=>rfl
 | a::as,r::rs,b,h=>by
  simp only[List.mem_cons,not_or]at h;show upd (qL H as rs) a (.tup r) b=H b;rw[aM h.1];exact i4 h.2
theorem yR{H:Hp}:∀{as:List Addr} {rs:List (List V)} {j:Nat} {a:Addr} {r:List V},as.Nodup->as[j]? =some a->rs[j]? =some r->qL H as rs a=some (.tup r)
 | [],rs,j,a,r,_,h,_=>by simp at h
 | a' ::as,[],j,a,r,_,_,h=>by simp at h
 | a' ::as,r' ::rs,0,a,r,_,h1,h2=>by
  simp at h1 h2;subst h1 h2;show upd _ _ _ _=_;rw[bR]
 | a' ::as,r' ::rs,j+1,a,r,nd,h1,h2=>by
  simp at h1 h2;have b:a≠a' :=λz=>(aHj.mp nd).1 (z▸aG3 h1);show upd _ _ _ _=_;rw[aM b];exact yR (aHj.mp nd).2 h1 h2
theorem J9{H:Hp}:∀{as:List Addr} {rs:List (List V)} {b:Addr} {o:HO},as.Nodup->b∈as->(∀a∈as,H a=none)->qL H as rs b=some o->∃(j:Nat) (r:List V),as[j]? =some b/\rs[j]? =some r/\o= .tup r
 | as,rs,b,o,nd,hb,hn,e=>by
  obtain⟨j,c⟩:=aGk.mp hb
  cases hr:rs[j]? with
  | some r=>rw[yR nd c hr]at e;cases e;exact⟨j,r,c,hr,rfl⟩
  | none=>
   exfalso
   have go:∀{as:List Addr} {rs:List (List V)} {j:Nat},as.Nodup->as[j]? =some b->rs[j]? =none->qL H as rs b=H b:=by
    intro as
    induction as with
    | nil=>intro rs j _ h _;simp at h
    | cons a as ih=>
     intro rs j nd d f
     cases rs with
     | nil=>rfl
     | cons r rs=>
      cases j with
      | zero=>simp at f
      | succ j=>
       simp at d f;have g:b≠a:=λz=>(aHj.mp nd).1 (z▸aG3 d);show upd _ _ _ _=_;rw[aM g];exact ih (aHj.mp nd).2 d (by simpa using f)
   rw[go nd c hr,hn b hb]at e;cases e
def U3(K:aJj)(T:String)(n:Nat)(c:TA):TE:=λσ H Q=>c σ H λvs b=>∃(src:List (Addr×Bool)) (cols rows:List (List V)),vs=src.map (λp=>V.ref p.1)/\src.length=n/\cols.length=n/\(∀(j:Nat) p xs,src[j]? =some p->cols[j]? =some xs->F1 K b p.2 p.1 xs)/\
 ON cols rows/\rows.length<=sizeLine/\∀(as:List Addr) (p:Addr),as.length=rows.length->as.Nodup->(∀a∈as,b a=none)->b p=none->p∉as->Q (.ref p) (upd (qL b as rows) p (if T= "tuple" then .tup (as.map .ref) else .lst (as.map .ref)))
theorem lM:∀(as:List Addr),Vals (as.map V.ref) (as.map Value.ref)
 | []=>.nil
 | a::as=>.cons rfl (lM as)
theorem aAv{P:Nat->List Value->List V->Prop}:∀{rs:List (List V)},(∀(i:Nat) r,rs[i]? =some r->∃us,P i us r)->∃a:List (List Value),a.length=rs.length/\∀(i:Nat) us r,a[i]? =some us->rs[i]? =some r->P i us r:=by
 intro rs
 induction rs generalizing P with
 | nil=>intro _;exact⟨[],rfl,λi us r h=>by simp at h⟩
 | cons r rs ih=>
  intro h;obtain⟨us,e⟩:=h 0 r rfl;obtain⟨a,f,g⟩:=ih (P:=λi=>P (i+1)) λi r j=>h (i+1) r (by simpa using j);refine⟨us::a,by simp[f],λi b k c d=>?_⟩
  cases i with
  | zero=>simp at c d;subst c d;exact e
  | succ i=>exact g i b k (by simpa using c) (by simpa using d)
theorem F9{X:Cx}{pins:List (Addr×Obj)}{σ:St}{m:Hp}{s1:Shared}{h' :Heap}{T:String}{rows:List (List V)}{d:List (List Value)}{vs:List Value}{B TO:Addr}{qs:List Src}{p:Addr}{c:Nat}(A:Inv X pins σ m s1)(C:∀b,b=B\/b=TO\/(∃q∈qs,b=q.it)->nC X pins m b)
  (L:T= "tuple"\/T= "list") (P:d.length=rows.length) (n:∀(i:Nat) us r,d[i]? =some us->rows[i]? =some r->Vals r us) (Q:rows.length<=sizeLine) (D:∀r∈rows,r.length<=sizeLine)
  (k:ZF s1.heap h' B TO qs d vs) (I:s1.heap.objs.size<=p) (ho:h'.get? p=some {cls:= .type T,dict:=none,data:= .seq vs.toArray c,slots:= #[]}) (s:∀(j:Nat) a,vs[j]? =some (.ref a)->a≠p):
  ∃as:List Addr,as.length=rows.length/\as.Nodup/\(∀a∈as,m a=none)/\m p=none/\p∉as/\Inv X pins σ (upd (qL m as rows) p (if T= "tuple" then .tup (as.map .ref) else .lst (as.map .ref))) {s1 with heap:=h'}:=by
 have J:∀v∈vs,∃a,v= .ref a:=λv n=>by
  obtain⟨j,l⟩:=aGk.mp n;have f:j<d.length:=by have:=(aFp.mp l).1;rw[k.len]at this;exact this
  obtain⟨a,e,_⟩:=k.tup j v _ l (aFu f);exact⟨a,e⟩
 obtain⟨as,rfl⟩:∃as:List Addr,vs=as.map Value.ref:=by
  clear k ho s
  induction vs with
  | nil=>exact⟨[],rfl⟩
  | cons v vs ih=>
   obtain⟨a,rfl⟩:=J v (by simp);obtain⟨as,rfl⟩:=ih λv n=>J v (by simp[n]);exact⟨a::as,rfl⟩
 have E:as.length=rows.length:=by have:=k.len;simp at this;lia
 have nd:as.Nodup:=by
  have:=k.nd;rw[List.nodup_iff_pairwise_ne]at this⊢;rw[List.pairwise_map]at this;exact this.imp λh z=>h (by rw[z])
 have at_:∀(j:Nat) a r,as[j]? =some a->rows[j]? =some r->∃us,Vals r us/\h'.get? a=some {cls:= .type "tuple",data:= .seq us.toArray}/\s1.heap.objs.size<=a:=λj a r F t=>by
  have f:j<d.length:=by have:=(aFp.mp t).1;lia
  have K:=aFu f;obtain⟨R,M,N,O⟩:=k.tup j (.ref a) _ (by rw[List.getElem?_map,F];rfl) K;cases M;exact⟨_,n j _ r K t,N,O⟩
 have new:∀a∈as,s1.heap.objs.size<=a:=λa ha=>by
  obtain⟨j,l⟩:=aGk.mp ha;have f:j<rows.length:=by have:=(aFp.mp l).1;lia
  obtain⟨_,_,_,h⟩:=at_ j a _ l (aFu f);exact h
 have u:∀a∈as,m a=none:=λa ha=>A.bY.fresh (new a ha)
 have G:p∉as:=λha=>by
  obtain⟨j,l⟩:=aGk.mp ha;exact s j p (by rw[List.getElem?_map,l];rfl) rfl
 refine⟨as,E,nd,u,A.bY.fresh I,G,?_⟩;refine A.YN (fp:=B::TO::qs.map (·.it)) (t' :=s1.toks) (λb hb=>C b ?_) (λb o hb e=>k.keep b o (λz=>hb (by simp[z])) (λz=>hb (by simp[z])) (λq H z=>hb (by simp;exact .inr (.inr ⟨q,H,z.symm⟩))) e) (λb hb=>?_) (λb o hb e=>?_)
 ·simp at hb;rcases hb with rfl | rfl | ⟨q,H,rfl⟩
  ·exact .inl rfl
  ·exact .inr (.inl rfl)
  ·exact .inr (.inr ⟨q,H,rfl⟩)
 ·rw[aM (Nat.ne_of_lt (Nat.lt_of_lt_of_le hb I)),i4 λha=>Nat.lt_irrefl _ (Nat.lt_of_lt_of_le hb (new b ha))]
 ·by_cases w:b=p
  ·subst w;rw[bR]at e;cases e;rcases L with rfl | rfl
   ·simp only[if_true];exact⟨by simp;lia,_,lM as,⟨_,ho,rfl,c,rfl⟩,λo' x =>by rw[ho]at x;cases x;rfl⟩
   ·rw[if_neg (by decide)];exact⟨by simp;lia,_,c,lM as,ho⟩
  ·rw[aM w]at e;by_cases y:b∈as
   ·obtain⟨j,r,F,t,rfl⟩:=J9 nd y u e;obtain⟨us,v,g,_⟩:=at_ j b r F t;exact⟨D r (aG3 t),us,v,⟨_,g,rfl,0,rfl⟩,λo' x =>by rw[g]at x;cases x;rfl⟩
   ·rw[i4 y,A.bY.fresh hb]at e;cases e
theorem VT{X:Cx}{n:Nat}{T:String}{t:Str}{e:Expr}{G:List Expr}{ta:TA}{p0 p1 pos m:Pos}(z:JX n)(hn:0<n/\n<=1000)(hc:X.calm=true)(hT:(t= "tuple"/\T= "tuple")\/(t= "list"/\T= "list"))(hgT:Gl X t)(hmT:X.mg t=none)(hvT:bootBuiltins t=some (.type T))(hg:Gl X "zip")(hm:X.mg "zip"=none)(ha:PA X (e::G) ta)
  (hv:bootBuiltins "zip"=some (.type "zip"):=by decide+kernel)
  (he:starEach (e::G) X.env=(false,eval e X.env)::starEach G X.env:=by rfl) (hpl:(backTo pos (starEach G X.env)).any (·.1)=false:=by rfl)
  (U:starEach [.Call (.Name "zip" p0) (e::G) [] pos] X.env=(false,eval (.Call (.Name "zip" p0) (e::G) [] pos) X.env)::starEach [] X.env:=by rfl) (W:(backTo m (starEach [] X.env)).any (·.1)=false:=by rfl):
  PE X (.Call (.Name t p1) [.Call (.Name "zip" p0) (e::G) [] pos] [] m) (U3 X.K T n ta):=by
 intro pins s σ H Q I h;have hTT:T= "tuple"\/T= "list":=hT.elim (λh=>.inl h.2) λh=>.inr h.2;refine aHl (oF I hgT hmT hvT ?_ (by rcases hT with ⟨rfl,_⟩ | ⟨rfl,_⟩ <;> decide) (by rcases hT with ⟨rfl,_⟩ | ⟨rfl,_⟩ <;> decide));refine aH9 ?_ U W;rw[U];show wpAny _ _ (spliced ((false,eval (.Call (.Name "zip" p0) (e::G) [] pos) X.env)::backTo m (starEach [] X.env))) _ _ s;refine aIm ?_;refine aHl (oF I hg hm hv ?_);refine aH9 (cA (ha pos pins s σ H _ I h) λus s1 ⟨vs,Y,I1,r1,q1⟩=>?_) he hpl;obtain⟨src,cols,rows,rfl,hl,hcl,hs,RO,hrl,hR⟩:=q1;have hu:=gQ r1;subst hu;have em:(src.map λp=>Value.ref p.1)=(src.map λp=>(⟨0,p.1,p.2⟩:Src)).map λq=>Value.ref q.l:=by rw[List.map_map];rfl
 have hz:src.length<=sizeLine:=aHr (xB (by lia))
 have col:∀(j:Nat) p,src[j]? =some p->∃xs,cols[j]? =some xs/\F1 X.K Y p.2 p.1 xs:=λj p J=>by
  have d:j<cols.length:=by have:=(aFp.mp J).1;lia
  exact⟨_,aFu d,hs j p _ J (aFu d)⟩
 rw[em];refine yI (by simpa using hz) (z.t _ (by simpa using hl)) (z.n _ (by simpa using hl)) (λobj=>z.i _ obj (by simpa using hl)) (λq g=>?_) λh' zz TI TO t1 t2 t3 D Z kp=>?_
 ·obtain⟨p,hp,rfl⟩:=aG0.mp g;obtain⟨j,J⟩:=aGk.mp hp;obtain⟨xs,_,hx⟩:=col j p J;obtain⟨aJ,_,y⟩:=I1.ZN hx;exact⟨aJ.toArray,y 0⟩
 ·generalize M:bN s1.heap.objs.size (src.map λp=>(⟨0,p.1,p.2⟩:Src))=qs at D Z;have hql:qs.length=src.length:=by rw[<-M,fN];simp
  have N:(qs.map λq=>(q.l,q.tup))=src:=by rw[<-M];exact oG _ _
  have I2:Inv X pins σ Y {s1 with heap:=h'}:=I1.kept (t' :=s1.toks) kp
  have O:∀b,b=zz\/b=TO\/(∃q∈qs,b=q.it)->nC X pins Y b:=λb hb=>by
   have hb0:s1.heap.objs.size<=b:=by
    rcases hb with rfl | rfl | ⟨q,g,rfl⟩
    ·exact t3
    ·exact t2
    ·rw[<-M]at g;exact(d5 g).1
   exact(I1.NV hb0 (I1.bY.fresh hb0):nC X pins Y b)
  have hqj:∀(j:Nat) q,qs[j]? =some q->∃xs aJ,cols[j]? =some xs/\Vals xs aJ/\q.Sq h' aJ.toArray:=λj q J=>by
   have h1:src[j]? =some (q.l,q.tup):=by rw[<-N,List.getElem?_map,J];rfl
   obtain⟨xs,S,hx⟩:=col j _ h1;obtain⟨aJ,r,y⟩:=I2.ZN hx;exact⟨xs,aJ,S,r,y q.it⟩
  have hne:qs≠[]:=by intro e0;rw[e0]at hql;simp at hql;lia
  have colq:∀(j:Nat) xs,cols[j]? =some xs->∃q,qs[j]? =some q:=λj xs J=>by
   have:j<qs.length:=by have:=(aFp.mp J).1;lia
   exact⟨_,aFu this⟩
  have f:∀(i:Nat) (vals:List V),(∀(j:Nat) xs x,cols[j]? =some xs->vals[j]? =some x->xs[i]? =some x)->vals.length<=cols.length->∃us:List Value,Vals vals us/\∀(j:Nat) q u,qs[j]? =some q->us[j]? =some u->∃items,q.Sq h' items/\items[i]? =some u:=λi vals hh hvl=>by
   obtain⟨us,ru,pu⟩:=LX (P:=λj u=>∀q,qs[j]? =some q->∃items,q.Sq h' items/\items[i]? =some u) (vs:=vals) λj v ev=>by
    have d:j<qs.length:=by have:=(aFp.mp ev).1;lia
    obtain⟨xs,aJ,S,r,y⟩:=hqj j _ (aFu d);obtain⟨u,hu,ru⟩:=r.get (hh j xs v S ev);refine⟨u,ru,λq g=>?_⟩;rw[List.getElem?_eq_getElem d]at g;cases g;exact⟨aJ.toArray,y,by simpa using hu⟩
   exact⟨us,ru,λj q u g hu=>pu j u hu q g⟩
  obtain⟨E,F,R⟩:=aAv (P:=λi us r=>Vals r us/\∀(j:Nat) q u,qs[j]? =some q->us[j]? =some u->∃items,q.Sq h' items/\items[i]? =some u) (rs:=rows) λi r hr=>by
   obtain⟨S,e2⟩:=RO.row i r hr;exact f i r e2 (by lia)
  have RR:ZR h' qs E:=by
   refine⟨λi us hus=>?_,?_⟩
   ·have hil:i<rows.length:=by have:=(aFp.mp hus).1;lia
    obtain⟨v,w⟩:=R i us _ hus (aFu hil);refine⟨?_,w⟩;have:=(RO.row i _ (aFu hil)).1;rw[<-v.length,this];lia
   ·obtain⟨k,vals,xs,S,e2,e3,e4⟩:=RO.fin;have hkl:k<cols.length:=(aFp.mp e2).1;obtain⟨us,ru,pu⟩:=f rows.length vals e4 (by lia);obtain⟨q,g⟩:=colq k xs e2;obtain⟨xs',aJ,g1,g2,g3⟩:=hqj k q g;rw[e2]at g1;cases g1;refine⟨k,us,by rw[<-ru.length];exact S,by lia,λj q u a b=>by rw[F];exact pu j q u a b,q,aJ.toArray,g,g3,?_⟩;rw[F,List.getElem?_toArray];exact g2.none_of e3
  have hh:X.A.handled=none:=I.ok.hd hc
  have hrr:∀r∈rows,r.length<=sizeLine:=λr hr=>by
   obtain⟨i,hi⟩:=aGk.mp hr;have:=(RO.row i r hi).1;lia
  refine Calls.spliced_nil ?_;have fpo2:∀b,b=zz\/b=TO\/(∃q∈qs,b=q.it)->nC X pins Y b:=O;rcases hTT with rfl | rfl
  ·refine vU hh D (by lia) hne Z RR (by lia) λL vs B hsl=>?_
   have zf2:ZF h' (L.push {cls:= .type "tuple",data:= .seq vs.toArray}) zz TO qs E vs:=⟨B.len,B.nd,λj v r a b=>by obtain⟨x,y1,C,y3⟩:=B.tup j v r a b;exact⟨x,y1,aFr _ C,y3⟩,λc o c1 c2 c3 e=>aFr _ (B.keep c o c1 c2 c3 e)⟩
   obtain⟨as,a1,a2,a3,a4,a5,a6⟩:=F9 (s1:={s1 with heap:=h'}) (T:= "tuple") (p:=L.objs.size) (c:=0) I2 O (.inl rfl) F (λi us r h1 L=>(R i us r h1 L).1) hrl hrr zf2 (aHr hsl) (aFy _ rfl) (λj a ha=>by
    have d:j<E.length:=by have:=(aFp.mp ha).1;rw[B.len]at this;exact this
    obtain⟨x,y1,C,_⟩:=B.tup j _ _ ha (aFu d);cases y1
    exact aG9 (aG2 C))
   exact⟨.ref L.objs.size,_,a6,rfl,hR as _ a1 a2 a3 a4 a5⟩
  ·refine wM hh D (by lia) hne Z RR (by lia) λL vs c B hob=>?_
   obtain⟨as,a1,a2,a3,a4,a5,a6⟩:=F9 (s1:={s1 with heap:=h'}) (T:= "list") (p:=h'.objs.size) (c:=c) I2 O (.inr rfl) F (λi us r h1 L=>(R i us r h1 L).1) hrl hrr B (aFw _) hob (λj a ha z=>by
    have d:j<E.length:=by have:=(aFp.mp ha).1;rw[B.len]at this;exact this
    obtain⟨x,y1,C,_⟩:=B.tup j _ _ ha (aFu d);cases y1;rw[z,hob]at C;injection C with C;injection C with C
    simp at C)
   exact⟨.ref h'.objs.size,_,a6,rfl,hR as _ a1 a2 a3 a4 a5⟩
end L2
namespace D3
open PySem PySem.Spec PyProof.Rows L2
def aG{α:Type}:List (List α)->List (List α)
 | []=>[]
 | [c]=>c.map λx=>[x]
 | c::d::cs=>List.zipWith List.cons c (aG (d::cs))
theorem rowsOf{α:Type}:∀(cols:List (List α)),cols≠[]->ON cols (aG cols)
 | [],h=>absurd rfl h
 | [c],_=>by
  refine⟨λi r h=>?_,0,[],c,rfl,rfl,by simp[aG],λj ys x _ h=>by simp at h⟩;simp only[aG,List.getElem?_map]at h;obtain⟨x,n,rfl⟩:=aGn.mp h;refine⟨rfl,λj xs y a b=>?_⟩
  cases j with
  | zero=>simp at a b;subst a b;exact n
  | succ j=>simp at b
 | c::d::m,_=>by
  have l:=rowsOf (d::m) (by simp);simp only[aG];generalize aG (d::m)=rs at l;refine⟨λi r h=>?_,?_⟩
  ·rw[List.getElem?_zipWith]at h
   cases a:c[i]? with
   | none=>simp[a]at h
   | some x=>
    cases b:rs[i]? with
    | none=>simp[a,b]at h
    | some r' =>
     simp[a,b]at h;subst h;obtain⟨o,p⟩:=l.row i r' b;refine⟨by simp[o],λj xs y f g=>?_⟩
     cases j with
     | zero=>simp at f g;subst f g;exact a
     | succ j=>exact p j xs y (by simpa using f) (by simpa using g)
  ·by_cases q:c.length<=rs.length
   ·refine⟨0,[],c,rfl,rfl,?_,λj ys x _ h=>by simp at h⟩;rw[List.length_zipWith,Nat.min_eq_left q];simp
   ·obtain⟨k,vals,xs,f,g,s,t⟩:=l.fin;have e:(List.zipWith List.cons c rs).length=rs.length:=by rw[List.length_zipWith];lia
    refine⟨k+1,c[rs.length]'(by lia)::vals,xs,by simp[f],by simpa using g,by rw[e];exact s,λj ys x a b=>?_⟩;rw[e]
    cases j with
    | zero=>simp at a b;subst a b;exact aFu _
    | succ j=>exact t j ys x (by simpa using a) (by simpa using b)
def gE(mh:MH):List D->Option (List (List D))
 | []=>some []
 | x::xs=>match bC mh x,gE mh xs with | some c,some cs=>some (c::cs) | _,_=>none
def wTZ(n:Nat)(w:WA):WE:=λb mh Q=>w b mh λxs a=>∃cols,gE a xs=some cols/\xs.length=n/\(aG cols).length<=sizeLine/\Q (.tup ((aG cols).map .tup)) a
def wLZ(n:Nat)(w:WA):WE:=λb mh Q=>w b mh λxs a=>∃cols,gE a xs=some cols/\xs.length=n/\(aG cols).length<=sizeLine/\Q (.ref a.length) (a++[.lst ((aG cols).map .tup)])
section
variable {K:aJj}{μ:List Addr}{mh:MH}{H:Hp}
theorem sO(R:Rep K μ mh H):∀{xs:List D} {vs:List V} {cols:List (List D)},IsL K μ H xs vs->gE mh xs=some cols->∃(src:List (Addr×Bool)) (cv:List (List V)),vs=src.map (λp=>V.ref p.1)/\src.map (·.2)=xs.map NF/\cv.length=xs.length/\cols.length=xs.length/\(∀(j:Nat) p c,src[j]? =some p->cv[j]? =some c->F1 K H p.2 p.1 c)/\∀(j:Nat) c d,cv[j]? =some c->cols[j]? =some d->IsL K μ H d c
 | [],vs,cols,l,h=>by
  unfold IsL at l;subst l;simp[gE]at h;subst h;exact⟨[],[],rfl,rfl,rfl,rfl,λj p c h=>by simp at h,λj c d h=>by simp at h⟩
 | x::xs,vs,cols,l,h=>by
  unfold IsL at l;obtain⟨v,r,rfl,i,l⟩:=l;simp only[gE]at h
  cases h1:bC mh x with
  | none=>simp[h1]at h
  | some c=>
   cases h2:gE mh xs with
   | none=>simp[h1,h2]at h
   | some cs=>
    simp[h1,h2]at h;subst h;obtain⟨a,ys,rfl,sa,la⟩:=tZ R i h1;obtain⟨src,cv,rfl,f,g,k,m,n⟩:=sO R l h2;refine⟨(a,NF x)::src,ys::cv,rfl,by simp[f],by simp[g],by simp[k],λj p c b e=>?_,λj c d b e=>?_⟩
    ·cases j with
     | zero=>simp at b e;subst b e;exact sa
     | succ j=>exact m j p c (by simpa using b) (by simpa using e)
    ·cases j with
     | zero=>simp at b e;subst b e;exact la
     | succ j=>exact n j c d (by simpa using b) (by simpa using e)
theorem sI:∀{cv:List (List V)} {cd:List (List D)},cv.length=cd.length->(∀(j:Nat) c d,cv[j]? =some c->cd[j]? =some d->IsL K μ H d c)->(aG cd).length=(aG cv).length/\∀(i:Nat) r d,(aG cv)[i]? =some r->(aG cd)[i]? =some d->IsL K μ H d r
 | [],cd,hl,h=>by
  have:cd=[]:=aH7.mp hl.symm;subst this;exact⟨rfl,λi r d g=>by simp[aG]at g⟩
 | [c],cd,hl,h=>by
  match cd,hl with
  | [d],_=>
   have l:=h 0 c d rfl rfl;refine⟨by simp[aG,aN l],λi r e a b=>?_⟩;simp only[aG,List.getElem?_map]at a b;obtain⟨x,q,rfl⟩:=aGn.mp a;obtain⟨y,s,rfl⟩:=aGn.mp b;obtain⟨v,f,k⟩:=eT l s;rw[q]at f;cases f;unfold IsL;exact⟨_,_,rfl,k,by unfold IsL;rfl⟩
 | c::o::cv,cd,hl,h=>by
  match cd,hl with
  | d::p::cd,hl=>
   have l:=h 0 c d rfl rfl;obtain⟨m,n⟩:=sI (cv:=o::cv) (cd:=p::cd) (by simpa using hl) λj c d a b=>h (j+1) c d (by simpa using a) (by simpa using b);simp only[aG];generalize aG (o::cv)=t at m n;generalize aG (p::cd)=u at m n;refine⟨by rw[List.length_zipWith,List.length_zipWith,m,aN l],λi r e a b=>?_⟩;rw[List.getElem?_zipWith]at a b
   cases h1:c[i]? with
   | none=>simp[h1]at a
   | some x=>
    cases h2:t[i]? with
    | none=>simp[h1,h2]at a
    | some r' =>
     cases h3:d[i]? with
     | none=>simp[h3]at b
     | some y=>
      cases h4:u[i]? with
      | none=>simp[h3,h4]at b
      | some r2=>
       simp[h1,h2]at a;simp[h3,h4]at b;subst a b;obtain⟨v,f,k⟩:=eT l h3;rw[h1]at f;cases f;unfold IsL;exact⟨_,_,rfl,k,n i r' r2 h2 h4⟩
theorem BP{e:Hp}:∀{as:List Addr} {b:List (List V)} {c:List (List D)},as.length=b.length->c.length=b.length->(∀(j:Nat) a r,as[j]? =some a->b[j]? =some r->e a=some (.tup r))->(∀(i:Nat) r d,b[i]? =some r->c[i]? =some d->IsL K μ e d r)->IsL K μ e (c.map .tup) (as.map V.ref)
 | [],b,c,h1,h2,_,_=>by
  have h:b=[]:=aH7.mp h1.symm;subst h;have k:c=[]:=aH7.mp h2;subst k;simp[IsL]
 | a::as,b,c,h1,h2,h3,h4=>by
  match b,c,h1,h2 with
  | r::b,d::c,h1,h2=>
   rw[List.map_cons,List.map_cons];unfold IsL;refine⟨_,_,rfl,?_,BP (by simpa using h1) (by simpa using h2) (λj a r f g=>h3 (j+1) a r (by simpa using f) (by simpa using g)) λi r d f g=>h4 (i+1) r d (by simpa using f) (by simpa using g)⟩;unfold Is;exact⟨a,r,rfl,.of (h3 0 a r rfl rfl),h4 0 r d rfl rfl⟩
end
section
variable {X:Cx}{n:Nat}{e:Expr}{es:List Expr}{wa:WA}{p0 p1 pos pos1:Pos}
theorem UN{σ:L2.St}{H:Hp}{Q:VK}{T:String}(hn:0<n)(w:WE)(J:(T= "tuple"/\w=wTZ n wa)\/(T= "list"/\w=wLZ n wa))(h:tL X.K w σ H Q):U3 X.K T n (tLA X.K wa) σ H Q:=by
 obtain⟨μ,B,mh,R,M,En,h,F⟩:=h
 have main:∀(g:List D->MH->Prop),(∀xs f,g xs f->∃cols,gE f xs=some cols/\xs.length=n/\(aG cols).length<=sizeLine/\(if T= "tuple" then R (.tup ((aG cols).map .tup)) f else R (.ref f.length) (f++[.lst ((aG cols).map .tup)])))->wa B mh g->U3 X.K T n (tLA X.K wa) σ H Q:=λg N h=>by
  refine⟨μ,B,mh,_,M,En,h,λxs f q k vs l C m O=>?_⟩;obtain⟨cols,P,hl,hz,q⟩:=N xs f q;obtain⟨src,cv,rfl,E,S,e3,U,W⟩:=sO m O P
  replace E:src.length=xs.length:=by simpa using aGs List.length E
  obtain⟨Y,Z⟩:=sI (by lia) W;have SY:cv≠[]:=λz=>by subst z;simp at S;lia
  refine⟨src,cv,aG cv,rfl,by lia,by lia,U,rowsOf cv SY,by lia,λas p a1 a2 G a4 a5=>?_⟩
  have old:∀b o,l b=some o->qL l as (aG cv) b=some o:=λb o e=>by
   rw[i4 λha=>by rw[G b ha]at e;cases e];exact e
  have P2:aK k l k (qL l as (aG cv)):=⟨⟨[],by simp⟩,λb o e _=>old b o e,λ_ h=>.inl h⟩
  have R2:Rep X.K k f (qL l as (aG cv)):=⟨m.len,m.nd,λn a ob s t=>(m.obj n a ob s t).mono m P2 (i4 λha=>m.ne (G a ha) (aG3 s) rfl)⟩
  have u:qL l as (aG cv) p=none:=by rw[i4 a5];exact a4
  have L:IsL X.K k (qL l as (aG cv)) ((aG cols).map .tup) (as.map V.ref):=BP a1 Y (λj a r v x=>yR a2 v x) λi r d v x=>IsL.mono m P2 d r (Z i r d v x);by_cases I:T= "tuple"
  ·simp only[if_pos I]at q⊢;exact mU R2 (F.at (C.trans P2)) L q p u
  ·simp only[if_neg I]at q⊢;exact gO R2 (F.at (C.trans P2)) L q p u
 rcases J with ⟨rfl,rfl⟩ | ⟨rfl,rfl⟩
 ·exact main _ (λxs f q=>by obtain⟨c,s,t,y,A⟩:=q;exact⟨c,s,t,y,by simp only[if_true];exact A⟩) h
 ·exact main _ (λxs f q=>by obtain⟨c,s,t,y,A⟩:=q;exact⟨c,s,t,y,by rw[if_neg (by decide)];exact A⟩) h
theorem aBn(z:JX n)(g:0<n/\n<=1000)(i:X.calm=true)(b:X.mg "tuple"=none)(j:X.mg "zip"=none)(ha:LA X (e::es) wa)(c:Gl X "tuple":=by rfl)(hg:Gl X "zip":=by rfl)
  (he:starEach (e::es) X.env=(false,eval e X.env)::starEach es X.env:=by rfl) (d:(backTo pos (starEach es X.env)).any (·.1)=false:=by rfl)
  (f:starEach [.Call (.Name "zip" p0) (e::es) [] pos] X.env=(false,eval (.Call (.Name "zip" p0) (e::es) [] pos) X.env)::starEach [] X.env:=by rfl) (a:(backTo pos1 (starEach [] X.env)).any (·.1)=false:=by rfl):
  LE X (.Call (.Name "tuple" p1) [.Call (.Name "zip" p0) (e::es) [] pos] [] pos1) (wTZ n wa):=
 PE.imp (VT z g i (.inl ⟨rfl,rfl⟩) c b vV hg j ha (by decide+kernel) he d f a) λσ H Q h=>UN g.1 _ (.inl ⟨rfl,rfl⟩) h
@[simp] theorem s_tz {b:eK}{mh:MH}{Q:DK}{n:Nat}{w:WA}:wTZ n w b mh Q=(w b mh λxs a=>∃cols,gE a xs=some cols/\xs.length=n/\(aG cols).length<=sizeLine/\Q (.tup ((aG cols).map .tup)) a):=rfl
@[simp] theorem s_lz {b:eK}{mh:MH}{Q:DK}{n:Nat}{w:WA}:wLZ n w b mh Q=(w b mh λxs a=>∃cols,gE a xs=some cols/\xs.length=n/\(aG cols).length<=sizeLine/\Q (.ref a.length) (a++[.lst ((aG cols).map .tup)])):=rfl
end
def g7{α:Type}(xs:List α)(lo hi st:Option Int):List α:=(sliceRange (sliceBounds lo hi st xs.length).1 (sliceBounds lo hi st xs.length).2.1 (sliceBounds lo hi st xs.length).2.2).filterMap (xs[·]?)
theorem qO{xs:List V}{us:List Value}(r:Vals xs us):∀(a:List Nat),Vals (a.filterMap (xs[·]?)) (a.filterMap (us[·]?))
 | []=>.nil
 | i::a=>by
  cases h:xs[i]? with
  | none=>rw[List.filterMap_cons_none h,List.filterMap_cons_none (r.none_of h)];exact qO r a
  | some x=>
   obtain⟨u,b,c⟩:=r.get h;rw[List.filterMap_cons_some h,List.filterMap_cons_some b];exact .cons c (qO r a)
theorem vD{K:aJj}{μ:List Addr}{H:Hp}{ds:List D}{vs:List V}(l:IsL K μ H ds vs):∀(a:List Nat),IsL K μ H (a.filterMap (ds[·]?)) (a.filterMap (vs[·]?))
 | []=>by simp[IsL]
 | i::a=>by
  cases h:ds[i]? with
  | none=>
   have b:vs[i]? =none:=by
    have:=aH0.mp h;exact aH0.mpr (by rw[aN l];exact this)
   rw[List.filterMap_cons_none h,List.filterMap_cons_none b];exact vD l a
  | some x=>
   obtain⟨u,c,d⟩:=eT l h;rw[List.filterMap_cons_some h,List.filterMap_cons_some c];unfold IsL;exact⟨_,_,rfl,d,vD l a⟩
def aEm(K:aJj):V->Option Int->Option Int->Option Int->Hp->VK->Prop:=λx lo hi st H Q=>∃a xs,x= .ref a/\oV K H a xs/\st≠some 0/\∀p,H p=none->Q (.ref p) (upd H p (.lst (g7 xs lo hi st)))
def aDk(r:V->Option Int->Option Int->Option Int->Hp->VK->Prop)(te:TE)(a b ts:TO):TE:=λσ H Q=>te σ H λx c=>a σ c λl d=>b σ d λu e=>ts σ e λst f=>r x l u st f Q
section
variable {X:Cx}{e est:Expr}{te:TE}{lo hi:Option Expr}{tl th ts:TO}{pos p2:Pos}
theorem II(he:PE X e te)(t:PO X lo tl)(y:PO X hi th)(f:PO X (some est) ts):PE X (.Subscript e (.Slice lo hi (some est) p2) pos) (aDk (aEm X.K) te tl th ts):=by
 intro pins s σ H Q I h;refine Subscript_ (cA (he pins s σ H _ I h) λv s1 g=>?_);obtain⟨x,z,B,C,D⟩:=g;refine wpAny_Slice (cA (t pins s1 σ z _ B D) λm s2 ⟨l,E,F,G,J⟩=>cA (y pins s2 σ E _ F J) λn L ⟨u,M,N,O,P⟩=>cA (f pins L σ M _ N P) λvs c j=>?_);obtain⟨st,R,S,ps,T⟩:=j;have k:Inv X pins σ R {c with heap:=c.heap.push {cls:= .type "slice",data:= .fields #[m,n,vs]}}:=S.kept (t' :=c.toks) λb ob q=>aFr _ q;obtain⟨a,xs,rfl,U,h0,q⟩:=T;cases C;obtain⟨aJ,r,ht,hz⟩:=k.list U;have d:=r.length;show wpAny (model X.prog X.w) X.A (subscriptTail e (.Slice lo hi (some est) p2) (.ref a) (.ref c.heap.objs.size)) (EP X pins σ Q) X.xe {c with heap:=c.heap.push {cls:= .type "slice",data:= .fields #[m,n,vs]}};refine tail_any (ops:=[.ref a,.ref c.heap.objs.size]) ht.isList.typeIs slot_list_getitem.lookup ?_ (by with_unfolding_all rfl);refine wpAny_getItem_list_slice ht.isList (Heap.IsSliceOf.new ..) G O ps h0 ?_ (by rw[List.size_toArray] <;> lia)
 have p:Vals (g7 xs l u st) (slicePick aJ.toArray l u st).toList:=by
  unfold slicePick g7;rw[List.size_toArray,d,List.toList_toArray];have e:(λi:Nat=>aJ.toArray[i]?)=λi=>aJ[i]? :=by funext i;simp
  rw[e];exact qO r _
 have hsz:=slicePick_size_le aJ.toArray l u st;refine⟨.ref _,_,k.laid (t' :=c.toks) (o:= .lst (g7 xs l u st)) (λb ob q=>aFr _ q) (aFw _) ?_,rfl,q _ (k.bY.fresh (aFw _))⟩;refine⟨?_,_,0,p,?_⟩
 ·rw[p.length,Array.length_toList];simp at hsz;lia
 ·rw[Array.toArray_toList];exact aFy _ rfl
end
section
variable {X:Cx}{e est:Expr}{w:WE}{lo hi:Option Expr}{wl wh ws:WO}{pos p2:Pos}
def KL(w:WE)(wl wh ws:WO):WE:=λb mh Q=>w b mh λx c=>wl b c λl d=>wh b d λu e=>ws b e λst a=>∃ds,nA a x=some ds/\st≠some 0/\Q (.ref a.length) (a++[.lst (g7 ds l u st)])
theorem XF(he:LE X e w)(f:LO X lo wl)(t:LO X hi wh)(v:LO X (some est) ws):LE X (.Subscript e (.Slice lo hi (some est) p2) pos) (KL w wl wh ws):=PE.imp (II he f t v) λσ H Q q=>by
 obtain⟨μ,b,mh,R,c,E,h,F⟩:=q;refine⟨μ,b,mh,_,c,E,h,λdx g x i y J d p z=>⟨i,b,g,_,p,E.mono c d,x,λl j A k K P2 R2=>⟨k,b,j,_,R2,E.mono c (d.trans P2),A,λu m B n L o C=>⟨n,b,m,_,C,E.mono c ((d.trans P2).trans o),B,λst D G I M r R4=>?_⟩⟩⟩⟩;obtain⟨ds,f,h0,q⟩:=G;obtain⟨a,vs,rfl,sq,s⟩:=uZ R4 (Is.mono p ((P2.trans o).trans r) dx y z) f;refine⟨a,vs,rfl,sq,h0,gO R4 (F.at (((d.trans P2).trans o).trans r)) (ds:=g7 ds l u st) ?_ q⟩;unfold g7;rw[aN s];exact vD s _
@[simp] theorem s_sl3 {b:eK}{mh:MH}{Q:DK}:KL w wl wh ws b mh Q=(w b mh λx c=>wl b c λl d=>wh b d λu e=>ws b e λst a=>∃ds,nA a x=some ds/\st≠some 0/\Q (.ref a.length) (a++[.lst (g7 ds l u st)])):=rfl
end
def mE{α:Type}:List α->List α
 | []=>[]
 | [a]=>[a]
 | a::_::r=>a::mE r
def uV{α:Type}:List α->List α
 | []=>[]
 | [_]=>[]
 | _::b::r=>b::uV r
theorem rM{α:Type}:∀(xs:List α),(List.range ((xs.length+1) / 2)).filterMap (λk=>xs[2*k]?)=mE xs
 | []=>by simp[mE]
 | [a]=>by simp[mE]
 | a::b::r=>by
  have e:((a::b::r).length+1) / 2=(r.length+1) / 2+1:=by simp only[List.length_cons];lia
  rw[e,List.range_succ_eq_map,List.filterMap_cons_some (b:=a) (by simp),List.filterMap_map,mE,<-rM r];congr 1
theorem uP{α:Type}:∀(xs:List α),(List.range (xs.length / 2)).filterMap (λk=>xs[2*k+1]?)=uV xs
 | []=>by simp[uV]
 | [a]=>by simp[uV]
 | a::b::r=>by
  have e:(a::b::r).length / 2=r.length / 2+1:=by simp only[List.length_cons];lia
  rw[e,List.range_succ_eq_map,List.filterMap_cons_some (b:=b) (by simp),List.filterMap_map,uV,<-uP r];congr 1
theorem EY{α:Type}(xs:List α):g7 xs none none (some 2)=mE xs:=by
 rw[<-rM];unfold g7 sliceRange sliceBounds;simp only[Option.getD_some,show (2:Int) > 0 by lia,if_true];have e:(if (0:Int)<xs.length then ((xs.length:Int)-0+2-1) / 2 else 0).toNat=(xs.length+1) / 2:=by split <;> lia
 rw[e,List.filterMap_map];congr 1;funext k;have:((0:Int)+2*(k:Int)).toNat=2*k:=by lia
 simp only[Function.comp,this]
theorem IF{α:Type}(xs:List α):g7 xs (some 1) none (some 2)=uV xs:=by
 rw[<-uP];unfold g7 sliceRange sliceBounds;simp only[Option.getD_some,show (2:Int) > 0 by lia,if_true,show ¬((1:Int)<0) by lia,if_false];by_cases h0:xs.length=0
 ·have:xs=[]:=aH7.mp h0;subst this;simp
 ·have em:max 0 (min (1:Int) (xs.length:Int))=1:=by lia
  rw[em];have e:(if (1:Int)<xs.length then ((xs.length:Int)-1+2-1) / 2 else 0).toNat=xs.length / 2:=by split <;> lia
  rw[e,List.filterMap_map];congr 1;funext k;have:((1:Int)+2*(k:Int)).toNat=2*k+1:=by lia
  simp only[Function.comp,this]
def BJ(e wi f:WE):WE:=λc mh Q=>e c mh λo a=>∃n,o= .ref n/\(∃kvs,a[n]? =some (.dic false kvs))/\wi c a λi d=>f c d λx b=>∃kvs key,b[n]? =some (.dic false kvs)/\i=bJ key/\Q ((dG kvs i).getD x) b
section
variable {X:Cx}{o i x:Expr}{wo wi wx:WE}{apos fF pos tpos:Pos}
theorem X8{K:aJj}{μ:List Addr}{mh:MH}{H:Hp}{n:Nat}{v:V}{kvs:List (D×D)}(R:Rep K μ mh H)(h:Is K μ H (.ref n) v)(e:mh[n]? =some (.dic false kvs)):∃a,v= .ref a/\IsD H a:=by
 obtain⟨a,vs,rfl,c,⟨kk,b,_,_⟩,_⟩:=vN R h e;exact⟨a,rfl,.inl ⟨kk,.inl b⟩⟩
theorem RW(T:X.A.units+64<cLine)(ho:LE X o wo)(hi:LE X i wi)(C:LE X x wx)(base:attributeBase o "get" X.env (eval o X.env)=eval o X.env:=by rfl)
  (J4:((backTo fF (starEach [i,x] X.env)).all (λx=>!x.1) && (backToKw fF (keywordEach [] X.env)).all (λx=>x.1.isSome) && decide (([i,x]:List Expr).length+([]:List Keyword).length+(if ([]:List Keyword).isEmpty then 0 else 1)<30))=true:=by rfl)
  (line:(apos.endLine==fF.line)=true:=by rfl) (trees:backTo fF (starEach [i,x] X.env)=[(false,eval i X.env),(false,eval x X.env)]:=by rfl):
  LE X (.Call (.Attribute o "get" apos) [i,x] [] fF) (BJ wo wi wx):=PE.imp (L4 (by lia) ho hi C ⟨base,J4,line,trees⟩) λσ H Q h=>by
 obtain⟨μ,b,mh,R,c,En,h,F⟩:=h;refine⟨μ,b,mh,_,c,En,h,λD d q f U V g j u=>?_⟩;obtain⟨n,rfl,⟨v,E⟩,q⟩:=q;obtain⟨a,rfl,G⟩:=X8 j u E;refine⟨a,rfl,G,f,b,d,_,j,En.mono c g,q,λW m I p Y Z P2 R2 J=>?_⟩;refine⟨p,b,m,_,R2,En.mono c (g.trans P2),I,λdx K L M vx H3 y r N=>?_⟩;obtain⟨kvs,key,e,rfl,q⟩:=L;obtain⟨a',vs,O,hn,⟨kk,z,P,rfl⟩,l⟩:=vN r (Is.mono j (P2.trans y) _ _ u) e;cases O;cases p5 J;have B:=F.at ((g.trans P2).trans y)
 rcases yZ key P l with ⟨s,t⟩ | ⟨d',w,s,t,S⟩
 ·rw[t]at q;exact⟨none,by rw[<-s];exact .k z,B.here r q N⟩
 ·rw[t]at q;exact⟨some w,by rw[<-s];exact .k z,B.here r q S⟩
@[simp] theorem aEd {c:eK}{mh:MH}{Q:DK}:BJ wo wi wx c mh Q=(wo c mh λo a=>∃n,o= .ref n/\(∃kvs,a[n]? =some (.dic false kvs))/\wi c a λi d=>wx c d λx b=>∃kvs key,b[n]? =some (.dic false kvs)/\i=bJ key/\Q ((dG kvs i).getD x) b):=rfl
end
end D3
namespace ST
open PySem PySem.SetTable PySem.Spec
section
variable {prog:Program}{w:World}{K:Type}[DecidableEq K]{knd:KeyKind prog w K}{A:Around}{R:Result->Shared->Prop}{I:Addr}{fp wr:List Addr}{G:Array GenState->Array GenState->Prop}{n:Nat}{P:Nat->Value->Prop}{St:Nat->Shared->Prop}
theorem y4{l:Bool}(W:WalksS prog w A.in1 I fp wr G n P St)(S:Addr)(j:S∉fp)
  (xs:List K) (O:xs.length=n) (m:∀i v,P i v->∃k,xs[i]? =some k/\knd.is k v=true/\v.scannable=true) (hb:∀i,(aR [] (xs.take i)).length+1<scanBound):
  ∀(k i:Nat) (s:Shared),n-i=k->i<=n->St i s->gP knd l s.heap S (aR [] (xs.take i))->
   (∀a,Moved (S::wr) G s a ->gP knd l a.heap S (aR [] xs)->R (.ok (.ret .none)) a)->
   codeAny (model prog w) A (.builtin "set.update.loop" ⟨[.ref S,.ref I],[]⟩) R s:=by
 have p:S∉wr:=λh=>j (W.sub _ h);have c:∀b∈wr,b∈S::wr:=λb hb=>aFt _ hb;intro k
 induction k with
 | zero=>
  intro i s M hi f z B;have C:i=n:=by lia
  subst C;refine aGy aIi ?_;rw[Around.under_plainId PyProof.Rows.F.plain_set_update_loop _];show wpAny _ A.in1 (pyNext (.ref I) >>=_) _ _ s;refine aFo (W.done s _ _ f λa q=>?_);show wpAny _ A.in1 (ret Value.none) _ _ a;refine aFq (B a (q.mono c) ?_);rw[List.take_of_length_le (by lia)]at z;exact z.keep λo e=>q.heap S _ p e
 | succ k ih=>
  intro i s M hi f z B;have r:i<n:=by lia
  refine aGy aIi ?_;rw[Around.under_plainId PyProof.Rows.F.plain_set_update_loop _];show wpAny _ A.in1 (pyNext (.ref I) >>=_) _ _ s;refine aFo (W.item i s _ _ r f λv a N t q=>?_);obtain⟨key,D,d,hsc⟩:=m i v N;have E :gP knd l a.heap S (aR [] (xs.take i)):=z.keep λo e=>q.heap S _ p e;show wpAny _ A.in1 (holding [v] (setAdd S v) >>=_) _ _ a;refine aFo (aGj ?_);unfold setAdd;refine aGj ?_;refine aFo (knd.pyHash (k:=key) d ?_);have g:(aR [] (xs.take i)).length+1<scanBound:=hb i;refine yO (s:={a with toks:=a.toks+1}) d hsc E g λb h' u H=>?_
  have J:gP knd l h' S (aR [] (xs.take (i+1))):=by
   rw[List.take_add_one,D];simpa[aR] using H
  refine aFq ⟨aHg PyProof.Rows.F.plain_set_update_loop _,ih (i+1) _ (by lia) r (W.frame _ a _ _ t (aJe _) λb hb o e=>?_) J λL x y =>?_⟩
  ·rw[u.2 b (λh:b=S=>j (by rw[<-h];exact hb))];exact e
  ·refine B L (Moved.trans W.gtrans ((q.mono c).then_heap (aJe _) λb o hb e=>?_) x) y;rw[u.2 b (λh:b=S=>hb (by rw[h];exact List.mem_cons_self))];exact e
end
section
variable {prog:Program}{w:World}{K:Type}[DecidableEq K]{knd:KeyKind prog w K}{A:Around}{E:aJk}{s:Shared}
theorem HV{l:Addr}{items:Array Value}{xs:List K}{Q:aJk}
  (hh:A.handled=none) (hl:s.heap.IsList l items) (hx:xs.length=items.size) (hi:∀(i:Nat) (v:Value),items[i]? =some v->∃k,xs[i]? =some k/\knd.is k v=true/\v.scannable=true) (hb:∀i,(aR [] (xs.take i)).length+1<scanBound)
  (h:∀(h' :Heap) (D:Nat),gP knd (hC w) h' s.heap.objs.size (aR [] xs)->
   (∀b o,b<s.heap.objs.size->s.heap.get? b=some o->h'.get? b=some o)->Q (.ref s.heap.objs.size) {s with heap:=h',toks:=D}):
  wpAny (model prog w) A (call (.type "set") [.ref l]) Q E s:=by
 obtain⟨c,tl,V⟩:=aI0.mro;have H:=aI0.made;have W:=aI0.sub;refine wpAny_call (aJ2 ?_);show wpAny _ _ (callAny (.type "set") _) _ _ _;refine aFq ⟨Code.quiet_builtin _ (by decide+kernel),aGy F.entry_type_call ?_⟩;rw[Around.under_plain (weight_type_call_type "set" [.ref l] []) rfl];have h1:=aI0.notType;have h2:=aI0.canCreate;have hct:=F.typeCall_set_1 (.ref l)
 repeat (any_goals (first | assumption | wp_step))
 refine aHt (MD (.ref l) (E:=E) (Q₁:=λobj f=>obj= .ref s.heap.objs.size/\f={s with heap:=s.heap.push {cls:= .type "set",dict:=none,data:= .set #[] 0 (.fresh 0 0 (hC w))}}) ⟨rfl,rfl⟩) λr f I=>?_
 cases r with
 | error e=>exact I
 | ok fl=>
  cases fl with
  | ret obj=>
   obtain⟨rfl,rfl⟩:=I;generalize n:hC w=led at*;have X:(s.heap.push {cls:= .type "set",dict:=none,data:= .set #[] 0 (.fresh 0 0 led)}).get? s.heap.objs.size=some {cls:= .type "set",dict:=none,data:= .set #[] 0 (.fresh 0 0 led)}:=aFy _ rfl
   have hT:Shared.TypeIs {s with heap:=s.heap.push {cls:= .type "set",dict:=none,data:= .set #[] 0 (.fresh 0 0 led)}} (.ref s.heap.objs.size) "set":=⟨_,X,rfl⟩
   have hli:=aI0.init.lookup;have hbi:=aI0.init.bind (.ref s.heap.objs.size)
   repeat (any_goals (first | assumption | wp_step))
   refine aHt (codeAny_call_builtin (R:=wants (λr g=>r= .none/\∃h' D,g={s with heap:=h',toks:=D}/\
     gP knd led h' s.heap.objs.size (aR [] xs)/\
     (∀b o,b<s.heap.objs.size->s.heap.get? b=some o->h'.get? b=some o)) E) aI0.init.plain F.entry_set_init (check_set_init_1 hT ?_)) λp g a=>?_
   ·obtain⟨ol,q,t,Y,u⟩:=hl;obtain⟨Z,j,J,d⟩:=ol;simp only at t u;subst t;subst u;have x :(s.heap.push {cls:= .type "set",dict:=none,data:= .set #[] 0 (.fresh 0 0 led)}).get? l=some {cls:= .type "list",dict:=j,data:= .seq items Y,slots:=d}:=aFr _ q;have hsls:=F.sub_list_set;have hslf:=F.sub_list_frozenset;have hne:(Value.type "list"==Value.type "dict")=false:=by decide
    have y:(s.heap.push {cls:= .type "set",dict:=none,data:= .set #[] 0 (.fresh 0 0 led)}).IsList l items:=⟨_,x,rfl,Y,rfl⟩
    unfold Builtin.«set.__init__» noKeywords Builtin.Frozenset.updateFrom;generalize L:pyIter=PI
    wp_walk
    subst L;refine wpAny_pyIter_list y ?_;refine aFo (wpAny_runValue ?_);have z:l<s.heap.objs.size:=aG2 q;have M:A.in1.in1.in1.handled=none:=by simp[hh]
    have B:l≠(s.heap.push {cls:= .type "set",dict:=none,data:= .set #[] 0 (.fresh 0 0 led)}).objs.size:=by
     rw[Heap.size_push];exact aG9 (aGt z)
    have N:s.heap.objs.size∉[(s.heap.push {cls:= .type "set",dict:=none,data:= .set #[] 0 (.fresh 0 0 led)}).objs.size,l]:=by
     rw[Heap.size_push];simp only[List.mem_cons,List.mem_singleton,List.not_mem_nil,or_false,not_or];exact⟨aG9 (aHf _),aIe z⟩
    refine y4 (knd:=knd) (l:=led) ((Walks.list M _ l B items).toS) s.heap.objs.size
     N xs hx hi hb (items.size-0) 0 _ (by lia) (aH2 _)
     ⟨⟨_,aFy _ rfl,rfl,rfl⟩,(y.push _)⟩ ?hS0 ?hR
    case hS0=>
     have C:((s.heap.push {cls:= .type "set",dict:=none,data:= .set #[] 0 (.fresh 0 0 led)}).push {cls:= .type "list_iterator",data:= .fields #[.ref l,.int 0 0]}).get? s.heap.objs.size
       =some {cls:= .type "set",dict:=none,data:= .set #[] 0 (.fresh 0 0 led)}:=aFr _ X
     subst n;exact vH C
    case hR=>
     intro s' G m;obtain⟨h',g',d',O,P⟩:=s';have eg:g' =s.gens:=G.gens;have ed:d' =s.drawn:=G.drawn;have eo:P =s.os:=G.os;subst eg;subst ed;subst eo;show wpAny _ _ _ _ _ _;refine aFq ?_;show wpAny _ _ (ret Value.none) _ _ _;refine aFq ⟨rfl,h',O,rfl,m,λb o hb e=>?_⟩;have S:b≠s.heap.objs.size:=aG9 hb
     have T:b≠(s.heap.push {cls:= .type "set",dict:=none,data:= .set #[] 0 (.fresh 0 0 led)}).objs.size:=by
      rw[Heap.size_push];exact aG9 (aGt hb)
     exact G.heap b o (by simp only[List.mem_cons,List.mem_singleton,List.not_mem_nil,or_false,not_or];exact⟨S,T⟩) (aFr _ (aFr _ e))
   ·cases p with
    | error e=>exact a
    | ok fl₂=>
     cases fl₂ with
     | ret r=>
      obtain⟨rfl,h',D,rfl,m,U⟩:=a
      repeat (any_goals (first | assumption | wp_step))
      exact h _ _ m U
     | _=>exact a.elim
  | _=>exact I.elim
end
end ST
namespace D3
open PySem PySem.Spec PyProof.Rows L2
theorem zN{α:Type}[DecidableEq α]:∀(a ys:List α),a.Nodup->(∀x∈a,x∈ys)->a.length<=ys.length
 | [],ys,_,_=>by simp
 | x::a,ys,nd,h=>by
  have c:=aHj.mp nd;have:=zN a (ys.erase x) c.2 λy b=>(List.mem_erase_of_ne (λz:y=x=>c.1 (by rw[<-z];exact b))).mpr (h y (aFt _ b));have e:=List.length_erase_of_mem (h x aFs);have l:=List.length_pos_of_mem (h x aFs);simp only[List.length_cons]
  lia
theorem vY{ks ys:List Key}(h:∀k∈ks,k∈ys)(i:Nat):(ST.aR [] (ks.take i)).length<=ys.length:=
 zN _ _ (gJ (by simp)) λk a=>h k (aH8 (by rw[ST.jY]at a;simpa using a))
section
variable {X:Cx}
theorem JQ(c:X.calm=true):cX X (.type "set") (λxs H Q=>∃(a:Addr) (ks:List Key),xs=[.ref a]/\oV X.K H a (ks.map kV)/\(∀i,(ST.aR [] (ks.take i)).length+1<scanBound)/\∀p,H p=none->Q (.ref p) (upd H p (A3 X.prog X.w p (ST.aR [] ks)))):=by
 intro pins s σ H xs us Q I r q;obtain⟨a,ks,rfl,sq,hb,q⟩:=q;obtain⟨u,rfl,d⟩:=vals1 r;cases d;obtain⟨aJ,f,g,hz⟩:=I.list sq;obtain⟨j,k⟩:=w4 (P:=X.prog) (w:=X.w) f;refine ST.HV (knd:=aW X.prog X.w) (I.ok.hd c) g.isList (xs:=ks) (by simpa using j) (λi v h=>k i v (by simpa using h)) hb λh' l m n=>?_;exact⟨.ref s.heap.objs.size,_,I.laid (a:=s.heap.objs.size) (o:=A3 X.prog X.w s.heap.objs.size (ST.aR [] ks)) (t' :=l) (λb o e=>n b o (aG2 e) e) (aFw _) (zA m),rfl,q _ (I.bY.fresh (aFw _))⟩
end
def d7(w:WE):WE:=λc mh Q=>w c mh λx b=>∃ks ys:List Key,nA b x=some (ks.map bJ)/\(∀k∈ks,k∈ys)/\ys.length<4000/\F0 (ks.map bJ)/\
 ∀a :List Key,(∀k,k∈a ↔k∈ks)->a.Nodup->a.length<=ys.length->(a.map bJ).Pairwise (λd e=>lx (enc e) (enc d)=false)->Q (.ref b.length) (b++[.lst (a.map bJ)])
@[simp] theorem P7 (w:WE)(c:eK)(mh:MH)(Q:DK):d7 w c mh Q=(w c mh λx b=>∃ks ys:List Key,nA b x=some (ks.map bJ)/\(∀k∈ks,k∈ys)/\ys.length<4000/\F0 (ks.map bJ)/\
 ∀a :List Key,(∀k,k∈a ↔k∈ks)->a.Nodup->a.length<=ys.length->(a.map bJ).Pairwise (λd e=>lx (enc e) (enc d)=false)->Q (.ref b.length) (b++[.lst (a.map bJ)])):=rfl
section
variable {X:Cx}{e:Expr}{w:WE}{p1 p2 p3 pos:Pos}
theorem QU{te:TE}(c:X.calm=true)(d:X.mg "set"=none)(he:PE X e te)(hg:Gl X "set":=by rfl)
  (b:starEach [e] X.env=(false,eval e X.env)::starEach [] X.env:=by rfl):PE X (.Call (.Name "set" p2) [e] [] p3) (tCB (λxs H Q=>∃(a:Addr) (ks:List Key),xs=[.ref a]/\oV X.K H a (ks.map kV)/\(∀i,(ST.aR [] (ks.take i)).length+1<scanBound)/\∀p,H p=none->Q (.ref p) (upd H p (A3 X.prog X.w p (ST.aR [] ks)))) (KU te U5)):=
 xO (JQ c) hg d Y3 (sS he zG b) (by decide) (by decide) b rfl
theorem wA(x:X.A.units+64<cLine)(j:X.calm=true)(y:X.mg "set"=none)(n:X.mg "sorted"=none)(he:LE X e w)(hg:Gl X "set":=by rfl)(o:Gl X "sorted":=by rfl)
  (z:starEach [e] X.env=(false,eval e X.env)::starEach [] X.env:=by rfl)
  (m:starEach [.Call (.Name "set" p2) [e] [] p3] X.env=(false,eval (.Call (.Name "set" p2) [e] [] p3) X.env)::starEach [] X.env:=by rfl):
  LE X (.Call (.Name "sorted" p1) [.Call (.Name "set" p2) [e] [] p3] [] pos) (d7 w):=
 PE.imp (uS (mH x j) o n m7 (sS (QU j y he hg z) zG m) (by decide) (by decide) m rfl) λσ H Q h=>by
  obtain⟨μ,B,mh,R,C,E,h,F⟩:=h;refine⟨μ,B,mh,_,C,E,h,λdx D G I P S J r K=>?_⟩;obtain⟨ks,ys,L,f,M,U,q⟩:=G;obtain⟨a,vs,rfl,sq,l⟩:=uZ r K L;cases qY l;have u:(ST.aR [] ks).length<=ys.length:=by have:=vY f ks.length;rwa [List.take_length]at this
  have b:∀k,k∈ST.aR [] ks↔k∈ks:=λk=>by rw[ST.jY];simp
  refine⟨a,ks,rfl,sq,λi=>by have:=vY f i;unfold scanBound;lia,λp v=>?_⟩;show ∃N g,[V.ref p]=[.ref N]/\_;refine⟨p,ST.aR [] ks,rfl,bR,by lia,?_,λg s pw=>?_⟩
  ·rcases U with ⟨c,j⟩ | ⟨c,O,j⟩
   ·exact .inl ⟨c,λd hd=>by obtain⟨k,t,rfl⟩:=aG0.mp hd;exact j _ (aG0.mpr ⟨k,(b k).mp t,rfl⟩)⟩
   ·exact .inr ⟨c,O,λd hd=>by obtain⟨k,t,rfl⟩:=aG0.mp hd;exact j _ (aG0.mpr ⟨k,(b k).mp t,rfl⟩)⟩
  ·exact gO (r.new v) (F.at (J.trans (aK.new r v))) (sV g) (q g (λk=>by rw[s.mem_iff,b]) (s.symm.nodup (gJ (by simp))) (by have:=s.length_eq;lia) pw)
end
abbrev cF(P:Program)(W:World)(K:aJj)(mg:aJm)(base:Heap)(N:List Str)(q:Str)(S:Stmt)(f:Addr)(cd:Value)(A:Around)(o:List Env)(s:Shared)(H:Hp)(E:XK):Cx:=(vP D9 P W K mg base N q (aC S) f cd A o s H E).Q9
section
variable {P:Program}{W:World}{K:aJj}{mg:aJm}{base:Heap}{N:List Str}{q:Str}{S:Stmt}{f:Addr}{cd:Value}{A:Around}{o:List Env}{s:Shared}{H:Hp}{E:XK}
 {tg iter elt:Expr} {ifs:List Expr} {scope:Scope} {pos:Pos} {wi:WI} {g:TG} {gd:WG} {t:WT} {w:WE} (own:List Str) (aH:List Nat)
def cN(N own:List Str)(aH:List Nat):List Str:=own++aH.map λi=>N.getD i ""
theorem XJ(chk:iS N (aC S) scope aH=true)(nd:(cN N own aH).Nodup)(a:oR K g gd)(ho:F4 own.length g)
  (hi:LI (cF P W K mg base N q S f cd A o s H E) tg iter wi)
  (hg:(cN N own aH).Nodup->∀cl C fp s₀ H₀,PG (aZ (cF P W K mg base N q S f cd A o s H E) own aH scope cl C fp s₀ H₀) tg g) (ht:∀cl C fp s₀ H₀,TL (aZ (cF P W K mg base N q S f cd A o s H E) own aH scope cl C fp s₀ H₀) ifs t)
  (he:∀cl C fp s₀ H₀,LE (aZ (cF P W K mg base N q S f cd A o s H E) own aH scope cl C fp s₀ H₀) elt w)
  (b:∀x,foldedSetIterable iter (cF P W K mg base N q S f cd A o s H E).env x=pure x:=by intro _;rfl):LE (cF P W K mg base N q S f cd A o s H E) (.ListComp elt [⟨tg,iter,ifs,0⟩] scope pos) (EB own aH wi gd t w):=
 aBp (N:=N) (sc:=aC S) own aH rfl rfl chk rfl hi ho a (hg nd) ht he b
end
open PySem.Calls
noncomputable def kE(P:Params)(x:Str)(t:Tok)(v:Value):DictEntry:=⟨PyData.keyHash P x,.str x t,v⟩
noncomputable def kF(x:Str)(st:Stmt)(m:Value)(c:Addr)(d:Value:= .none):Obj:=⟨.type "function",none,.func (PySem.W.fnOf x x (eW st) (cJ st) (aC st) d .none .none m none (.ref c) .none),#[]⟩
noncomputable def kC(x:Str)(t:Nat)(l n:Int)(T c:Nat)(u v:Value:= .none)(k:Nat:=3):Obj:=
 ⟨.type "code",none,.fields #[.str x t,.str x (t+1),.str "/claim/cut.py" (t+2),.int l 0,.int n 0,.int 0 0,.int 0 0,.int 3 0,.ref (c-k),.bool true,.int 181 0,.ref (c-k+1),.none,u,v,.ref (c-1),.int T 0,.int l 0,.str "/claim/cut.py" (T+1)],#[]⟩
noncomputable def kD(x:Str)(t:Nat)(l n:Int)(T c:Nat):Obj:=kC x t l n T c (.ref (c-3)) (.ref (c-2)) 5
noncomputable def kQ(p:Program)(ks:List Nat):Program:={p with main:={p.main with body:=ks.filterMap λi=>p.main.body[i]?}}
theorem aD0{l:PySem.W.OpenLaw}{q:Program}{loose:List Str}{K:Params->aJj}{as:List Addr}{d:DefRec}{a:List (Str×Expr)}{N:Nat}(ok:l.wellSaid=true)(e:∀P,as=(K P).map (·.1))
  (left:PySem.W.LeftO l.prog q loose (λ_=>true) (λs=>as.map s.heap.get?) (λw=>(K w.params).map λp=>some p.2) N)
  (b:PySem.W.defOf q l.name=some (d,a)) (h:l.prog.theDef l.name=some (d.params,d.body,d.scope)) (i:PySem.W.kwWritten? d.params.kwonlyargs d.params.kw_defaults=some a)
  (g:(PySem.W.chainsOk q && PySem.W.opensWell l.prog && (PySem.W.frees l.row.toRowW && l.row.within.isEmpty))=true) (hb:l.prog.bare) (j:l.row.toRowW.promised)
  (call:PySem.W.WalkO q loose (λ_ _=>True) (PySem.W.InK K) l.row.toRowW d a λf vs=>PySem.call f vs):l.Holds:=
 PySem.W.holds_law ok λc=>PySem.W.holds_open (r:=l.row) (XP:=λ_ _=>True) left (PySem.W.InK.of e) PySem.W.InK.keeps (λ_ _=>trivial) (λ_ _ _ _ _=>trivial) b h i
  (λs _=>PySem.W.recFacts_of (R:=[]) rfl) (Bool.or_true _) c g hb j call
def mN(w:eK->MH->(List D->MH->Prop)->Prop):WE:=λc mh Q=>w c mh λys b=>∃ks:List Key,ys=ks.map bJ/\ks.length<4000/\F0 (ks.map bJ)/\
 ∀a :List Key,(∀k,k∈a ↔k∈ks)->a.Nodup->a.length<=ks.length->(a.map bJ).Pairwise (λd e=>lx (enc e) (enc d)=false)->Q (.ref b.length) (b++[.lst (a.map bJ)])
theorem PJ(ks:List Key):(ks.map kV).filterMap qQ=ks:=by
 induction ks with
 | nil=>rfl
 | cons k ks ih=>cases k <;> simp[kV,qQ,ih]
theorem PK{ds a:List D}(U:F0 ds)(p:∀d∈a,d∈ds):F0 a:=by
 rcases U with ⟨c,h⟩ | ⟨c,b,h⟩
 ·exact .inl ⟨c,λd hd=>h d (p d hd)⟩
 ·exact .inr ⟨c,b,λd hd=>h d (p d hd)⟩
section
variable {P:Program}{W:World}{K:aJj}{mg:aJm}{base:Heap}{N:List Str}{q:Str}{S:Stmt}{f:Addr}{cd:Value}{A:Around}{o:List Env}{s:Shared}{H:Hp}{E:XK}
 {tg iter elt:Expr} {ifs:List Expr} {scope:Scope} {pos p1 p2:Pos} {wi:WI} {g:TG} {gd:WG} {t:WT} {w:WE} (own:List Str) (aH:List Nat)
theorem RT{o1:Nat}{e l:Expr}{u:List Expr}{j:WI}{v:TG}{m:WG}{y:WT}(chk:iS N (aC S) scope aH=true)(nd:(cN N own aH).Nodup)(T:oR K g gd)(z:oR K v m)(B:o1<=own.length)(ho:F4 o1 g)
  (D:GIn o1 own.length v) (hi:LI (cF P W K mg base N q S f cd A o s H E) tg iter wi)
  (hg:(cN N own aH).Nodup->∀cl C fp s₀ H₀,PG (aZ (cF P W K mg base N q S f cd A o s H E) own aH scope cl C fp s₀ H₀) tg g) (ht:∀cl C fp s₀ H₀,TL (aZ (cF P W K mg base N q S f cd A o s H E) own aH scope cl C fp s₀ H₀) ifs t)
  (SI:∀cl C fp s₀ H₀,LI (aZ (cF P W K mg base N q S f cd A o s H E) own aH scope cl C fp s₀ H₀) e l j)
  (G:(cN N own aH).Nodup->∀cl C fp s₀ H₀,PG (aZ (cF P W K mg base N q S f cd A o s H E) own aH scope cl C fp s₀ H₀) e v) (I:∀cl C fp s₀ H₀,TL (aZ (cF P W K mg base N q S f cd A o s H E) own aH scope cl C fp s₀ H₀) u y)
  (he:∀cl C fp s₀ H₀,LE (aZ (cF P W K mg base N q S f cd A o s H E) own aH scope cl C fp s₀ H₀) elt w) (V:(cF P W K mg base N q S f cd A o s H E).A.units+64<cLine) (Y:mg "sorted"=none)
  (Z:∀x,foldedSetIterable iter (cF P W K mg base N q S f cd A o s H E).env x=pure x:=by intro _;rfl) (J:∀env x,foldedSetIterable l env x=pure x:=by intro _ _;rfl) (L:Gl (cF P W K mg base N q S f cd A o s H E) "sorted":=by rfl)
  (n:starEach [.SetComp elt [⟨tg,iter,ifs,0⟩,⟨e,l,u,0⟩] scope pos] (cF P W K mg base N q S f cd A o s H E).env=(false,eval (.SetComp elt [⟨tg,iter,ifs,0⟩,⟨e,l,u,0⟩] scope pos) (cF P W K mg base N q S f cd A o s H E).env)::starEach [] (cF P W K mg base N q S f cd A o s H E).env:=by rfl):
  LE (cF P W K mg base N q S f cd A o s H E) (.Call (.Name "sorted" p1) [.SetComp elt [⟨tg,iter,ifs,0⟩,⟨e,l,u,0⟩] scope pos] [] p2) (mN (UQ own aH wi gd t j m y w)):=
 PE.imp (uS (mH V rfl) L Y m7 (sS (VZ (b:=true) (N:=N) (sc:=aC S) (wi:=U6 K wi) (tt:=OQ K t) (tb:=EJ P W true (U6 K j) v (OQ K y) (tL K w)) own o1 aH rfl rfl chk rfl hi B ho (hg nd) (λcl C fp s₀ H₀=>ht cl C fp s₀ H₀)
  (λa cl C fp s₀ H₀=>JT (b:=true) rfl rfl (SI cl C fp s₀ H₀) (G nd cl C fp s₀ H₀) D (I cl C fp s₀ H₀) (he cl C fp s₀ H₀)) J Z) zG n) (by decide) (by decide) n rfl) λσ H Q h=>by
  obtain⟨μ,ρ,mh,R,RR,En,h,F⟩:=h;unfold tCB KU U5;refine MZ (X:=cF P W K mg base N q S f cd A o s _ E) T z RR En h λμ1 μ' H1 H' mh' dys ys a P1 P' O R' ha' e' l' c=>?_;obtain⟨ks,rfl,h4,U,c⟩:=c;cases qY l';have p:=ST.oQ ks ([]:List Key);simp at p;have i:∀k,k∈ST.aR [] ks↔k∈ks:=λk=>by rw[ST.jY];simp
  have e2:H' a=some (A3 P W a (ST.aR [] ks)):=by
   have e3:H' a=some (A3 P W a (ST.aR [] ((ks.map kV).filterMap qQ))):=e'
   rwa [PJ]at e3
  refine⟨a,ST.aR [] ks,rfl,e2,by lia,PK U λd hd=>?_,λr M pw=>?_⟩
  ·obtain⟨k,hk,rfl⟩:=aG0.mp hd;exact aG0.mpr ⟨k,(i k).mp hk,rfl⟩
  ·exact gO R' (F.at (P1.trans P')) (sV r) (c r (λk=>by rw[M.mem_iff,i]) (M.symm.nodup (gJ (by simp))) (by have:=M.length_eq;lia) pw)
end
def GC(n:Nat)(b:WA):WI:=λc mh Q=>b c mh λxs a=>∃cols,gE a xs=some cols/\xs.length=n/\(aG cols).length<=sizeLine/\Q ((aG cols).map .tup) (λmh' =>gE mh' xs=some cols) a
section
variable {X:Cx}{n:Nat}{e:Expr}{es elts:List Expr}{wa:WA}{p pos tpos:Pos}
theorem KZ:∀{as bs:List (Addr×Bool)},as.map (λp=>V.ref p.1)=bs.map (λp=>V.ref p.1)->as.map (·.2)=bs.map (·.2)->as=bs
 | [],[],_,_=>rfl
 | [],_::_,h,_=>by cases h
 | _::_,[],h,_=>by cases h
 | (a,t)::as,(b,u)::bs,h,k=>by
  simp only[List.map_cons,List.cons.injEq,V.ref.injEq]at h k;obtain⟨rfl,h⟩:=h;obtain⟨rfl,k⟩:=k;rw[KZ h k]
theorem RP{x1}(z:JX n)(hn:0<n/\n<=1000)(hg:Gl X "zip")(hm:X.mg "zip"=none)(ha:LA X (e::es) wa)
  (he:starEach (e::es) X.env=(false,eval e X.env)::starEach es X.env:=by rfl) (D:(backTo pos (starEach es X.env)).any (·.1)=false:=by rfl):
  LI X (.Tuple elts x1 tpos) (.Call (.Name "zip" p) (e::es) [] pos) (GC n wa):=
 PI.imp (LY z hn hg hm ha (by decide+kernel) he D) λσ H R h=>by
  obtain⟨μ,ρ,mh,o,RR,En,h,F⟩:=h;refine⟨μ,ρ,mh,_,RR,En,h,λxs E q t vs T P1 U W=>?_⟩;obtain⟨cols,hs,hl,hz,q⟩:=q;obtain⟨src,cv,rfl,Y,e2,e3,e4,e5⟩:=sO U W hs;have G:src.length=xs.length:=by simpa using aGs List.length Y
  refine⟨src,rfl,by rw[G,hl],λI J=>?_,F _ _ E q t _ T P1 U ?_⟩
  ·obtain⟨j,Z,rfl⟩:=aHd J;exact⟨cv[j]'(by lia),e4 j _ _ (aFu Z) (aFu _)⟩
  have hcne:cols≠[]:=λz=>by subst z;simp at e3;lia
  have f:∀μ' mh' H',eF t T μ' H' ->Rep X.K μ' mh' H' ->gE mh' xs=some cols->∃a :List (List V),a.length=xs.length/\(∀(j:Nat) p c,src[j]? =some p->a[j]? =some c->F1 X.K H' p.2 p.1 c)/\∀(j:Nat) c d,a[j]? =some c->cols[j]? =some d->IsL X.K μ' H' d c:=λμ' mh' H' w o st=>by
   obtain⟨src',a,f0,f1,r,f3,s,x⟩:=sO o (IsL.jI w _ _ W) st;cases KZ f0 (Y.trans f1.symm);exact⟨a,r,s,x⟩
  refine⟨by simpa using hz,λμ' mh' H' w o st i d ed=>?_,λμ' mh' H' w o st=>?_⟩
  ·obtain⟨a,r,s,x⟩:=f μ' mh' H' w o st;have g:a ≠[]:=λz=>by subst z;simp at r;lia
   obtain⟨L,zi⟩:=sI (cv:=a) (cd:=cols) (by lia) x;rw[List.getElem?_map]at ed;obtain⟨rd,y,rfl⟩:=aGn.mp ed;have M:i<(aG a).length:=by rw[<-L];exact(aFp.mp y).1
   have A:=aFu M;obtain⟨N,rr⟩:=(rowsOf a g).row i _ A;have il:=zi i _ _ A y;refine⟨⟨_,by rw[N,r,G],λk a' t' v O hv=>?_⟩,λz' H'' yl=>?_⟩
   ·have l :k<a.length:=by have:=(aFp.mp O).1;lia
    exact⟨_,s k _ _ O (aFu l),rr k _ _ (aFu l) hv⟩
   ·obtain⟨I,vs,hp,rfl,rfl,P,Q⟩:=yl
    have ev:vs=(aG a)[i]:=by
     refine List.ext_getElem (by rw[P,N,r,G]) λk h1 B=>?_;have l :k<a.length:=by rw[<-N];exact B
     have m:k<src.length:=by lia
     have a1:=Q k (src[k]).1 (src[k]).2 _ (aFu m) (aFu h1) _ (s k _ _ (aFu m) (aFu l));have a2:=rr k _ _ (aFu l) (aFu B);rw[a1]at a2;exact aG8 a2
    subst ev;have Pn:aK μ' H' μ' (upd H' I (.tup (aG a)[i])):=aK.new o hp;refine⟨Pn,o.new hp,?_⟩;unfold Is;exact⟨I,_,rfl,.of bR,IsL.mono o Pn _ _ il⟩
  ·obtain⟨a,r,s,x⟩:=f μ' mh' H' w o st;have g:a ≠[]:=λz=>by subst z;simp at r;lia
   obtain⟨L,zi⟩:=sI (cv:=a) (cd:=cols) (by lia) x;obtain⟨k,vals,S,h1,B,h3,h4⟩:=(rowsOf a g).fin;have O:k<a.length:=(aFp.mp B).1;have m:k<src.length:=by lia
   rw[List.length_map,L];refine⟨k,(src[k]).1,(src[k]).2,S,aFu m,s k _ _ (aFu m) B,aH0.mp h3,λj b u Z hb=>?_⟩;have C:j<a.length:=by lia
   have:=h4 j _ _ (aFu C) (aFu (by lia));exact⟨_,s j _ _ hb (aFu C),(aFp.mp this).1⟩
end
theorem BK:∀{bs a:List Bool} {us:List Value} {h:Heap},cZ h (bs.map .bl) us->cZ h (a.map .bl) us->bs=a
 | [],[],_,_,_,_=>rfl
 | [],c::a,us,h,p,q=>by simp only[List.map_nil,List.map_cons]at p q;unfold cZ at p q;subst p;obtain⟨_,_,e,_⟩:=q;cases e
 | b::bs,[],us,h,p,q=>by simp only[List.map_nil,List.map_cons]at p q;unfold cZ at p q;subst q;obtain⟨_,_,e,_⟩:=p;cases e
 | b::bs,c::a,us,h,p,q=>by
  simp only[List.map_cons]at p q;unfold cZ at p q;obtain⟨u,r,rfl,f,g⟩:=p;obtain⟨j,k,e,d,i⟩:=q;cases e;unfold Vl at f d;rw[f]at d;cases d;rw[BK g i]
theorem x9:∀(bs a:List Bool),eG (bs.map .bl) (a.map .bl)=decide (bs=a)
 | [],[]=>by simp[eG]
 | [],c::a=>by simp[eG]
 | b::bs,[]=>by simp[eG]
 | b::bs,c::a=>by simp only[List.map_cons,eG,jZ,x9 bs a,List.cons.injEq];cases b <;> cases c <;> simp
def WN:O2:=λx y mh Q=>∃(n m:Nat) (a:List Nat) (bss:List (List Bool)) (xs:List Bool),y= .ref n/\mh[n]? =some (.lst (a.map .ref))/\x= .ref m/\mh[m]? =some (.lst (xs.map .bl))/\a.map (λk=>mh[k]?)=bss.map (λbs=>some (MO.lst (bs.map .bl)))/\Q (.bl (bss.elem xs)) mh
section
variable {X:Cx}{pins:List (Addr×Obj)}{σ:L2.St}{H:Hp}{s:Shared}{μ:List Addr}{mh:MH}
theorem oP:∀bs:List Bool,eD (bs.map .bl)=true/\cK (bs.map .bl)=0
 | []=>⟨rfl,rfl⟩
 | b::bs=>by simp[eD,bare,cK,deep,oP bs]
theorem KN{m:Nat}{bs:List Bool}{v:V}{u:Value}(I:Inv X pins σ H s)(R:Rep X.K μ mh H)(a:mh[m]? =some (.lst (bs.map .bl)))(i:Is X.K μ H (.ref m) v)(r:RelV v u):Vl s.heap (.fl (bs.map .bl)) u:=by
 have e:dM mh (.ref m)= .fl (bs.map .bl):=by simp[dM,a]
 have:=qN I R (d:= .ref m) (by rw[e];exact(oP bs).1) i r
 rwa [e]at this
theorem BL(I:Inv X pins σ H s)(R:Rep X.K μ mh H):∀{c:List Nat} {bss:List (List Bool)} {vs:List V} {us:List Value},c.map (λk=>mh[k]?)=bss.map (λbs=>some (MO.lst (bs.map .bl)))->IsL X.K μ H (c.map .ref) vs->Vals vs us->cZ s.heap (bss.map λbs=>.fl (bs.map .bl)) us
 | [],[],vs,us,_,l,r=>by simp only[List.map_nil]at l⊢;unfold IsL at l;subst l;cases r;unfold cZ;rfl
 | [],_::_,_,_,h,_,_=>by cases h
 | _::_,[],_,_,h,_,_=>by cases h
 | m::c,bs::bss,vs,us,h,l,r=>by
  simp only[List.map_cons,List.cons.injEq]at h l⊢;unfold IsL at l;obtain⟨v,d,rfl,e,l⟩:=l
  cases r with
  | cons a b=>unfold cZ;exact⟨_,_,rfl,KN I R h.1 e a,BL I R h.2 l b⟩
theorem PF{h:Heap}{bs f:List Bool}{u:Value}(p:Vl h (.fl (bs.map .bl)) u)(q:Vl h (.fl (f.map .bl)) u):bs=f:=by
 unfold Vl at p q;obtain⟨a,us,rfl,⟨o,ho,_,n,hd⟩,l⟩:=p;obtain⟨j,d,e,⟨o',b,_,k,c⟩,g⟩:=q;cases e;rw[ho]at b;cases b;rw[hd]at c;injection c with i m;have:us=d :=by simpa using aGs Array.toList i
 subst this;exact BK l g
open Classical in
theorem any_bools{h:Heap}{xs:List Bool}:∀{bss:List (List Bool)} {us:List Value},cZ h (bss.map λbs=>.fl (bs.map .bl)) us->us.any (λu=>decide (Vl h (.fl (xs.map .bl)) u))=bss.elem xs/\∀u∈us,∃bs,Vl h (.fl (bs.map .bl)) u/\decide (Vl h (.fl (xs.map .bl)) u)=decide (bs=xs)
 | [],us,l=>by simp only[List.map_nil]at l;unfold cZ at l;subst l;exact⟨rfl,λu a=>by cases a⟩
 | bs::bss,us,l=>by
  simp only[List.map_cons]at l;unfold cZ at l;obtain⟨u,r,rfl,p,l⟩:=l;obtain⟨b,c⟩:=any_bools (xs:=xs) l
  have e:decide (Vl h (.fl (xs.map .bl)) u)=decide (bs=xs):=by
   by_cases hb:bs=xs
   ·subst hb;simp[p]
   ·have:¬Vl h (.fl (xs.map .bl)) u:=λz=>hb (PF p z);simp[this,hb]
  refine⟨?_,λw hw=>?_⟩
  ·rw[List.any_cons,b,e,List.elem_cons];by_cases hb:bs=xs
   ·subst hb;simp
   ·have d:¬xs=bs:=λz=>hb z.symm;have f:(xs==bs)=false:=by simpa using d
    rw[f];simp[hb]
  ·rcases aFx.mp hw with rfl | hw
   ·exact⟨bs,p,e⟩
   ·exact c w hw
open Classical in
theorem WK(D:X.A.units+64<cLine):dO X (compareOp .In) (bB X.K WN):=by
 intro pins s σ H x y v u Q I d f q;obtain⟨μ,mh,dx,E,R,b,g,h,⟨n,m,G,bss,xs,rfl,i,rfl,j,he,q⟩,F⟩:=q;obtain⟨a,vs,rfl,_,k,l⟩:=g9 b h i;have c :u=Value.ref a:=f;subst c;obtain⟨aJ,o,r,hz⟩:=I.list (.of k);have t:=KN I b j g d;obtain⟨z,B⟩:=any_bools (xs:=xs) (BL I b he l o);refine SeqAt.in_listAt (λu=>decide (Vl s.heap (.fl (xs.map .bl)) u)) r.isList (λw C=>?_) ⟨.bl _,H,I,rfl,?_⟩
 ·obtain⟨bs,p,e⟩:=B w (by simpa using C);have:=j4 1 (A:=X.A.in1) (s:=s) (by simp[deep,oP]) (by show X.A.units+1+1+1<_;lia) p t;rw[show jZ (.fl (bs.map .bl)) (.fl (xs.map .bl))=decide (bs=xs) from x9 bs xs,<-e]at this;exact this
 ·rw[show aJ.toArray.any (λu=>decide (Vl s.heap (.fl (xs.map .bl)) u))=aJ.any (λu=>decide (Vl s.heap (.fl (xs.map .bl)) u)) by simp,z];exact F.here b q .bl
end
end D3
namespace LR
open PySem PyProof.Rows L2 D3
def kK(a:OA):WS:=(dE (aX eJ (aB 2) (aF a (aA (aB 0) (aA (aF fG (aA (aB 2) aD)) aD)))))
def kL(a:OA):WS:=(aS (gI (cY (aX oEq (aB 1) (wC (.int 2)))) (dE (aX CG (aF a (aA (aB 0) (aA (aX f9 (aX sC (wC (.int 2)) (wC (.int 1048576))) (wC (.int 1))) aD))) (wC (.int 1048576)))) dQ) (kK a))
def kM(a:OA):WS:=(aS (gI (cY (aX oEq (aB 1) (wC (.int 1)))) (dE (aX CG (aF a (aA (aB 0) (aA (wC (.int 401)) aD))) (wC (.int 200)))) dQ) (kL a))
def fJ(a:OA):WS:=(aS (gI (cY (aX oEq (aB 1) (wC (.int 0)))) (dE (aX CG (aF a (aA (aB 0) (aA (wC (.int 13)) aD))) (wC (.int 6)))) dQ) (kM a))
def nN(a:OA):WS:=(dE (f7 (aA (aF yP (aA (aB 3) (aA (aB 4) aD))) (aA (aF D7 (aA (aB 3) (aA (aB 4) aD))) aD))))
def nO(a:OA):WS:=(aS (gI (cY (aX oEq (aB 3) (aB 4))) (dE (wIf (cY (aX oEq (aB 3) (wC (.int 1048576)))) (f7 (aA (aX CG (aB 3) (wC (.int 1))) (aA (aB 3) aD))) (f7 (aA (aB 3) (aA (aX f9 (aB 3) (wC (.int 1))) aD))))) dQ) (nN a))
def nP(a:OA):WS:=(aS (bX (aF a (aA (aB 0) (aA (aB 1) (aA (aB 2) aD)))) (gN 4)) (nO a))
def iF(a:OA):WS:=(aS (bX (aF a (aA (aB 0) (aA (aB 1) (aA (aB 2) aD)))) (gN 3)) (nP a))
def iG(a b:OA):WS:=(iN (GG "list" cI (aB 5) (aA (f7 (aA (aB 7) (aA (aB 9) (aA (aB 8) (aA (aB 10) aD))))) aD)))
def iH(b a:OA):WS:=(aS (bX (aF a (aA (aB 0) (aA (aB 2) (aA (aB 4) aD)))) (gT 2 (bH (gN 9) (bH (gN 10) iQ)))) (iG b a))
def kJ(b a:OA):WS:=(aS (bX (aF a (aA (aB 0) (aA (aB 2) (aA (aB 4) aD)))) (gT 2 (bH (gN 7) (bH (gN 8) iQ)))) (iH b a))
def lA(a b:OA):WS:=(dE (aB 5))
def lB(a b:OA):WS:=(aS (lK (nT (aA (aB 3) aD)) (gN 6) (kJ a b)) (lA a b))
def lC(a b:OA):WS:=(aS (bX (e7 aD) (gN 5)) (lB a b))
def lD(a b:OA):WS:=(aS (bX (aX f9 (EB ["_law_k"] [0] (nT (aA (wC (.int 4)) aD)) (gN 0) kU (aX CG (aF a (aA (aB 1) (aA (wC (.int 2097153)) aD))) (wC (.int 1048576)))) (e7 (aA (EA m9 (wC (.int 1048576))) (aA (wC (.int 1048576)) (aA (wC (.int 0)) (aA (wC (.int 1)) aD)))))) (gN 4)) (lC a b))
def lE(a b:OA):WS:=(aS (bX (aF a (aA (aB 0) (aA (aX eJ (e7 (aA (aX f9 (aB 1) (wC (.int 1))) (aA (wC (.int 13)) (aA (wC (.int 13)) (aA (wC (.int 7)) aD))))) (aF a (aA (aB 0) (aA (wC (.int 4)) aD)))) aD))) (gN 3)) (lD a b))
def gG(a b:OA):WS:=(aS (bX (aF a (aA (aB 0) (aA (wC (.int 4)) aD))) (gN 2)) (lE a b))
def lI:WS:=(gI (PC (cY (aX oEq (aF fG (aA (aB 1) aD)) (wC (.int 0)))) (cY (aX OV (aB 2) (aX eJ (aX eJ (aB 1) (EA m9 (wC (.int 1)))) (wC (.int 1)))))) (iN (GG "list" cI (aB 1) (aA (f7 (aA (aB 2) (aA (aB 3) aD))) aD))) (gI (cY (aX OV (aB 3) (aX eJ (aX eJ (aB 1) (EA m9 (wC (.int 1)))) (wC (.int 1))))) (tQ (f7 (aA (aX eJ (aX eJ (aB 1) (EA m9 (wC (.int 1)))) (wC (.int 0))) (aA (aB 3) aD))) (aB 1) (EA m9 (wC (.int 1)))) dQ))
def nQ:WS:=(dE (aF rF (aA (aB 1) aD)))
def nR:WS:=(aS (lK (dP (aF HM (aA (aB 0) aD))) (gT 2 (bH (gN 2) (bH (gN 3) iQ))) (lI)) (nQ))
def iM:WS:=(aS (bX (e7 aD) (gN 1)) (nR))
def dZ(a:OA):WS:=(gI (pB (cY (aX OV (aF fG (aA (aB 5) aD)) (wC (.int 0)))) (pB (cY (aX OV (aF fG (aA (aB 2) aD)) (wC (.int 0)))) (pB (cY (aX oEq (aX eJ (aX eJ (aB 2) (EA m9 (wC (.int 1)))) (wC (.int 1))) (aB 3))) (cY (aX oEq (aX eJ (aX eJ (aB 2) (EA m9 (wC (.int 1)))) (wC (.int 2))) (aB 5)))))) (tQ (f7 (aA (aX eJ (aX eJ (aB 2) (EA m9 (wC (.int 1)))) (wC (.int 0))) (aA (aB 4) (aA (aB 5) aD)))) (aB 2) (EA m9 (wC (.int 1)))) (gI (cY (aX OV (aF fG (aA (aB 5) aD)) (wC (.int 0)))) (iN (GG "list" cI (aB 2) (aA (f7 (aA (aB 3) (aA (aB 4) (aA (aB 5) aD)))) aD))) dQ))
def eZ(a:OA):WS:=(aS (bX (aF a (aA (EB ["_law_rect"] [3,4] (dP (aB 0)) (gN 0) (pB (cY (aX oLe (aX eJ (aB 0) (wC (.int 1))) (aB 1))) (cY (aX oGe (aX eJ (aB 0) (wC (.int 3))) (aB 2)))) (f7 (aA (aX eJ (aB 0) (wC (.int 0))) (aA (aX eJ (aB 0) (wC (.int 2))) aD)))) aD)) (gN 5)) (dZ a))
def kG(a:OA):WS:=(dE (aF rF (aA (aB 2) aD)))
def kH(a:OA):WS:=(aS (lK (tO (aA (aB 1) (aA (TZ Q8 (aB 1) (lJ (wC (.int 1))) OP) aD))) (gT 2 (bH (gN 3) (bH (gN 4) iQ))) (eZ a)) (kG a))
def kI(a:OA):WS:=(aS (bX (e7 aD) (gN 2)) (kH a))
abbrev P2:=Int×Int
structure R4 where
 x0:Int
 y0:Int
 x1:Int
 y1:Int
structure Bd where
 lo:Int
 hi:Int
 ln:List P2
def sD(s:P2):D:= .tup [.int s.1,.int s.2]
def rD(r:R4):D:= .tup [.int r.x0,.int r.y0,.int r.x1,.int r.y1]
def cR(l:List P2):D:= .tup (l.map sD)
def bD(b:Bd):D:= .tup [.int b.lo,.int b.hi,cR b.ln]
def gD(g:List Bd):D:= .tup (g.map bD)
def zH(a b:P2):Bool:=decide (a.1<b.1\/(a.1=b.1/\a.2<=b.2))
def iC(l:List P2):List P2:=l.mergeSort zH
def aY(f:List P2)(s:P2):List P2:=match f.getLast? with
 | none=>[s]
 | some t=>if t.2<s.1 then f++[s] else if t.2<s.2 then f.dropLast++[(t.1,s.2)] else f
def bM(l:List P2):List P2:=(iC l).foldl aY []
def qZ(x:Int):List Int->List Int
 | []=>[x]
 | y::l=>if x<y then x::y::l else if x=y then y::l else y::qZ x l
def cO(l:List Int):List Int:=l.foldr qZ []
def aL(rs:List R4)(lo hi:Int):List P2:=(rs.filter λr=>decide (r.y0<=lo) && decide (hi<=r.y1)).map λr=>(r.x0,r.x1)
def aU(rs:List R4)(f:List Bd)(p:P2):List Bd:=
 if bM (aL rs p.1 p.2)=[] then f else match f.getLast? with
  | none=>[⟨p.1,p.2,bM (aL rs p.1 p.2)⟩]
  | some b=>if b.hi=p.1/\b.ln=bM (aL rs p.1 p.2) then f.dropLast++[⟨b.lo,p.2,bM (aL rs p.1 p.2)⟩] else f++[⟨p.1,p.2,bM (aL rs p.1 p.2)⟩]
def dY(rs:List R4):List Int:=cO (rs.map (·.y0)++rs.map (·.y1))
def fT(rs:List R4):List Bd:=((dY rs).zip (dY rs).tail).foldl (aU rs) []
theorem gK(s:P2):aY [] s=[s]:=rfl
theorem fM(f:List P2)(t s:P2):aY (f++[t]) s=if t.2<s.1 then f++[t]++[s] else if t.2<s.2 then f++[(t.1,s.2)] else f++[t]:=by
 simp[aY]
theorem d8(rs:List R4)(p:P2):aU rs [] p=if bM (aL rs p.1 p.2)=[] then [] else [⟨p.1,p.2,bM (aL rs p.1 p.2)⟩]:=by
 simp[aU]
theorem dH(rs:List R4)(f:List Bd)(b:Bd)(p:P2):aU rs (f++[b]) p=if bM (aL rs p.1 p.2)=[] then f++[b] else if b.hi=p.1/\b.ln=bM (aL rs p.1 p.2) then f++[⟨b.lo,p.2,bM (aL rs p.1 p.2)⟩] else f++[b]++[⟨p.1,p.2,bM (aL rs p.1 p.2)⟩]:=by
 simp[aU]
theorem V2(a b c:P2)(d:zH a b=true)(e:zH b c=true):zH a c=true:=by
 simp only[zH,decide_eq_true_eq]at*;lia
theorem QZ(a b:P2):(zH a b || zH b a)=true:=by
 simp only[zH,Bool.or_eq_true,decide_eq_true_eq];lia
theorem L5{a b:P2}(c:zH a b=true)(d:zH b a=true):a=b:=by
 simp only[zH,decide_eq_true_eq]at*;exact Prod.ext (by lia) (by lia)
theorem fA(l:List P2):(iC l).Perm l:=List.mergeSort_perm l zH
theorem rJ(l:List P2):(iC l).Pairwise λa b=>zH a b=true:=List.pairwise_mergeSort V2 QZ l
theorem BS:∀{d c:List P2},d.Perm c->d.Pairwise (λa b=>zH a b=true)->c.Pairwise (λa b=>zH a b=true)->d=c
 | [],c,p,_,_=>(List.nil_perm.mp p).symm
 | a::t,[],p,_,_=>absurd p.length_eq (by simp)
 | a::t,b::u,p,s1,s2=>by
  have e:a=b:=by
   rcases aFx.mp (p.mem_iff.mp aFs) with z | z
   ·exact z
   ·rcases aFx.mp (p.mem_iff.mpr aFs) with y | y
    ·exact y.symm
    ·exact L5 ((aG5.mp s1).1 b y) ((aG5.mp s2).1 a z)
  subst e;rw[BS (List.Perm.cons_inv p) (List.pairwise_cons.mp s1).2 (List.pairwise_cons.mp s2).2]
theorem RC(a b:P2):lx (enc (sD b)) (enc (sD a))=false↔zH a b=true:=by
 simp only[sD,enc,j5,List.flatMap_cons,List.flatMap_nil,List.append_nil,List.cons_append,List.nil_append,lx,zH];by_cases c:b.1<a.1
 ·simp[c];lia
 ·rw[if_neg c];by_cases d:a.1<b.1
  ·simp[d]
  ·rw[if_neg d];by_cases e:b.2<a.2
   ·simp[e];lia
   ·rw[if_neg e];by_cases f:a.2<b.2
    ·simp[f];lia
    ·simp[f];lia
theorem UT(l:List P2):F0 (l.map sD):= .inr ⟨.i,[.i],λd hd=>by obtain⟨s,_,rfl⟩:=aG0.mp hd;exact⟨_,rfl,rfl⟩⟩
variable{l:List P2}
theorem HU{ds:List D}(p:ds.Perm (l.map sD))(s:ds.Pairwise λd e=>lx (enc e) (enc d)=false):ds=(iC l).map sD:=by
 obtain⟨b,a,rfl⟩:=lU sD p l rfl;congr 1;refine BS (a.trans (fA l).symm) ?_ (rJ l);rw[List.pairwise_map]at s;exact s.imp λh=>(RC _ _).mp h
theorem uY{x y:Int}:∀{l:List Int},y∈qZ x l↔y=x\/y∈l
 | []=>by simp[qZ]
 | z::l=>by
  unfold qZ;split
  ·simp
  ·split
   ·rename_i h1 h2;subst h2;simp
   ·simp only[List.mem_cons,uY (l:=l)];constructor
    ·rintro(h | h | h) <;> simp[h]
    ·rintro(h | h | h) <;> simp[h]
theorem rT{x:Int}:∀{l:List Int},l.Pairwise (· < ·)->(qZ x l).Pairwise (· < ·)
 | [],_=>by simp[qZ]
 | z::l,h=>by
  have a:=aG5.mp h;unfold qZ;split
  ·rename_i hx;refine aG5.mpr ⟨λy b=>?_,h⟩;rcases aFx.mp b with z | z
   ·subst z;exact hx
   ·exact Int.lt_trans hx (a.1 y z)
  ·split
   ·exact h
   ·rename_i h2 h3;refine aG5.mpr ⟨λy b=>?_,rT a.2⟩;rcases uY.mp b with z | z
    ·subst z;lia
    ·exact a.1 y z
theorem bL{y:Int}:∀{l:List Int},y∈cO l↔y∈l
 | []=>by simp[cO]
 | x::l=>by
  show y∈qZ x (cO l)↔_;rw[uY,bL (l:=l)];simp
theorem aT:∀l:List Int,(cO l).Pairwise (· < ·)
 | []=>List.Pairwise.nil
 | x::l=>rT (aT l)
theorem G3:∀{d e:List Int},d.Pairwise (· < ·)->e.Pairwise (· < ·)->(∀x,x∈d↔x∈e)->d=e
 | [],[],_,_,_=>rfl
 | [],b::u,_,_,h=>absurd ((h b).mpr aFs) (by simp)
 | a::t,[],_,_,h=>absurd ((h a).mp aFs) (by simp)
 | a::t,b::u,s1,s2,h=>by
  have f:=aG5.mp s1;have g:=aG5.mp s2
  have i:a=b:=by
   rcases aFx.mp ((h a).mp aFs) with z | z
   ·exact z
   ·rcases aFx.mp ((h b).mpr aFs) with y | y
    ·exact y.symm
    ·have:=f.1 b y;have:=g.1 a z;lia
  subst i;rw[G3 f.2 g.2 λx=>?_];constructor
  ·intro c;rcases aFx.mp ((h x).mp (aFt _ c)) with z | z
   ·have:=f.1 x c;lia
   ·exact z
  ·intro c;rcases aFx.mp ((h x).mpr (aFt _ c)) with z | z
   ·have:=g.1 x c;lia
   ·exact z
theorem mP{l:List Int}{ks:List Key}(j:∀k,k∈ks↔k∈l.map Sum.inl)(nd:ks.Nodup)(s:(ks.map bJ).Pairwise λd e=>lx (enc e) (enc d)=false):ks.map bJ=(cO l).map .int:=by
 have all:∀{ks:List Key},(∀k∈ks,∃i,k=Sum.inl i)->∃c:List Int,ks=c.map Sum.inl:=by
  intro ks
  induction ks with
  | nil=>intro _;exact⟨[],rfl⟩
  | cons k ks ih=>
   intro h;obtain⟨i,rfl⟩:=h k aFs;obtain⟨c,rfl⟩:=ih λk f=>h k (aFt _ f);exact⟨i::c,rfl⟩
 obtain⟨c,rfl⟩:=all λk f=>by obtain⟨i,_,e⟩:=aG0.mp ((j k).mp f);exact⟨i,e.symm⟩
 have e:c=cO l:=by
  refine G3 ?_ (aT l) λx=>?_
  ·have g:c.Pairwise (· ≠ ·):=by
    have:=List.pairwise_map.mp nd;exact this.imp λh z=>h (by rw[z])
   rw[List.pairwise_map,List.pairwise_map]at s;refine(g.and s).imp λ{a b} h=>?_;have m:=h.2;simp only[bJ,enc,j5,lx]at m;by_cases hb:b<a
   ·simp[hb]at m
   ·have:=h.1;lia
  ·rw[bL];have:=j (Sum.inl x);simpa using this
 rw[e,List.map_map];rfl
theorem d9(l:List Int):(l.map D.int)=(l.map (Sum.inl:Int->Key)).map bJ:=by rw[List.map_map];rfl
theorem lP(l:List Int):F0 (l.map D.int):= .inl ⟨.i,λd hd=>by obtain⟨s,_,rfl⟩:=aG0.mp hd;rfl⟩
abbrev En(mh:MH)(R:DK):fY:={nx:=λ_ a=>Out mh.length .cL a R,rt:=λd a=>Out mh.length d a R}
theorem mQ(n:Nat):∀l:List P2,cG n (l.map sD)=true
 | []=>rfl
 | s::l=>by simp[cG,cV,sD,mQ n l]
theorem GW(n:Nat):∀l:List R4,cG n (l.map rD)=true
 | []=>rfl
 | s::l=>by simp[cG,cV,rD,GW n l]
theorem pT(n:Nat):∀l:List Bd,cG n (l.map bD)=true
 | []=>rfl
 | s::l=>by simp[cG,cV,bD,cR,mQ,pT n l]
theorem zR(f:List P2)(s:P2):(aY f s).length<=f.length+1:=by
 rcases aGd f with rfl | ⟨g,t,rfl⟩
 ·simp[gK]
 ·rw[List.concat_eq_append,fM];split
  ·simp
  ·split <;> simp
theorem hJ:∀(l f:List P2),(l.foldl aY f).length<=f.length+l.length
 | [],f=>by simp
 | s::l,f=>by
  have:=hJ l (aY f s);have:=zR f s;simp only[List.foldl_cons,List.length_cons];lia
theorem u7(l:List P2):(bM l).length<=l.length:=by
 have:=hJ (iC l) [];have:=(fA l).length_eq;simp[bM]at*;lia
def uJ:OA:=λds mh Q=>∃n l,ds=[.ref n]/\mh[n]? =some (.lst (l.map sD))/\l.length<4000/\Q (cR (bM l)) mh
theorem YF(ds:List D)(mh:MH)(R:DK)(ok:kW mh)(m:uJ ds mh R):iM (En mh R) (aI ["_law_shreds","_law_found","_law_start","_law_end"] ds) mh:=by
 obtain⟨n,l,rfl,x,v,q⟩:=m;have sz:=aGe;have w:n<mh.length:=(aFp.mp x).1;simp[iM,nR,aI];refine⟨_,l.map sD,rfl,by simp[nA,List.getElem?_append_left w,x],by simpa using v,UT l,λz p s=>?_⟩;obtain rfl:=HU p s;have E:=(fA l).length_eq;simp[bC];refine cD (λi o mh' =>(∃a b,o=[some (.ref n),some (.ref mh.length),a,b])/\mh' =mh++[.lst ((((iC l).take i).foldl aY []).map sD),.lst ((iC l).map sD)]) _ ?_ ?_ ?_ ⟨⟨_,_,rfl⟩,by simp⟩
 ·rintro i o mh' ⟨_,rfl⟩;simp
 ·rintro i d o mh' N hi ⟨⟨a,b,rfl⟩,rfl⟩ nx;obtain⟨s,m,rfl⟩:=fL hi;have A:i<(iC l).length:=(aFp.mp m).1;have k:=hJ ((iC l).take i) [];have B:((iC l).take (i+1)).foldl aY []=aY (((iC l).take i).foldl aY []) s:=by rw[take_snoc m];simp
  have c:∀a b,N [some (.ref n),some (.ref mh.length),a,b] (mh++[.lst ((aY (((iC l).take i).foldl aY []) s).map sD),.lst ((iC l).map sD)]):=λa b=>nx _ _ ⟨⟨_,_,rfl⟩,by rw[B]⟩;generalize ((iC l).take i).foldl aY []=f at k c⊢;have h:(mh++[MO.lst (f.map sD),.lst ((iC l).map sD)])[mh.length]? =some (.lst (f.map sD)):=by simp
  have r:∀g:List D,(mh++[MO.lst (f.map sD),.lst ((iC l).map sD)]).set mh.length (.lst g)=mh++[.lst g,.lst ((iC l).map sD)]:=λg=>by simp
  have F:f.map sD=[]\/True:= .inr trivial;generalize C:mh++[MO.lst (f.map sD),.lst ((iC l).map sD)]=M at h r⊢;simp at k;simp[sD,lI,jU h,zV,eX h];rcases aGd f with rfl | ⟨g,t,rfl⟩
  ·simp only[gK]at c;simp;rw[dJ h,r];exact⟨⟨_,h⟩,by lia,by simp;lia,by simpa[sD] using c _ _⟩
  ·rw[List.concat_eq_append]at*;simp only[fM]at c;have j:n6 ((g++[t]).map sD) (-1)=some (.tup [.int t.1,.int t.2]):=by rw[List.map_append];exact sU _ _
   rw[j];have G:¬(g++[t]=[]):=by simp
   simp only[bT,K8,i3,aAk];simp;by_cases y:t.2<s.1
   ·simp only[y,if_true]at c⊢;rw[dJ h,r];refine⟨⟨_,h⟩,by lia,by simp at k⊢;lia,?_⟩;have:=c (some (.int s.1)) (some (.int s.2));simpa[sD] using this
   ·simp only[y,if_false]at c⊢;by_cases u:t.2<s.2
    ·simp only[u,if_true]at c⊢;rw[eX h,j];simp[i3,u];rw[eX h,j];simp[i3];rw[uI h];simp only[List.length_map,List.length_append,List.length_cons,List.length_nil,Nat.zero_add,vC,bT];rw[r];have:=c (some (.int s.1)) (some (.int s.2));refine⟨by lia,?_⟩;simpa[sD] using this
    ·simp only[u,if_false]at c⊢;rw[eX h,j];simp[i3,u];have:=c (some (.int s.1)) (some (.int s.2));rw[C]at this;exact this
 ·rintro o mh' ⟨⟨a,b,rfl⟩,rfl⟩;have e:(iC l).take ((iC l).map sD).length=iC l:=by simp
  rw[e];simp[nQ,bC];exact pV ok (by simp[cV,mQ]) q
theorem B4(rs:List R4)(f:List Bd)(p:P2):(aU rs f p).length<=f.length+1:=by
 rcases aGd f with rfl | ⟨g,t,rfl⟩
 ·rw[d8];split <;> simp
 ·rw[List.concat_eq_append,dH];split
  ·simp
  ·split <;> simp
theorem iY(rs:List R4):∀(l:List P2) (f:List Bd),(l.foldl (aU rs) f).length<=f.length+l.length
 | [],f=>by simp
 | s::l,f=>by
  have:=iY rs l (aU rs f s);have:=B4 rs f s;simp only[List.foldl_cons,List.length_cons];lia
theorem DD(x:Int):∀l:List Int,(qZ x l).length<=l.length+1
 | []=>by simp[qZ]
 | y::l=>by
  unfold qZ;have:=DD x l;split
  ·simp
  ·split <;> simp <;> lia
theorem qR:∀l:List Int,(cO l).length<=l.length
 | []=>by simp[cO]
 | x::l=>by
  have:=qR l;have:=DD x (cO l);show (qZ x (cO l)).length<=_;simp;lia
theorem KC(rs:List R4):(dY rs).length<=2*rs.length:=by
 have:=qR (rs.map (·.y0)++rs.map (·.y1));simp[dY]at*;lia
theorem uC(rs:List R4)(lo hi:Int):(aL rs lo hi).length<=rs.length:=by
 simp[aL];exact aIw _ _
theorem mI:∀l:List P2,eD (l.map sD)=true/\cK (l.map sD)<=2
 | []=>by simp[eD,cK]
 | s::l=>by
  have:=mI l;simp only[List.map_cons,eD,cK,this.1,Bool.and_true];simp only[sD,bare,eD,deep,cK];refine⟨rfl,by lia⟩
theorem AG:∀l m:List P2,eG (l.map sD) (m.map sD)=decide (l=m)
 | [],[]=>by simp[eG]
 | [],_::_=>by simp[eG]
 | _::_,[]=>by simp[eG]
 | a::l,b::m=>by
  simp only[List.map_cons,eG,AG l m];simp only[sD,jZ,eG];by_cases c:a.1=b.1 <;> by_cases d:a.2=b.2 <;> by_cases e:l=m <;> simp[c,d,e,Prod.ext_iff]
variable{mh:MH}
theorem RN{n:Nat}{Q:DK}(h:mh[n]? =some (.lst (l.map sD)))(a:l.length<4000)(q:Q (cR (bM l)) mh):uJ [.ref n] mh Q:=⟨n,l,rfl,h,a,q⟩
variable{rs:List R4}{f:List Bd}
theorem YD{mh mh' :MH}{E:fY}{n e:Nat}{lo hi:Int}{A:Option D}{x:D}(B:b9 mh mh')(y:mh'[n]? =some (.lst (rs.map rD)))(z:(aL rs lo hi).length<4000)(C:mh'[e]? =some (.lst (f.map bD)))(s:mh.length<=e)(i:f.length<=4000)
  (nx:∀a T,b9 mh ((mh' ++T).set e (.lst ((aU rs f (lo,hi)).map bD)))->E.nx [some (.ref n),some x,some (.ref e),some (.int lo),some (.int hi),a] ((mh' ++T).set e (.lst ((aU rs f (lo,hi)).map bD)))):
  eZ uJ E [some (.ref n),some x,some (.ref e),some (.int lo),some (.int hi),A] mh' :=by
 have sz:=aGe;simp[eZ];rw[bF y];simp;refine oN rD (λr=>decide (r.y0<=lo) && decide (hi<=r.y1)) (λr=>(r.x0,r.x1)) sD rs (bF y) ?_ ?_
 ·intro r z N M j h;simp[fW,rD,i3,A0,ZD];by_cases k:r.y0<=lo
  ·simp[k]at j h⊢;by_cases m:hi<=r.y1
   ·simp[m]at j h⊢;exact⟨by lia,j⟩
   ·simp[m]at j h⊢;exact h (by lia)
  ·simp[k]at j h⊢;exact h
 ·refine RN (l:=aL rs lo hi) (by simp[aL]) z ?_;have o:b9 mh (mh' ++[MO.lst ((aL rs lo hi).map sD)]):=B.push _;have d:(mh' ++[MO.lst ((aL rs lo hi).map sD)])[e]? =some (.lst (f.map bD)):=b8 C;have b:=λa=>nx a [MO.lst ((aL rs lo hi).map sD)] (o.set s _);change dZ uJ _ _ (mh' ++[MO.lst ((aL rs lo hi).map sD)]);generalize mh' ++[MO.lst ((aL rs lo hi).map sD)]=M at o d b⊢;have keep:=uE d;have u:=mI (bM (aL rs lo hi));generalize p:bM (aL rs lo hi)=ln at*;have F:∀g,aU rs g (lo,hi)=aU rs g (lo,hi):=λ_=>rfl;simp[dZ,jU d,cR,zV,eX d];rcases aGd f with rfl | ⟨g,t,rfl⟩
  ·simp only[d8,p]at b;by_cases c:ln=[]
   ·subst c;simp at b⊢;simp at keep;rw[keep]at b;exact b _
   ·have v :0<ln.length:=List.length_pos_iff.mpr c;simp[c,v]at b⊢;rw[dJ d];exact⟨⟨_,d⟩,by lia,by simp;lia,by simpa[bD,cR] using b _⟩
  ·rw[List.concat_eq_append]at*;have q:n6 ((g++[t]).map bD) (-1)=some (.tup [.int t.lo,.int t.hi,.tup (t.ln.map sD)]):=by rw[List.map_append];exact sU _ _
   simp only[dH,p]at b;by_cases c:ln=[]
   ·subst c;simp at b⊢;simp at keep;rw[keep]at b;exact b _
   ·have v :0<ln.length:=List.length_pos_iff.mpr c;have w:=mI t.ln;simp[c,v]at b⊢;rw[sU];simp[bD,cR,i3,A0];by_cases k:t.hi=lo
    ·simp[k]at b⊢;rw[eX d,q];simp[i3,A0];refine⟨w.1,u.1,by lia,?_⟩;rw[AG];by_cases m:t.ln=ln
     ·simp[m]at b⊢;rw[eX d,q];simp[i3,A0];rw[uI d];simp only[List.length_map,List.length_append,List.length_cons,List.length_nil,Nat.zero_add,vC,bT];have:=b (some (.tup (ln.map sD)));refine⟨by lia,?_⟩;simpa[bD,cR] using this
     ·simp[m]at b⊢;rw[dJ d];refine⟨⟨_,d⟩,by lia,by simp at i⊢;lia,?_⟩;have:=b (some (.tup (ln.map sD)));simpa[bD,cR] using this
    ·simp[k]at b⊢;rw[dJ d];refine⟨⟨_,d⟩,by lia,by simp at i⊢;lia,?_⟩;have:=b (some (.tup (ln.map sD)));simpa[bD,cR] using this
abbrev sX(i:Int):Prop:= -1048576<=i/\i<=1048576
def qG(mh:MH)(b c:Nat):Prop:=c≠b/\∃a:List Int,mh[c]? =some (.lst (a.map .int))/\a.length=8/\∀i∈a,sX i
theorem qG.to{mh mh' :MH}{b a:Nat}(h:qG mh b a)(t:cT mh b mh'):qG mh' b a:=by
 obtain⟨c,d,e,f⟩:=h;exact⟨c,d,by rw[t.other c];exact e,f⟩
def pQ:OA:=λds mh Q=>∃b a c,ds=[.ref b,.int a,.ref c]/\wU mh b/\qG mh b c/\∀v mh',sX v->cT mh b mh' ->Q (.int v) mh'
theorem NK(ds:List D)(mh:MH)(R:DK)(ok:kW mh)(o:pQ ds mh R):fJ jF (En mh R) (aI ["_law_bag_here","_law_sort","_law_some"] ds) mh:=by
 obtain⟨b,a,p,rfl,hb,i,q⟩:=o;have fin:∀v mh',sX v->cT mh b mh' ->Out mh.length (.int v) mh' R:=λv mh' h t=>cC (q v mh' h t);simp[fJ,aI];by_cases j:a=0
 ·simp[j];exact sN (by lia) (by lia) hb λr mh' c d t=>by simp;exact fin _ _ ⟨by lia,by lia⟩ t
 ·simp[j,kM];by_cases k:a=1
  ·simp[k];exact sN (by lia) (by lia) hb λr mh' c d t=>by simp;exact fin _ _ ⟨by lia,by lia⟩ t
  ·simp[k,kL];by_cases l:a=2
   ·simp[l];refine⟨.inl ⟨by lia,by lia⟩,?_⟩;exact sN (by lia) (by lia) hb λr mh' c d t=>by simp;exact fin _ _ ⟨by lia,by lia⟩ t
   ·have s :=i;obtain⟨u,m,n,w,x⟩:=i;simp[l,kK,jU n,w];refine sN (by lia) (by lia) hb λr mh' c d t=>?_;have g :mh'[p]? =some (.lst (m.map .int)):=by rw[t.other u];exact n
    obtain⟨v,y,_,e⟩:=AY (f:=D.int) (ss:=m) c (by lia);rw[eX g,e];simp;exact fin v mh' (x v y) t
def BW:OA:=λds mh Q=>∃b a c,ds=[.ref b,.int a,.ref c]/\wU mh b/\qG mh b c/\∀u v mh',sX u->sX v->u<v->cT mh b mh' ->Q (.tup [.int u,.int v]) mh'
theorem xP{b c:Nat}{a:Int}{Q:DK}(hb:wU mh b)(d:qG mh b c)(q:∀v mh',sX v->cT mh b mh' ->Q (.int v) mh'):pQ [.ref b,.int a,.ref c] mh Q:=⟨b,a,c,rfl,hb,d,q⟩
theorem YB(ds:List D)(mh:MH)(R:DK)(ok:kW mh)(j:BW ds mh R):iF pQ (En mh R) (aI ["_law_bag_here","_law_sort","_law_some","_law_one","_law_other_here"] ds) mh:=by
 obtain⟨b,g,m,rfl,hb,h,q⟩:=j;have sz:=aGe;simp[iF,nP,aI];refine xP hb h λu k e f=>?_;refine xP f.1 (h.to f) λv a i l=>?_;have t:=f.trans l;simp[nO];by_cases c:u=v
 ·subst c;simp;by_cases d:u=1048576
  ·simp[d];exact⟨by lia,cC (q _ _ a ⟨by lia,by lia⟩ ⟨by lia,by lia⟩ (by lia) t)⟩
  ·simp[d];exact⟨by lia,cC (q _ _ a e ⟨by lia,by lia⟩ (by lia) t)⟩
 ·simp[c,nN];refine⟨by lia,cC ?_⟩;by_cases d:v<u
  ·rw[if_pos d,if_neg (by lia)];exact q _ _ a i e d t
  ·rw[if_neg d,if_pos (by lia)];exact q _ _ a e i (by lia) t
theorem GO{b c:Nat}{a:Int}{Q:DK}(hb:wU mh b)(d:qG mh b c)(q:∀u v mh',sX u->sX v->u<v->cT mh b mh' ->Q (.tup [.int u,.int v]) mh'):BW [.ref b,.int a,.ref c] mh Q:=⟨b,a,c,rfl,hb,d,q⟩
def R4.ok(r:R4):Prop:=sX r.x0/\sX r.y0/\sX r.x1/\sX r.y1/\r.x0<r.x1/\r.y0<r.y1
def lT:OA:=λds mh Q=>∃b a,ds=[.ref b,.int a]/\12<=a/\a<=1000/\wU mh b/\∀(rs:List R4) mh',rs.length<=a.toNat->(∀r∈rs,r.ok)->cT mh b mh' ->Q (.ref mh'.length) (mh' ++[.lst (rs.map rD)])
theorem ix4{x y z u r:Int}(h0:0<=r)(a:r<4):∃v,n6 [D.int x,.int y,.int z,.int u] r=some (.int v)/\(v=x\/v=y\/v=z\/v=u):=by
 have:r=0\/r=1\/r=2\/r=3:=by lia
 rcases this with rfl | rfl | rfl | rfl
 ·exact⟨x,aFc _ _,.inl rfl⟩
 ·exact⟨y,i3 _ _ _,.inr (.inl rfl)⟩
 ·exact⟨z,A0 _ _ _ _,.inr (.inr (.inl rfl))⟩
 ·exact⟨u,ZD _ _ _ _ _,.inr (.inr (.inr rfl))⟩
theorem SJ(ds:List D)(mh:MH)(R:DK)(ok:kW mh)(X:lT ds mh R):gG jF BW (En mh R) (aI ["_law_bag_here","_law_most","_law_sort","_law_many","_law_some","_law_found","_law_k","_law_left","_law_right","_law_low","_law_high"] ds) mh:=by
 obtain⟨b,f,rfl,m0,m1,hb,q⟩:=X;have sz:=aGe;have Y:=hb.lt;simp[gG,lE,aI];refine GK (.refl hb) (by lia) (by lia) λm s s0 s1 x1 _ _=>?_;refine⟨by lia,?_⟩;refine GK (x1.push _) (by lia) (by lia) λr w Z r1 x2 l2 k2=>?_;have e2:w[s.length]? =some (.lst [.int (f+1),.int 13,.int 13,.int 7]):=by rw[k2 _ x1.le];simp
 rw[eX e2];obtain⟨v,hv,hv2⟩:=ix4 (x:=f+1) (y:=13) (z:=13) (u:=7) Z r1;rw[hv];simp;refine GK x2 (by lia) (by lia) λh mh3 n0 V x3 _ _=>?_;have A:h<=f:=by lia
 simp[lD];refine⟨by lia,?_⟩;refine N7 (λi ys mh' =>f6 mh b mh' /\∃a:List Int,ys=a.map .int/\a.length=i/\∀i∈a,sX i) _ (λ_ _ _ _=>trivial) ?_ ?_ ⟨x3,[],rfl,rfl,by simp⟩
 ·rintro i d ys e N hi ⟨n,a,rfl,B,C⟩ nx;simp[fW];refine GK n (by lia) (by lia) λc o c0 c1 l _ _=>?_;simp;refine nx _ _ ⟨l,a++[c-1048576],by simp,by simp[B],λi hi=>?_⟩;rcases aFv.mp hi with hi | hi
  ·exact C i hi
  ·simp at hi;subst hi;exact⟨by lia,by lia⟩
 ·rintro ys e ⟨n,a,rfl,B,C⟩;simp at B;simp;refine⟨by lia,?_⟩;rw[zC (i:=a.map .int) (j:=[.int (-1048576),.int 1048576,.int 0,.int 1]) (by simp) (by simp)];refine⟨by simp;lia,?_⟩;simp[lC,lB]
  have W:=(n.app [MO.lst (a.map .int),.lst [D.int (-1048576),D.int 1048576,D.int 0,D.int 1],MO.lst ((a.map .int)++[D.int (-1048576),D.int 1048576,D.int 0,D.int 1]),.lst []])
  have E:qG ((e++[MO.lst (a.map .int),.lst [D.int (-1048576),D.int 1048576,D.int 0,D.int 1]]++[MO.lst ((a.map .int)++[D.int (-1048576),D.int 1048576,D.int 0,D.int 1])])++[.lst []]) b (e.length+2):=by
   refine⟨by have:=n.le;lia,a++[-1048576,1048576,0,1],by simp,by simp;lia,λi hi=>?_⟩;rcases aFv.mp hi with hi | hi
   ·exact C i hi
   ·simp at hi;rcases hi with rfl | rfl | rfl | rfl <;> exact⟨by lia,by lia⟩
  have F:((e++[MO.lst (a.map .int),.lst [D.int (-1048576),D.int 1048576,D.int 0,D.int 1]]++[MO.lst ((a.map .int)++[D.int (-1048576),D.int 1048576,D.int 0,D.int 1])])++[.lst []])[e.length+3]? =some (.lst []):=by simp
  simp only[List.append_assoc,List.cons_append,List.nil_append]at E F;have hm4:=n.le;generalize e++[MO.lst (a.map .int),.lst [D.int (-1048576),D.int 1048576,D.int 0,D.int 1],MO.lst ((a.map .int)++[D.int (-1048576),D.int 1048576,D.int 0,D.int 1]),.lst []]=M at E W F⊢;generalize e.length=c at*;refine⟨by lia,by lia,?_⟩;refine cD (λi G mh' =>(∃H I J K L,G=[some (.ref b),some (.int f),some (.int m),some (.int h),some (.ref (c+2)),some (.ref (c+3)),H,I,J,K,L])/\f6 mh b mh' /\qG mh' b (c+2)/\∃rs:List R4,mh'[c+3]? =some (.lst (rs.map rD))/\rs.length=i/\∀r∈rs,r.ok) _ (λ_ _ _ _=>trivial) ?_ ?_ ⟨⟨_,_,_,_,_,rfl⟩,W,E,[],by simpa using F,rfl,by simp⟩
  ·rintro i d G o N hi ⟨⟨H,I,J,K,L,rfl⟩,l,g,rs,O,P,bY⟩ nx;obtain⟨hil,rfl⟩:=sR hi;simp[kJ,iH];refine GO l.bag g λu v p u1 v1 uv Q=>?_;simp;refine GO Q.1 (g.to Q) λu2 v2 S u3 v3 T t7=>?_;have t:=Q.trans t7;have k:S[c+3]? =some (.lst (rs.map rD)):=by rw[t.other (by lia)];exact O
   simp[iG,zV];rw[dJ k];refine⟨⟨_,k⟩,by lia,by simp;lia,nx _ _ ⟨⟨_,_,_,_,_,rfl⟩,(l.to t).set (by lia) _,?_,rs++[⟨u,u2,v,v2⟩],?_,by simp[P],λr hr=>?_⟩⟩
   ·obtain⟨V,U,h2,h3⟩:=g.to t;exact⟨V,U,get_set h2 (by lia),h3⟩
   ·rw[cS _ k];simp[rD]
   ·rcases aFv.mp hr with hr | hr
    ·exact bY r hr
    ·simp at hr;subst hr;exact⟨u1,u3,v1,v3,uv,T⟩
  ·rintro G o ⟨⟨H,I,J,K,L,rfl⟩,l,g,rs,O,P,bY⟩;simp[lA];refine l.V3 ok (by lia) O (by simp[zJ,GW]) λp t=>q rs p (by simp at P;lia) bY t
variable{P:Int->Prop}
theorem zS{f:List P2}{s:P2}(a:∀t∈f,P t.1/\P t.2)(b:P s.1/\P s.2):∀t∈aY f s,P t.1/\P t.2:=by
 rcases aGd f with rfl | ⟨g,u,rfl⟩
 ·rw[gK];intro t ht;simp at ht;subst ht;exact b
 ·rw[List.concat_eq_append]at*;rw[fM];have c:=a u (by simp);split
  ·intro t ht;rcases aFv.mp ht with z | z
   ·exact a t z
   ·simp at z;subst z;exact b
  ·split
   ·intro t ht;rcases aFv.mp ht with z | z
    ·exact a t (by simp[z])
    ·simp at z;subst z;exact⟨c.1,b.2⟩
   ·exact a
theorem mB{P:Int->Prop}:∀(l f:List P2),(∀t∈l,P t.1/\P t.2)->(∀t∈f,P t.1/\P t.2)->∀t∈l.foldl aY f,P t.1/\P t.2
 | [],f,_,hf=>hf
 | s::l,f,hl,hf=>mB l (aY f s) (λt ht=>hl t (aFt _ ht)) (zS hf (hl s aFs))
theorem u9(h:∀t∈l,P t.1/\P t.2):∀t∈bM l,P t.1/\P t.2:=
 mB _ _ (λt ht=>h t ((fA l).mem_iff.mp ht)) (by simp)
theorem uD(h:∀r∈rs,P r.x0/\P r.x1)(lo hi:Int):∀t∈aL rs lo hi,P t.1/\P t.2:=by
 intro t ht;simp only[aL,List.mem_map,List.mem_filter]at ht;obtain⟨r,⟨a,_⟩,rfl⟩:=ht;exact h r a
def Bd.far(n:Nat)(b:Bd):Prop:=sX b.lo/\sX b.hi/\b.ln.length<=n/\∀t∈b.ln,sX t.1/\sX t.2
theorem B5{p:P2}(i:∀r∈rs,r.ok)(c:∀b∈f,b.far rs.length)(j:sX p.1)(d:sX p.2):∀b∈aU rs f p,b.far rs.length:=by
 have e:∀t∈bM (aL rs p.1 p.2),sX t.1/\sX t.2:=u9 (uD (λr a=>⟨(i r a).1,(i r a).2.2.1⟩) _ _);have h:(bM (aL rs p.1 p.2)).length<=rs.length:=aGh (u7 _) (uC _ _ _);rcases aGd f with rfl | ⟨g,u,rfl⟩
 ·rw[d8];split
  ·simp
  ·intro b hb;simp at hb;subst hb;exact⟨j,d,h,e⟩
 ·rw[List.concat_eq_append]at*;rw[dH];have k:=c u (by simp);split
  ·exact c
  ·split
   ·intro b hb;rcases aFv.mp hb with z | z
    ·exact c b (by simp[z])
    ·simp at z;subst z;exact⟨k.1,d,h,e⟩
   ·intro b hb;rcases aFv.mp hb with z | z
    ·exact c b z
    ·simp at z;subst z;exact⟨j,d,h,e⟩
theorem nX{rs:List R4}(a:∀r∈rs,r.ok):∀(l:List P2) (f:List Bd),(∀p∈l,sX p.1/\sX p.2)->(∀b∈f,b.far rs.length)->∀b∈l.foldl (aU rs) f,b.far rs.length
 | [],f,_,hf=>hf
 | s::l,f,hl,hf=>nX a l _ (λt ht=>hl t (aFt _ ht)) (B5 a hf (hl s aFs).1 (hl s aFs).2)
theorem BB(a:∀r∈rs,r.ok):∀y∈dY rs,sX y:=by
 intro y b;rw[dY,bL]at b;rcases aFv.mp b with z | z
 ·obtain⟨r,h,rfl⟩:=aG0.mp z;exact(a r h).2.1
 ·obtain⟨r,h,rfl⟩:=aG0.mp z;exact(a r h).2.2.2.1
theorem IA(a:∀r∈rs,r.ok):∀b∈fT rs,b.far rs.length:=
 nX a _ _ (λp c=>⟨BB a _ (aH4 c).1,BB a _ (aIc (aH4 c).2)⟩) (by simp)
theorem xH(rs:List R4):(fT rs).length<=2*rs.length:=by
 have:=iY rs ((dY rs).zip (dY rs).tail) [];have:=KC rs;simp[fT]at*;lia
theorem B8{b:Nat}{a:Int}{Q:DK}(h0:12<=a)(c:a<=1000)(hb:wU mh b)(q:∀(rs:List R4) mh',rs.length<=a.toNat->(∀r∈rs,r.ok)->cT mh b mh' ->Q (.ref mh'.length) (mh' ++[.lst (rs.map rD)])):lT [.ref b,.int a] mh Q:=⟨b,a,rfl,h0,c,hb,q⟩
def gF(f:List P2)(x:Int):Prop:=∃t∈f,t.1<=x/\x<t.2
def Sep(f:List P2):Prop:=(∀t∈f,t.1<t.2)/\f.Pairwise λa b=>a.2<b.1
variable{x:Int}
theorem mZ{f g:List P2}:gF (f++g) x↔gF f x\/gF g x:=by
 unfold gF;constructor
 ·rintro⟨t,ht,h⟩;rcases aFv.mp ht with z | z
  ·exact .inl ⟨t,z,h⟩
  ·exact .inr ⟨t,z,h⟩
 ·rintro(⟨t,ht,h⟩ | ⟨t,ht,h⟩)
  ·exact⟨t,aG6 _ ht,h⟩
  ·exact⟨t,aFz _ ht,h⟩
theorem mY{t:P2}:gF [t] x↔t.1<=x/\x<t.2:=by simp[gF]
theorem CV{f:List P2}{s:P2}(n:Sep f)(m:s.1<s.2)(hb:∀t∈f,t.1<=s.1):
  Sep (aY f s)/\(∀t∈aY f s,t.1<=s.1)/\∀x,gF (aY f s) x↔gF f x\/(s.1<=x/\x<s.2):=by
 rcases aGd f with rfl | ⟨g,t,rfl⟩
 ·rw[gK];refine⟨⟨by simpa using m,by simp⟩,by simp,λx=>by simp[gF]⟩
 ·rw[List.concat_eq_append]at*;rw[fM];obtain⟨j,k⟩:=n;have ht:=j t (by simp);have l:=hb t (by simp);have e:=aG7.mp k;split
  ·rename_i c;refine⟨⟨λu i=>?_,aG7.mpr ⟨k,by simp,λa ha b d=>?_⟩⟩,λu i=>?_,λx=>by rw[mZ,mY]⟩
   ·rcases aFv.mp i with z | z
    ·exact j u z
    ·simp at z;subst z;exact m
   ·simp at d;subst d;rcases aFv.mp ha with z | z
    ·have:=e.2.2 a z t (by simp);lia
    ·simp at z;subst z;exact c
   ·rcases aFv.mp i with z | z
    ·exact hb u z
    ·simp at z;subst z;lia
  ·rename_i c;split
   ·rename_i c2;refine⟨⟨λu i=>?_,aG7.mpr ⟨e.1,by simp,λa ha b d=>?_⟩⟩,λu i=>?_,λx=>?_⟩
    ·rcases aFv.mp i with z | z
     ·exact j u (by simp[z])
     ·simp at z;subst z;simp;lia
    ·simp at d;subst d;exact e.2.2 a ha t (by simp)
    ·rcases aFv.mp i with z | z
     ·exact hb u (by simp[z])
     ·simp at z;subst z;exact l
    ·rw[mZ,mZ,mY,mY];simp only;constructor
     ·rintro(h | h)
      ·exact .inl (.inl h)
      ·by_cases o:x<t.2
       ·exact .inl (.inr ⟨h.1,o⟩)
       ·exact .inr ⟨by lia,h.2⟩
     ·rintro((h | h) | h)
      ·exact .inl h
      ·exact .inr ⟨h.1,by lia⟩
      ·exact .inr ⟨by lia,h.2⟩
   ·rename_i c2;refine⟨⟨j,k⟩,hb,λx=>⟨.inl,?_⟩⟩;rintro(h | h)
    ·exact h
    ·rw[mZ,mY];exact .inr ⟨by lia,by lia⟩
theorem nY:∀(l f:List P2),l.Pairwise (λa b=>zH a b=true)->(∀s∈l,s.1<s.2)->Sep f->(∀t∈f,∀s∈l,t.1<=s.1)->
  Sep (l.foldl aY f)/\∀x,gF (l.foldl aY f) x↔gF f x\/gF l x
 | [],f,_,_,hf,_=>⟨hf,λx=>by simp[gF]⟩
 | s::l,f,hp,hv,hf,hb=>by
  have c:=aG5.mp hp;obtain⟨h,i,j⟩:=CV hf (hv s aFs) λt ht=>hb t ht s aFs
  have g:=nY l (aY f s) c.2 (λu d=>hv u (aFt _ d)) h λt ht u d=>by
   have:=i t ht;have:=c.1 u d;simp only[zH,decide_eq_true_eq]at this
   lia
  refine⟨g.1,λx=>?_⟩;rw[List.foldl_cons,g.2 x,j x]
  have e:gF (s::l) x↔(s.1<=x/\x<s.2)\/gF l x:=by
   rw[show s::l=[s]++l from rfl,mZ,mY]
  rw[e,or_assoc]
theorem IS(a:∀s∈l,s.1<s.2):Sep (bM l)/\∀x,gF (bM l) x↔gF l x:=by
 have h:=nY (iC l) [] (rJ l) (λs b=>a s ((fA l).mem_iff.mp b)) ⟨by simp,by simp⟩ (by simp);refine⟨h.1,λx=>?_⟩;have:=h.2 x;unfold bM;rw[this];unfold gF;simp only[List.not_mem_nil,false_and,exists_false,false_or];constructor
 ·rintro⟨t,ht,q⟩;exact⟨t,(fA l).mem_iff.mp ht,q⟩
 ·rintro⟨t,ht,q⟩;exact⟨t,(fA l).mem_iff.mpr ht,q⟩
def b7(g:List Bd)(x y:Int):Prop:=∃b∈g,b.lo<=y/\y<b.hi/\gF b.ln x
structure fZ(g:List Bd):Prop where
 lt:∀b∈g,b.lo<b.hi
 ne:∀b∈g,b.ln≠[]
 sep:∀b∈g,Sep b.ln
 up:g.Pairwise λa b=>a.hi<=b.lo
 apart:∀u a b v,g=u++a::b::v->¬(a.hi=b.lo/\a.ln=b.ln)
theorem iA{f g:List Bd}{x y:Int}:b7 (f++g) x y↔b7 f x y\/b7 g x y:=by
 unfold b7;constructor
 ·rintro⟨t,ht,h⟩;rcases aFv.mp ht with z | z
  ·exact .inl ⟨t,z,h⟩
  ·exact .inr ⟨t,z,h⟩
 ·rintro(⟨t,ht,h⟩ | ⟨t,ht,h⟩)
  ·exact⟨t,aG6 _ ht,h⟩
  ·exact⟨t,aFz _ ht,h⟩
theorem h9{b:Bd}{x y:Int}:b7 [b] x y↔b.lo<=y/\y<b.hi/\gF b.ln x:=by simp[b7]
theorem D0{b c:Bd}(h:fZ (f++[b]))(o:c.lo<c.hi)(p:c.ln≠[])(q:Sep c.ln)(r:b.hi<=c.lo)(s:¬(b.hi=c.lo/\b.ln=c.ln)):fZ (f++[b]++[c]):=by
 obtain⟨j,t,x,k,y⟩:=h;refine⟨λd hd=>?_,λd hd=>?_,λd hd=>?_,aG7.mpr ⟨k,by simp,λd hd e he=>?_⟩,λu a d v e=>?_⟩
 ·rcases aFv.mp hd with z | z
  ·exact j d z
  ·simp at z;subst z;exact o
 ·rcases aFv.mp hd with z | z
  ·exact t d z
  ·simp at z;subst z;exact p
 ·rcases aFv.mp hd with z | z
  ·exact x d z
  ·simp at z;subst z;exact q
 ·simp at he;subst he;have i:=aG7.mp k;have A:=j b (by simp);rcases aFv.mp hd with z | z
  ·have:=i.2.2 d z b (by simp);lia
  ·simp at z;subst z;exact r
 ·rcases aGd v with rfl | ⟨l,w,rfl⟩
  ·have g:f++[b]++[c]=(u++[a])++[d]:=by rw[e];simp
   have m:=aIu g rfl;have B:=aIx g rfl;have n:=aIu B rfl;simp at m n;subst m n;exact s
  ·rw[List.concat_eq_append]at e;have g:f++[b]++[c]=(u++a::d::l)++[w]:=by rw[e];simp
   exact y u a d l (aIx g rfl)
theorem HK{c:Bd}(d:c.lo<c.hi)(f:c.ln≠[])(g:Sep c.ln):fZ [c]:=by
 refine⟨by simpa using d,by simpa using f,by simpa using g,by simp,λu a b v e=>?_⟩;have:=aGs List.length e;simp at this
 lia
theorem r8{b:Bd}{hi:Int}(h:fZ (f++[b]))(q:b.hi<=hi):fZ (f++[⟨b.lo,hi,b.ln⟩]):=by
 obtain⟨i,j,k,o,l⟩:=h;have c:=aG7.mp o;have hb:=i b (by simp);refine⟨λd hd=>?_,λd hd=>?_,λd hd=>?_,aG7.mpr ⟨c.1,by simp,λd hd e he=>?_⟩,λu a d v e=>?_⟩
 ·rcases aFv.mp hd with z | z
  ·exact i d (by simp[z])
  ·simp at z;subst z;show b.lo<hi;lia
 ·rcases aFv.mp hd with z | z
  ·exact j d (by simp[z])
  ·simp at z;subst z;exact j b (by simp)
 ·rcases aFv.mp hd with z | z
  ·exact k d (by simp[z])
  ·simp at z;subst z;exact k b (by simp)
 ·simp at he;subst he;exact c.2.2 d hd b (by simp)
 ·rcases aGd v with rfl | ⟨m,w,rfl⟩
  ·have g:f++[⟨b.lo,hi,b.ln⟩]=(u++[a])++[d]:=by rw[e];simp
   have n:=aIu g rfl;have p:=aIx g rfl;simp at n;subst n;exact l u a b [] (by rw[p];simp)
  ·rw[List.concat_eq_append]at e;have g:f++[⟨b.lo,hi,b.ln⟩]=(u++a::d::m)++[w]:=by rw[e];simp
   exact l u a d (m ++[b]) (by rw[List.append_inj_left' g rfl];simp)
theorem EW{p:P2}(q:∀r∈rs,r.x0<r.x1)(j:fZ f)(n:p.1<p.2)(hb:∀b∈f,b.hi<=p.1):
  fZ (aU rs f p)/\(∀b∈aU rs f p,b.hi<=p.2)/\∀x y,b7 (aU rs f p) x y↔b7 f x y\/(p.1<=y/\y<p.2/\gF (aL rs p.1 p.2) x):=by
 have u:∀s∈aL rs p.1 p.2,s.1<s.2:=λs o=>by
  simp only[aL,List.mem_map,List.mem_filter]at o;obtain⟨r,⟨h,_⟩,rfl⟩:=o;exact q r h
 obtain⟨e,k⟩:=IS u;have i:∀x,gF (aL rs p.1 p.2) x↔gF (bM (aL rs p.1 p.2)) x:=λx=>(k x).symm
 have a:fZ (aU rs f p)/\(∀b∈aU rs f p,b.hi<=p.2)/\∀x y,b7 (aU rs f p) x y↔b7 f x y\/(p.1<=y/\y<p.2/\gF (bM (aL rs p.1 p.2)) x):=by
  rcases aGd f with rfl | ⟨g,t,rfl⟩
  ·rw[d8];split
   ·rename_i c;rw[c];exact⟨j,by simp,λx y=>by simp[b7,gF]⟩
   ·rename_i c;exact⟨HK n c e,by simp,λx y=>by simp[b7]⟩
  ·rw[List.concat_eq_append]at*;rw[dH];have m:=hb t (by simp);split
   ·rename_i c;rw[c];exact⟨j,λb d=>by have:=hb b d;lia,λx y=>by simp[gF]⟩
   ·rename_i c;split
    ·rename_i l;obtain⟨l,v⟩:=l;rw[<-v];refine⟨r8 j (by lia),λb d=>?_,λx y=>?_⟩
     ·rcases aFv.mp d with z | z
      ·have:=hb b (by simp[z]);lia
      ·simp at z;subst z;simp
     ·rw[iA,iA,h9,h9];simp only;have w:=j.lt t (by simp);constructor
      ·rintro(h | h)
       ·exact .inl (.inl h)
       ·by_cases A:y<t.hi
        ·exact .inl (.inr ⟨h.1,A,h.2.2⟩)
        ·exact .inr ⟨by lia,h.2.1,h.2.2⟩
      ·rintro((h | h) | h)
       ·exact .inl h
       ·exact .inr ⟨h.1,by lia,h.2.2⟩
       ·exact .inr ⟨by lia,h.2.1,h.2.2⟩
    ·rename_i l;refine⟨D0 j n c e m l,λb d=>?_,λx y=>by rw[iA,h9]⟩;rcases aFv.mp d with z | z
     ·have:=hb b z;lia
     ·simp at z;subst z;simp
 refine⟨a.1,a.2.1,λx y=>?_⟩;rw[a.2.2 x y,i]
theorem p8{rs:List R4}(i:∀r∈rs,r.x0<r.x1):∀(ys:List Int) (f:List Bd),ys.Pairwise (· < ·)->fZ f->(∀b∈f,∀y∈ys,b.hi<=y)->
  fZ ((ys.zip ys.tail).foldl (aU rs) f)/\∀x y,b7 ((ys.zip ys.tail).foldl (aU rs) f) x y↔b7 f x y\/∃p∈ys.zip ys.tail,p.1<=y/\y<p.2/\gF (aL rs p.1 p.2) x
 | [],f,_,hf,_=>by simp;exact hf
 | [a],f,_,hf,_=>by simp;exact hf
 | a::b::ys,f,hs,hf,hb=>by
  have c:=aG5.mp hs;obtain⟨k,l,m⟩:=EW (p:=(a,b)) i hf (c.1 b (by simp)) λd hd=>hb d hd a (by simp)
  have j:=p8 i (b::ys) (aU rs f (a,b)) c.2 k λd hd y n=>by
   have o:=l d hd;simp only at o;rcases aFx.mp n with z | z
   ·lia
   ·have:=(aG5.mp c.2).1 y z;lia
  have e:(a::b::ys).zip (a::b::ys).tail=(a,b)::(b::ys).zip (b::ys).tail:=rfl;rw[e];refine⟨j.1,λx y=>?_⟩;rw[List.foldl_cons,j.2 x y,m x y];constructor
  ·rintro((h | h) | ⟨p,g,h⟩)
   ·exact .inl h
   ·exact .inr ⟨(a,b),aFs,h⟩
   ·exact .inr ⟨p,aFt _ g,h⟩
  ·rintro(h | ⟨p,g,h⟩)
   ·exact .inl (.inl h)
   ·rcases aFx.mp g with z | z
    ·subst z;exact .inl (.inr h)
    ·exact .inr ⟨p,z,h⟩
theorem between:∀{ys:List Int} {a b y:Int},ys.Pairwise (· < ·)->a∈ys->b∈ys->a<=y->y<b->∃p∈ys.zip ys.tail,p.1<=y/\y<p.2/\a<=p.1/\p.2<=b
 | [],a,b,y,_,h,_,_,_=>by cases h
 | [c],a,b,y,_,ha,hb,j,h2=>by simp at ha hb;lia
 | c::d::ys,a,b,y,hs,ha,hb,j,h2=>by
  have i:=aG5.mp hs;have e:(c::d::ys).zip (c::d::ys).tail=(c,d)::(d::ys).zip (d::ys).tail:=rfl;rw[e];have m:=i.1 d (by simp)
  have f:∀z∈d::ys,d<=z:=λz hz=>by
   rcases aFx.mp hz with q | q
   ·lia
   ·have:=(aG5.mp i.2).1 z q;lia
  have g:b∈d::ys:=by
   rcases aFx.mp hb with z | z
   ·exfalso;rcases aFx.mp ha with q | q
    ·lia
    ·have:=i.1 a q;lia
   ·exact z
  by_cases n:y<d
  ·have:a=c:=by
    rcases aFx.mp ha with q | q
    ·exact q
    ·have:=f a q;lia
   subst this;exact⟨(a,d),aFs,j,n,aGu _,f b g⟩
  ·have:∃k ∈d::ys,k <=y/\a<=k :=by
    rcases aFx.mp ha with q | q
    ·exact⟨d,by simp,by lia,by lia⟩
    ·exact⟨a,q,j,aGu _⟩
   obtain⟨k,l,o,v⟩:=this;obtain⟨p,r,s,t,w,u⟩:=between i.2 l g o h2;exact⟨p,aFt _ r,s,t,by lia,u⟩
def R4.has(r:R4)(x y:Int):Prop:=r.x0<=x/\x<r.x1/\r.y0<=y/\y<r.y1
theorem uO(d:∀r∈rs,r.x0<r.x1/\r.y0<r.y1):fZ (fT rs)/\∀x y,b7 (fT rs) x y↔∃r∈rs,r.has x y:=by
 have h:=p8 (rs:=rs) (λr h=>(d r h).1) (dY rs) [] (aT _) ⟨by simp,by simp,by simp,by simp,λu a b v e=>by cases u <;> simp at e⟩ (by simp);refine⟨h.1,λx y=>?_⟩;unfold fT;rw[h.2 x y]
 have g:∀r∈rs,r.y0∈dY rs/\r.y1∈dY rs:=λr d=>by
  unfold dY;rw[bL,bL];exact⟨aG6 _ (aG0.mpr ⟨r,d,rfl⟩),aFz _ (aG0.mpr ⟨r,d,rfl⟩)⟩
 constructor
 ·rintro(⟨b,hb,_⟩ | ⟨p,i,j,k,t,ht,f⟩)
  ·cases hb
  ·simp only[aL,List.mem_map,List.mem_filter,Bool.and_eq_true,decide_eq_true_eq]at ht;obtain⟨r,⟨c,l,s⟩,rfl⟩:=ht;exact⟨r,c,f.1,f.2,by lia,by lia⟩
 ·rintro⟨r,c,j,k,f,l⟩;obtain⟨p,i,m,n,o,q⟩:=between (aT _) (g r c).1 (g r c).2 f l;refine .inr ⟨p,i,m,n,(r.x0,r.x1),?_,j,k⟩;simp only[aL,List.mem_map,List.mem_filter,Bool.and_eq_true,decide_eq_true_eq];exact⟨r,⟨c,o,q⟩,rfl⟩
end LR
namespace LS
open PySem PyProof.Rows L2 D3
def iV(a:OA):WS:=(dE (tR (aF qF (aA (aB 0) (aA (wC (.ty "int")) aD))) (tR (GF (aF qF (aA (aB 0) (aA (wC (.ty "bool")) aD)))) (aX oEq (aB 0) (aB 1)))))
def iW(a:OA):WS:=(aS (gI (tP (aF qF (aA (aB 1) (aA (wC (.ty "str")) aD)))) (dE (tR (aF qF (aA (aB 0) (aA (wC (.ty "str")) aD))) (aX oEq (aB 0) (aB 1)))) dQ) (iV a))
def c9(a:OA):WS:=(aS (gI (tP (aF qF (aA (aB 1) (aA (f7 (aA (wC (.ty "tuple")) (aA (wC (.ty "list")) aD))) aD)))) (aS (gI (PC (cY (aX OU (aF qF (aA (aB 0) (aA (wC (.ty "tuple")) aD))) (aF qF (aA (aB 1) (aA (wC (.ty "tuple")) aD))))) (cY (aX OU (aF qF (aA (aB 0) (aA (wC (.ty "list")) aD))) (aF qF (aA (aB 1) (aA (wC (.ty "list")) aD)))))) (dE (wC (.bl false))) dQ) (aS (gI (cY (aX OU (aF fG (aA (aB 0) aD)) (aF fG (aA (aB 1) aD)))) (dE (wC (.bl false))) dQ) (dE (aX oEq (aF fG (aA (EB ["_law_k"] [0,1] (nT (aA (aF fG (aA (aB 1) aD)) aD)) (gN 0) (wZ (tP (aF a (aA (aX eJ (aB 1) (aB 0)) (aA (aX eJ (aB 2) (aB 0)) aD))))) (aB 0)) aD)) (wC (.int 0)))))) dQ) (iW a))
open LR (En)
mutual
def plain:D->Bool
 | .int _=>true
 | .str z=>decide (z.length<=1000)
 | .tup ds=>dC ds && decide (ds.length<=1000000)
 | _=>false
def dC:List D->Bool
 | []=>true
 | d::ds=>plain d && dC ds
end
theorem uQ:∀{l:List D},dC l=true↔∀d∈l,plain d=true
 | []=>by simp[dC]
 | a::l=>by simp[dC,uQ (l:=l)]
def kR(n:Nat):OA:=λds mh Q=>Q (.bl true) mh/\((∃d,ds=[d,d]/\plain d=true/\deep d<n)\/∃a b xs,ds=[.ref a,.ref b]/\mh[a]? =some (.lst xs)/\mh[b]? =some (.lst xs)/\dC xs=true/\cK xs+1<n/\xs.length<=1000000)
theorem P0{n:Nat}{d:D}{mh:MH}{Q:DK}(a:plain d=true)(b:deep d<n)(q:Q (.bl true) mh):kR n [d,d] mh Q:=⟨q,.inl ⟨d,rfl,a,b⟩⟩
theorem HI:∀{l:List D} {d:D},d∈l->deep d<=cK l
 | a::l,d,h=>by
  simp only[cK];rcases aFx.mp h with z | z
  ·subst z;lia
  ·have:=HI z;lia
theorem xG{mh0 mh:MH}{R:DK}{n:Nat}{x y:D}{xs:List D}(ok:kW mh)(o:bC mh x=some xs)(f:dC xs=true)(hd:cK xs<n)(p:xs.length<=1000000)
  (hi:∀i:Int,∀M:MH,∀Q:DK,(∃T,M=mh++T)->(eJ x (.int i) M Q↔got (n6 xs i) λd=>Q d M)) (g:∀i:Int,∀M:MH,∀Q:DK,(∃T,M=mh++T)->(eJ y (.int i) M Q↔got (n6 xs i) λd=>Q d M))
  (b:∀Q:DK,fG [y] mh Q↔Q (.int xs.length) mh) (q:R (.bl true) mh):
  dE (aX oEq (aF fG (aA (EB ["_law_k"] [0,1] (nT (aA (aF fG (aA (aB 1) aD)) aD)) (gN 0) (wZ (tP (aF (kR n) (aA (aX eJ (aB 1) (aB 0)) (aA (aX eJ (aB 2) (aB 0)) aD))))) (aB 0)) aD)) (wC (.int 0))) (En mh R) [some x,some y] mh:=by
 have sz:=aGe;simp[b];refine⟨by lia,?_⟩;have h:uN 0 xs.length=(List.range xs.length).map λk:Nat=>D.int (0+k):=rfl;rw[h];refine oN (λk:Nat=>D.int (0+k)) (λ_=>false) id (λk:Nat=>D.int (0+k)) _ trivial ?_ ?_
 ·intro k c N M r l;simp at c
  have a:n6 xs ((0:Int)+k)=some xs[k]:=by
   have:=iT (xs:=xs) (j:=k) (v:=xs[k]) (by simp[c]);rw[<-this];congr 1;lia
  simp only[Int.zero_add]at a;simp[fW];rw[hi _ _ _ ⟨[],by simp⟩,a];simp;rw[g _ _ _ ⟨[],by simp⟩,a];simp;have e:xs[k]∈xs:=aHx _;refine P0 (uQ.mp f _ e) (by have:=HI e;lia) ?_;simp[jA];exact l rfl
 ·rw[jU (fB _ _)];simp;have m:(List.range xs.length).filter (λ_=>false)=[]:=by simp
  rw[m];exact pV ok (by simp[cV]) q
theorem YC(n:Nat)(ds:List D)(mh:MH)(R:DK)(ok:kW mh)(h:kR (n+1) ds mh R):c9 (kR n) (En mh R) (aI ["_law_found","_law_due"] ds) mh:=by
 have sz:=aGe;obtain⟨q,⟨d,rfl,c,hd⟩ | ⟨a,b,xs,rfl,ha,hb,c,hd,j⟩⟩:=h
 ·cases d with
  | int i=>
   simp[c9,aI,PL,bI,jA,sA,iW,iV];exact⟨by lia,cC q⟩
  | str z=>
   simp[c9,aI,PL,bI,jA,sA,iW,iV];exact⟨by lia,cC q⟩
  | tup xs=>
   simp only[plain,Bool.and_eq_true,decide_eq_true_eq]at c;simp only[deep]at hd;simp[c9,aI,PL,bI,jA,sA];have:=xG (mh0:=mh) (x:= .tup xs) (y:= .tup xs) (R:=R) (n:=n) ok rfl c.1 (by lia) c.2 (λi M Q _=>K8 xs i) (λi M Q _=>K8 xs i) (λQ=>VE xs) q;refine⟨by lia,?_⟩;simpa using this
  | _=>simp[plain]at c
 ·simp[c9,aI,PL,bI,jA,sA,ha,hb,jU ha,jU hb];have:=xG (mh0:=mh) (x:= .ref a) (y:= .ref b) (R:=R) (n:=n) ok (bF ha) c (by lia) j (λi M Q f=>by obtain⟨T,e⟩:=f;exact eX (by rw[e];exact bQ ha) i) (λi M Q g=>by obtain⟨T,e⟩:=g;exact eX (by rw[e];exact bQ hb) i) (λQ=>jU hb) q;refine⟨by lia,?_⟩;simpa[jU hb] using this
theorem K5{n:Nat}{a b:Nat}{xs:List D}{mh:MH}{Q:DK}(ha:mh[a]? =some (.lst xs))(hb:mh[b]? =some (.lst xs))(c:dC xs=true)(hd:cK xs+1<n)(d:xs.length<=1000000)(q:Q (.bl true) mh):kR n [.ref a,.ref b] mh Q:=⟨q,.inr ⟨a,b,xs,rfl,ha,hb,c,hd,d⟩⟩
open LR
def LD(g:List Bd):List R4:=g.flatMap λb=>b.ln.map λs=>⟨s.1,b.lo,s.2,b.hi⟩
end LS
namespace LR
open PySem PyProof.Rows L2 D3
variable{f:List P2}
theorem gY{a:P2}(h:Sep (a::f)):Sep f/\a.1<a.2/\∀t∈f,a.2<t.1:=
 ⟨⟨λt ht=>h.1 t (aFt _ ht),(aG5.mp h.2).2⟩,h.1 a aFs,(aG5.mp h.2).1⟩
variable{x:Int}
theorem bU{a:P2}:gF (a::f) x↔(a.1<=x/\x<a.2)\/gF f x:=by
 rw[show a::f=[a]++f from rfl,mZ,mY]
theorem AN:¬gF [] x:=λa=>by obtain⟨_,h,_⟩:=a;cases h
theorem uF:∀{f g:List P2},Sep f->Sep g->(∀x,gF f x↔gF g x)->f=g
 | [],[],_,_,_=>rfl
 | [],b::g,_,hg,h=>by
  have:=gY hg;exact absurd ((h b.1).mpr (bU.mpr (.inl ⟨aGu _,this.2.1⟩))) AN
 | a::f,[],hf,_,h=>by
  have:=gY hf;exact absurd ((h a.1).mp (bU.mpr (.inl ⟨aGu _,this.2.1⟩))) AN
 | a::f,b::g,hf,hg,h=>by
  obtain⟨k,l,i⟩:=gY hf;obtain⟨m,n,j⟩:=gY hg
  have o:b.1<=a.1:=by
   rcases bU.mp ((h a.1).mp (bU.mpr (.inl ⟨aGu _,l⟩))) with z | ⟨t,ht,z⟩
   ·exact z.1
   ·have:=j t ht;lia
  have p:a.1<=b.1:=by
   rcases bU.mp ((h b.1).mpr (bU.mpr (.inl ⟨aGu _,n⟩))) with z | ⟨t,ht,z⟩
   ·exact z.1
   ·have:=i t ht;lia
  have r:b.2<=a.2:=by
   refine Int.not_lt.mp λc=>?_;rcases bU.mp ((h a.2).mpr (bU.mpr (.inl ⟨by lia,c⟩))) with z | ⟨t,ht,z⟩
   ·lia
   ·have:=i t ht;lia
  have s:a.2<=b.2:=by
   refine Int.not_lt.mp λc=>?_;rcases bU.mp ((h b.2).mp (bU.mpr (.inl ⟨by lia,c⟩))) with z | ⟨t,ht,z⟩
   ·lia
   ·have:=j t ht;lia
  have e:a=b:=Prod.ext (by lia) (by lia);subst e;rw[uF k m λx=>⟨λd=>?_,λd=>?_⟩]
  ·rcases bU.mp ((h x).mp (bU.mpr (.inr d))) with z | z
   ·obtain⟨t,ht,q⟩:=d;have:=i t ht;lia
   ·exact z
  ·rcases bU.mp ((h x).mpr (bU.mpr (.inr d))) with z | z
   ·obtain⟨t,ht,q⟩:=d;have:=j t ht;lia
   ·exact z
variable{g:List Bd}
theorem dD{a:Bd}(h:fZ (a::g)):fZ g/\a.lo<a.hi/\a.ln≠[]/\Sep a.ln/\(∀b∈g,a.hi<=b.lo/\b.lo<b.hi)/\∀b v,g=b::v->¬(a.hi=b.lo/\a.ln=b.ln):=by
 obtain⟨f,i,j,l,k⟩:=h;have p:=aG5.mp l;refine⟨⟨λb hb=>f b (aFt _ hb),λb hb=>i b (aFt _ hb),λb hb=>j b (aFt _ hb),p.2,λu c d v e=>k (a::u) c d v (by rw[e];rfl)⟩,f a aFs,i a aFs,j a aFs,λb hb=>⟨p.1 b hb,f b (aFt _ hb)⟩,λb v e=>k [] a b v (by rw[e];rfl)⟩
variable{y:Int}
theorem bW{a:Bd}:b7 (a::g) x y↔(a.lo<=y/\y<a.hi/\gF a.ln x)\/b7 g x y:=by
 rw[show a::g=[a]++g from rfl,iA,h9]
theorem vQ:¬b7 [] x y:=λa=>by obtain⟨_,h,_⟩:=a;cases h
theorem uX(h:f≠[])(s:Sep f):∃x,gF f x:=by
 cases f with
 | nil=>exact absurd rfl h
 | cons a f=>exact⟨a.1,bU.mpr (.inl ⟨aGu _,(gY s).2.1⟩)⟩
theorem j7{a:Bd}(h:fZ (a::g))(c:a.lo<=y)(d:y<a.hi)(x:Int):b7 (a::g) x y↔gF a.ln x:=by
 rw[bW];constructor
 ·rintro(z | ⟨b,hb,z⟩)
  ·exact z.2.2
  ·have:=(dD h).2.2.2.2.1 b hb;lia
 ·exact λz=>.inl ⟨c,d,z⟩
theorem UD{a b:Bd}{g h:List Bd}(hg:fZ (a::g))(m:fZ (b::h))(w:a.lo=b.lo)(n:a.ln=b.ln)(o:∀x y,b7 (a::g) x y↔b7 (b::h) x y):b.hi<=a.hi:=by
 refine Int.not_lt.mp λf=>?_;obtain⟨k,A,p,l,q,r⟩:=dD hg
 have at_:∀x,b7 g x a.hi↔gF a.ln x:=λx=>by
  rw[n,<-j7 m (y:=a.hi) (by lia) f x,<-o,bW];exact⟨.inr,λz=>z.elim (λz=>by lia) id⟩
 obtain⟨x,s⟩:=uX p l;obtain⟨c,e,B,t,C⟩:=(at_ x).mpr s
 cases g with
 | nil=>cases e
 | cons d g=>
  obtain⟨D,E,F,u,v,G⟩:=dD k;have hd:=q d aFs
  have i:c=d:=by
   rcases aFx.mp e with z | z
   ·exact z
   ·have:=v c z;lia
  subst i;have j:a.hi=c.lo:=by lia
  refine r c g rfl ⟨j,uF l u λx=>?_⟩;rw[<-at_ x];exact j7 k (by lia) t x
theorem DZ:∀{g h:List Bd},fZ g->fZ h->(∀x y,b7 g x y↔b7 h x y)->g=h
 | [],[],_,_,_=>rfl
 | [],b::h,_,hh,i=>by
  obtain⟨_,l,n,m,_⟩:=dD hh;obtain⟨x,f⟩:=uX n m;exact absurd ((i x b.lo).mpr (bW.mpr (.inl ⟨aGu _,l,f⟩))) vQ
 | a::g,[],hg,_,i=>by
  obtain⟨_,l,n,m,_⟩:=dD hg;obtain⟨x,f⟩:=uX n m;exact absurd ((i x a.lo).mp (bW.mpr (.inl ⟨aGu _,l,f⟩))) vQ
 | a::g,b::h,hg,hh,i=>by
  obtain⟨t,o,u,p,r,B⟩:=dD hg;obtain⟨v,l,n,m,s,C⟩:=dD hh
  have D:b.lo<=a.lo:=by
   obtain⟨x,f⟩:=uX u p;rcases bW.mp ((i x a.lo).mp (bW.mpr (.inl ⟨aGu _,o,f⟩))) with z | ⟨c,d,z⟩
   ·exact z.1
   ·have:=s c d;lia
  have E:a.lo<=b.lo:=by
   obtain⟨x,f⟩:=uX n m;rcases bW.mp ((i x b.lo).mpr (bW.mpr (.inl ⟨aGu _,l,f⟩))) with z | ⟨c,d,z⟩
   ·exact z.1
   ·have:=r c d;lia
  have j:a.lo=b.lo:=by lia
  have k:a.ln=b.ln:=uF p m λx=>by
   rw[<-j7 hg (Int.le_refl _) o x,i,j,j7 hh (Int.le_refl _) l x]
  have w:=UD hg hh j k i;have A:=UD hh hg j.symm k.symm λx y=>(i x y).symm
  have e:a=b:=by
   cases a;cases b;simp only at j k w A;simp only[Bd.mk.injEq];exact⟨j,by lia,k⟩
  subst e;rw[DZ t v λx y=>⟨λf=>?_,λf=>?_⟩]
  ·rcases bW.mp ((i x y).mp (bW.mpr (.inr f))) with z | z
   ·obtain⟨c,d,q⟩:=f;have:=r c d;lia
   ·exact z
  ·rcases bW.mp ((i x y).mpr (bW.mpr (.inr f))) with z | z
   ·obtain⟨c,d,q⟩:=f;have:=s c d;lia
   ·exact z
def bE(f:List Bd)(b:Bd):List Bd:=
 if b.ln=[] then f else match f.getLast? with
  | some t=>if t.hi=b.lo/\t.ln=b.ln then f.dropLast++[⟨t.lo,b.hi,b.ln⟩] else f++[b]
  | none=>[b]
theorem gM(b:Bd):bE [] b=if b.ln=[] then [] else [b]:=rfl
theorem fO(f:List Bd)(t b:Bd):bE (f++[t]) b=if b.ln=[] then f++[t] else if t.hi=b.lo/\t.ln=b.ln then f++[⟨t.lo,b.hi,b.ln⟩] else f++[t]++[b]:=by
 simp[bE]
theorem C6{f:List Bd}{p:Bd}(e:fZ f)(k:p.lo<p.hi)(d:Sep p.ln)(hb:∀b∈f,b.hi<=p.lo):
  fZ (bE f p)/\(∀b∈bE f p,b.hi<=p.hi)/\∀x y,b7 (bE f p) x y↔b7 f x y\/(p.lo<=y/\y<p.hi/\gF p.ln x):=by
 rcases aGd f with rfl | ⟨g,t,rfl⟩
 ·rw[gM];split
  ·rename_i c;rw[c];exact⟨e,by simp,λx y=>by simp[b7,gF]⟩
  ·rename_i c;exact⟨HK k c d,by simp,λx y=>by simp[b7]⟩
 ·rw[List.concat_eq_append]at*;rw[fO];have j:=hb t (by simp);split
  ·rename_i c;rw[c];exact⟨e,λb a=>by have:=hb b a;lia,λx y=>by simp[gF]⟩
  ·rename_i c;split
   ·rename_i i;obtain⟨i,l⟩:=i;rw[<-l];refine⟨r8 e (by lia),λb a=>?_,λx y=>?_⟩
    ·rcases aFv.mp a with z | z
     ·have:=hb b (by simp[z]);lia
     ·simp at z;subst z;simp
    ·rw[iA,iA,h9,h9];simp only;have m:=e.lt t (by simp);constructor
     ·rintro(h | h)
      ·exact .inl (.inl h)
      ·by_cases n:y<t.hi
       ·exact .inl (.inr ⟨h.1,n,h.2.2⟩)
       ·exact .inr ⟨by lia,h.2.1,h.2.2⟩
     ·rintro((h | h) | h)
      ·exact .inl h
      ·exact .inr ⟨h.1,by lia,h.2.2⟩
      ·exact .inr ⟨by lia,h.2.1,h.2.2⟩
   ·rename_i i;refine⟨D0 e k c d j i,λb a=>?_,λx y=>by rw[iA,h9]⟩;rcases aFv.mp a with z | z
    ·have:=hb b z;lia
    ·simp at z;subst z;simp
theorem nZ:∀(l f:List Bd),(∀b∈l,b.lo<b.hi/\Sep b.ln)->l.Pairwise (λa b=>a.hi<=b.lo)->fZ f->(∀b∈f,∀c∈l,b.hi<=c.lo)->
  fZ (l.foldl bE f)/\∀x y,b7 (l.foldl bE f) x y↔b7 f x y\/b7 l x y
 | [],f,_,_,hf,_=>⟨hf,λx y=>by simp[b7]⟩
 | p::l,f,h1,h2,hf,h3=>by
  have c:=aG5.mp h2;obtain⟨e,g,h⟩:=C6 hf (h1 p aFs).1 (h1 p aFs).2 λb hb=>h3 b hb p aFs
  obtain⟨i,j⟩:=nZ l (bE f p) (λb hb=>h1 b (aFt _ hb)) c.2 e λb hb d hd=>by
   have:=g b hb;have:=c.1 d hd
   lia
  refine⟨i,λx y=>?_⟩;rw[List.foldl_cons,j,h,bW,or_assoc]
theorem zX(f:List Bd)(b:Bd):(bE f b).length<=f.length+1:=by
 rcases aGd f with rfl | ⟨g,t,rfl⟩
 ·rw[gM];split <;> simp
 ·rw[List.concat_eq_append,fO];split
  ·simp
  ·split <;> simp
theorem hU:∀(l f:List Bd),(l.foldl bE f).length<=f.length+l.length
 | [],f=>by simp
 | p::l,f=>by
  have a:=hU l (bE f p);have b:=zX f p;simp only[List.foldl_cons,List.length_cons];lia
def pU:List Int->List P2
 | a::b::r=>(a,b)::pU r
 | _=>[]
def yB(v:Int->Int):List Int->Int->List Int
 | [],_=>[]
 | x::r,a=>if decide (a<1)=decide (a+v x<1) then yB v r (a+v x) else x::yB v r (a+v x)
theorem AI{v:Int->Int}{y:Int}:∀{ks:List Int} {a:Int},y∈yB v ks a->y∈ks
 | [],a,h=>by simp[yB]at h
 | x::r,a,h=>by
  unfold yB at h;split at h
  ·exact aFt _ (AI h)
  ·rcases aFx.mp h with z | z
   ·exact z▸aFs
   ·exact aFt _ (AI z)
theorem qS{c:Int->Int}{x:Int}{r:List Int}(a:∀y,x<y->y∉r->c y=c (y-1)):∀(n:Nat) (y:Int),y=x+n->(∀k∈r,y<k)->c y=c x
 | 0,y,e,_=>by rw[e];simp
 | n+1,y,e,h=>by
  rw[a y (by lia) λb=>by have:=h y b;lia];exact qS a n (y-1) (by lia) λk d=>by have:=h k d;lia
theorem N2{c v:Int->Int}:∀(ks:List Int) (lo:Int),ks.Pairwise (· < ·)->(∀k∈ks,lo<k)->(∀k∈ks,v k=c k-c (k-1))->(∀y,lo<y->y∉ks->c y=c (y-1))->(∃m,∀y,m<=y->c y<1)->
  (c lo<1->Sep (pU (yB v ks (c lo)))/\(∀t∈pU (yB v ks (c lo)),t.1∈ks)/\∀x,lo<=x->(gF (pU (yB v ks (c lo))) x↔1<=c x))/\
  (1<=c lo->∀s,(∀k∈ks,s<k)->s<=lo->Sep (pU (s::yB v ks (c lo)))/\(∀t∈pU (s::yB v ks (c lo)),s<=t.1)/\(∀x,s<=x->x<=lo->gF (pU (s::yB v ks (c lo))) x)/\∀x,lo<=x->(gF (pU (s::yB v ks (c lo))) x↔1<=c x))
 | [],lo,_,_,_,hn,⟨m,hm⟩=>by
  have all:∀x,lo<=x->c x=c lo:=λx D=>qS hn (x-lo).toNat x (by lia) (by simp);refine⟨λh=>⟨⟨by simp[yB,pU],by simp[yB,pU]⟩,by simp[yB,pU],λx D=>?_⟩,λh=>?_⟩
  ·rw[all x D];simp only[yB,pU];exact⟨λz=>absurd z AN,λz=>by lia⟩
  ·exfalso;have j:=hm (max m lo) (by lia);rw[all _ (by lia)]at j
   lia
 | x::r,lo,hs,hlo,hv,hn,hm=>by
  have p:=aG5.mp hs;have D:=hlo x aFs
  have pre:∀y,lo<=y->y<x->c y=c lo:=λy j C=>qS hn (y-lo).toNat y (by lia) λk o=>by
   rcases aFx.mp o with z | z
   ·lia
   ·have:=p.1 k z;lia
  have E:c lo+v x=c x:=by
   rw[hv x List.mem_cons_self,pre (x-1) (by lia) (by lia)];lia
  obtain⟨u,A⟩:=N2 r x p.2 p.1 (λk o=>hv k (aFt _ o)) (λy j C=>hn y (by lia) λf=>by
   rcases aFx.mp f with z | z
   ·lia
   ·exact C z) hm
  unfold yB;rw[E];refine⟨λh=>?_,λh s B H=>?_⟩
  ·by_cases hd:c x<1
   ·rw[if_pos (by simp[h,hd])];obtain⟨i,g,n⟩:=u hd;refine⟨i,λt ht=>aFt _ (g t ht),λy f=>?_⟩;by_cases d:x<=y
    ·exact n y d
    ·rw[pre y f (by lia)];refine⟨λ⟨t,ht,z⟩=>?_,λz=>by lia⟩;have:=p.1 t.1 (g t ht);lia
   ·rw[if_neg (by simp[h,hd])];obtain⟨i,g,_,n⟩:=A (by lia) x p.1 (aGu _);refine⟨i,λt ht=>?_,λy f=>?_⟩
    ·cases e:yB v r (c x) with
     | nil=>rw[e]at ht;simp[pU]at ht
     | cons z l=>
      rw[e]at ht
      have:∀(l:List Int) (t:P2),t∈pU l->t.1∈l:=by
       intro l
       induction l using pU.induct with
       | case1 a b r I=>
        intro t ht;simp only[pU,List.mem_cons]at ht;rcases ht with rfl | ht
        ·simp
        ·have:=I t ht;simp[this]
       | case2 l hl=>
        intro t ht
        cases l with
        | nil=>simp[pU]at ht
        | cons a l=>cases l with
         | nil=>simp[pU]at ht
         | cons b l=>exact absurd rfl (hl a b l)
      have q:=this _ t ht;rw[<-e]at q;rcases aFx.mp q with w | w
      ·rw[w];exact aFs
      ·exact aFt _ (AI w)
    ·by_cases d:x<=y
     ·exact n y d
     ·rw[pre y f (by lia)];refine⟨λ⟨t,ht,z⟩=>?_,λz=>by lia⟩;have:=g t ht;lia
  ·by_cases hd:c x<1
   ·rw[if_neg (by simp[hd];lia)];obtain⟨i,g,n⟩:=u hd;have F:=B x aFs;simp only[pU];refine⟨⟨λt ht=>?_,aG5.mpr ⟨λt ht=>p.1 t.1 (g t ht),i.2⟩⟩,λt ht=>?_,?_,λy f=>?_⟩
    ·rcases aFx.mp ht with z | z
     ·subst z;exact F
     ·exact i.1 t z
    ·rcases aFx.mp ht with z | z
     ·subst z;exact aGu _
     ·have:=p.1 t.1 (g t z);lia
    ·intro y j C;exact bU.mpr (.inl ⟨j,by simp only;lia⟩)
    ·rw[bU];by_cases d:x<=y
     ·rw[n y d];exact⟨λz=>z.elim (λz=>by simp only at z;lia) id,.inr⟩
     ·rw[pre y f (by lia)];exact⟨λ_=>h,λ_=>.inl ⟨by simp only;lia,by simp only;lia⟩⟩
   ·rw[if_pos (by simp[hd];lia)];obtain⟨i,g,G,n⟩:=A (by lia) s (λk o=>B k (aFt _ o)) (by lia);refine⟨i,g,λy j C=>G y j (by lia),λy f=>?_⟩;by_cases d:x<=y
    ·exact n y d
    ·rw[pre y f (by lia)];exact⟨λ_=>h,λ_=>G y (by lia) (by lia)⟩
def nJ:WS:=(gI (pB (tP (aB 1)) (pB (cY (aX oEq (aX eJ (aX eJ (aB 1) (EA m9 (wC (.int 1)))) (wC (.int 1))) (aB 2))) (cY (aX oEq (aX eJ (aX eJ (aB 1) (EA m9 (wC (.int 1)))) (wC (.int 2))) (aB 4))))) (tQ (f7 (aA (aX eJ (aX eJ (aB 1) (EA m9 (wC (.int 1)))) (wC (.int 0))) (aA (aB 3) (aA (aB 4) aD)))) (aB 1) (EA m9 (wC (.int 1)))) (iN (GG "list" cI (aB 1) (aA (f7 (aA (aB 2) (aA (aB 3) (aA (aB 4) aD)))) aD))))
def k7:WS:=(aS (gI (wZ (tP (aB 4))) UR dQ) (nJ))
def tM:WS:=(dE (aF rF (aA (aB 1) aD)))
def tN:WS:=(aS (lK (dP (aB 0)) (gT 3 (bH (gN 2) (bH (gN 3) (bH (gN 4) iQ)))) (k7)) (tM))
def oZ:WS:=(aS (bX (e7 aD) (gN 1)) (tN))
def oY:WS:=(dE (wTZ 2 (aA (KL (aB 0) OP OP (lJ (wC (.int 2)))) (aA (KL (aB 0) (lJ (wC (.int 1))) OP (lJ (wC (.int 2)))) aD))))
def sQ:OA:=λds mh Q=>∃(n:Nat) (L:List Bd),ds=[.ref n]/\mh[n]? =some (.lst (L.map bD))/\L.length<=4000/\Q (gD (L.foldl bE [])) mh
theorem SM{mh mh' :MH}{E:fY}{n e:Nat}{b:Bd}{f:List Bd}(u:b9 mh mh')(d:mh'[e]? =some (.lst (f.map bD)))(p:mh.length<=e)(i:f.length<=4000)
  (nx:∀l m o M,b9 mh M->M[e]? =some (.lst ((bE f b).map bD))->(∀k,k≠e->M[k]? =mh'[k]?)->E.nx [some (.ref n),some (.ref e),l,m,o] M/\E.ct [some (.ref n),some (.ref e),l,m,o] M):
  k7 E [some (.ref n),some (.ref e),some (.int b.lo),some (.int b.hi),some (cR b.ln)] mh' :=by
 have sz:=aGe;have keep:=uE d;have j:=mI b.ln;have a:=λl m o=>nx l m o (mh'.set e (.lst ((bE f b).map bD))) (u.set p _) (cS _ d) (λk v=>by rw[List.getElem?_set_ne (Ne.symm v)]);obtain⟨lo,hi,ln⟩:=b;simp only at j⊢;simp[k7,nJ,cR,jA];rcases aGd f with rfl | ⟨g,t,rfl⟩
 ·simp only[gM]at a;by_cases c:ln=[]
  ·subst c;simp at a⊢;simp at keep;rw[keep]at a;exact(a _ _ _).2
  ·simp[c,d]at a⊢;rw[dJ d];exact⟨by simp[zV,d],by lia,by simp;lia,by simpa[bD,cR] using (a _ _ _).1⟩
 ·rw[List.concat_eq_append]at*;have h:n6 ((g++[t]).map bD) (-1)=some (.tup [.int t.lo,.int t.hi,.tup (t.ln.map sD)]):=by rw[List.map_append];exact sU _ _
  simp only[fO]at a;by_cases c:ln=[]
  ·subst c;simp at a⊢;simp at keep;rw[keep]at a;exact(a _ _ _).2
  ·have q:=mI t.ln;simp[c,d]at a⊢;rw[eX d,h];simp[i3,A0];by_cases r:t.hi=lo
   ·simp[r]at a⊢;rw[eX d,h];simp[i3,A0];refine⟨q.1,j.1,by lia,?_⟩;rw[AG];by_cases s:t.ln=ln
    ·simp[s]at a⊢;rw[eX d,h];simp[i3,A0];rw[uI d];simp only[List.length_map,List.length_append,List.length_cons,List.length_nil,Nat.zero_add,vC,bT];have:=(a (some (.int lo)) (some (.int hi)) (some (.tup (ln.map sD)))).1;refine⟨by lia,?_⟩;simpa[bD,cR] using this
    ·simp[s]at a⊢;rw[dJ d];refine⟨by simp[zV,d],by lia,by simp at i⊢;lia,?_⟩;have:=(a (some (.int lo)) (some (.int hi)) (some (.tup (ln.map sD)))).1;simpa[bD,cR] using this
   ·simp[r]at a⊢;rw[dJ d];refine⟨by simp[zV,d],by lia,by simp at i⊢;lia,?_⟩;have:=(a (some (.int lo)) (some (.int hi)) (some (.tup (ln.map sD)))).1;simpa[bD,cR] using this
theorem NO(ds:List D)(mh:MH)(R:DK)(ok:kW mh)(r:sQ ds mh R):oZ (En mh R) (aI ["bands","kept","y0","y1","stretches"] ds) mh:=by
 obtain⟨n,L,rfl,j,y,q⟩:=r;have sz:=aGe;have s:n<mh.length:=iX j;simp[oZ,tN,aI];rw[bF (b8 j)];simp only[bT];refine cD (λi f mh' =>(∃a b c,f=[some (.ref n),some (.ref mh.length),a,b,c])/\b9 mh mh' /\mh'[n]? =some (.lst (L.map bD))/\mh'[mh.length]? =some (.lst (((L.take i).foldl bE []).map bD))) _ ?_ ?_ ?_ ⟨⟨_,_,_,rfl⟩,⟨_,rfl⟩,b8 j,by simp⟩
 ·rintro i f mh' ⟨_,_,g,_⟩;exact bF g
 ·rintro i d f mh' N hi ⟨⟨a,b,c,rfl⟩,e,g,h⟩ nx;obtain⟨p,o,rfl⟩:=fL hi;have t:i<L.length:=(aFp.mp o).1;have k:=hU (L.take i) [];simp[bD];refine SM e h (aFw _) (by simp at k⊢;lia) λu l v M m w x=>?_;have:N [some (.ref n),some (.ref mh.length),u,l,v] M:=nx _ _ ⟨⟨_,_,_,rfl⟩,m,by rw[x n (by lia)];exact g,by rw[w,take_snoc o];simp⟩;exact⟨this,this⟩
 ·rintro f mh' ⟨⟨a,b,c,rfl⟩,e,g,h⟩;simp at h;simp[tM];rw[bF h];exact e.out ok (pT _ _) q
theorem zE:∀l:List Int,(aG [(mE l).map D.int,(uV l).map D.int]).map D.tup=(pU l).map sD
 | []=>rfl
 | [a]=>by simp[mE,uV,aG,pU]
 | a::b::r=>by
  have c:=zE r;simp only[aG]at c⊢;simp only[mE,uV,List.map_cons,List.zipWith_cons_cons,pU,c];rfl
theorem zF:∀l:List Int,(pU l).length<=l.length
 | []=>by simp[pU]
 | [a]=>by simp[pU]
 | a::b::r=>by have:=zF r;simp only[pU,List.length_cons];lia
theorem xN{α a:Type}(f:α->a)(xs:List α)(lo hi st:Option Int):g7 (xs.map f) lo hi st=(g7 xs lo hi st).map f:=by
 unfold g7;rw[List.length_map,List.map_filterMap];congr 1;funext i;simp
def pP:OA:=λds mh Q=>∃(n:Nat) (l:List Int),ds=[.ref n]/\mh[n]? =some (.lst (l.map .int))/\l.length<=1000000/\Q (cR (pU l)) mh
theorem NJ(ds:List D)(mh:MH)(R:DK)(ok:kW mh)(b:pP ds mh R):oY (En mh R) (aI ["edges"] ds) mh:=by
 obtain⟨n,l,rfl,a,c,q⟩:=b;have sz:=aGe;simp[oY,aI];refine⟨l.map .int,u4 a,?_⟩;rw[xN,EY];refine⟨l.map .int,u4 (b8 a),?_⟩;rw[xN,IF];refine⟨[(mE l).map .int,(uV l).map .int],?_,?_,?_⟩
 ·simp[gE,bC]
 ·have:=aGs List.length (zE l);have d:=zF l;simp only[List.length_map]at this
  lia
 ·rw[zE]
  have:b9 mh (mh++[MO.lst ((mE l).map .int),MO.lst ((uV l).map .int)]):=⟨_,rfl⟩
  exact this.out ok (by simp[cV,mQ]) q
theorem BM{k:D}:∀{kvs:List (D×D)},dG kvs k=none↔∀p∈kvs,p.1≠k
 | []=>by simp[dG]
 | p::kvs=>by
  simp only[dG];by_cases h:p.1=k
  ·simp[h]
  ·simp[h,BM (kvs:=kvs)]
theorem E5:∀(l m:List Int),l.Nodup->(∀x∈l,x∈m)->l.length<=m.length
 | [],m,_,_=>by simp
 | a::l,m,nd,h=>by
  have c:=aHj.mp nd;have b:=h a aFs;have:=E5 l (m.erase a) c.2 λx d=>(List.mem_erase_of_ne (λz:x=a=>c.1 (by rw[<-z];exact d))).mpr (h x (aFt _ d));rw[List.length_erase_of_mem b]at this;have:=List.length_pos_of_mem b;simp only[List.length_cons];lia
variable{kvs:List (D×D)}
theorem IC(h:(kvs.map (·.1)).Nodup)(k v:D):((putD kvs k v).map (·.1)).Nodup:=by
 rw[ID];split
 ·exact h
 ·rename_i hk;rw[List.nodup_append];refine⟨h,by simp,λa ha b hb=>?_⟩;simp at hb;subst hb;obtain⟨p,c,rfl⟩:=aG0.mp ha;exact λz=>hk ⟨p,c,z⟩
def oS(ln:List P2)(x:Int):Int:=(ln.map λt=>(if t.1<=x then 1 else 0)-(if t.2<=x then (1:Int) else 0)).sum
theorem u6(t:P2)(ln:List P2)(x:Int):oS (t::ln) x=(if t.1<=x then 1 else 0)-(if t.2<=x then (1:Int) else 0)+oS ln x:=by simp[oS]
theorem WW(a b:Int):lx (enc (.int b)) (enc (.int a))=false↔a<=b:=by
 simp only[enc,j5,lx];by_cases hb:b<a
 ·simp[hb]
 ·by_cases ha:a<b
  ·simp[hb,ha];lia
  ·have:a=b:=by lia
   subst this;simp
theorem IH{fs:List D}{f:List Int}(p:fs.Perm (f.map D.int))(s:fs.Pairwise (λd e=>lx (enc e) (enc d)=false))(nd:f.Nodup):∃c:List Int,fs=c.map D.int/\c.Perm f/\c.Pairwise (· < ·):=by
 obtain⟨c,g,rfl⟩:=lU D.int p f rfl;refine⟨c,rfl,g,?_⟩;rw[List.pairwise_map]at s;have i:=g.symm.nodup nd;rw[List.nodup_iff_pairwise_ne]at i
 exact(s.and i).imp λ{a b} h=>by
  have:=(WW a b).mp h.1;have:=h.2
  lia
theorem zQ:∀ln:List P2,∃m,∀y,y<=m->oS ln y=0
 | []=>⟨0,λy _=>rfl⟩
 | t::ln=>by
  obtain⟨m,a⟩:=zQ ln;refine⟨min m (min (t.1-1) (t.2-1)),λy b=>?_⟩;rw[u6,a y (by lia),if_neg (by lia),if_neg (by lia)];rfl
theorem u5:∀ln:List P2,∃m,∀y,m<=y->oS ln y=0
 | []=>⟨0,λy _=>rfl⟩
 | t::ln=>by
  obtain⟨m,a⟩:=u5 ln;refine⟨max m (max t.1 t.2),λy b=>?_⟩;rw[u6,a y (by lia),if_pos (by lia),if_pos (by lia)];rfl
variable{rs:List R4}
theorem LC:∀b∈fT rs,b.lo∈dY rs/\b.hi∈dY rs/\∀t∈b.ln,t.1∈rs.map (·.x0)++rs.map (·.x1)/\t.2∈rs.map (·.x0)++rs.map (·.x1):=by
 have c:∀lo hi,∀t∈bM (aL rs lo hi),t.1∈rs.map (·.x0)++rs.map (·.x1)/\t.2∈rs.map (·.x0)++rs.map (·.x1):=λlo hi=>
  u9 (P:=λx=>x∈rs.map (·.x0)++rs.map (·.x1)) (uD (λr i=>⟨aG6 _ (aHw i),aFz _ (aHw i)⟩) lo hi)
 have step:∀(f:List Bd) (p:P2),p.1∈dY rs->p.2∈dY rs->(∀b∈f,b.lo∈dY rs/\b.hi∈dY rs/\∀t∈b.ln,t.1∈rs.map (·.x0)++rs.map (·.x1)/\t.2∈rs.map (·.x0)++rs.map (·.x1))->
   ∀b∈aU rs f p,b.lo∈dY rs/\b.hi∈dY rs/\∀t∈b.ln,t.1∈rs.map (·.x0)++rs.map (·.x1)/\t.2∈rs.map (·.x0)++rs.map (·.x1):=λf p e d a b hb=>by
  rcases aGd f with rfl | ⟨g,t,rfl⟩
  ·rw[d8]at hb;split at hb
   ·cases hb
   ·rw[List.mem_singleton.mp hb];exact⟨e,d,c _ _⟩
  ·rw[List.concat_eq_append]at*;rw[dH]at hb;split at hb
   ·exact a b hb
   ·split at hb
    ·rcases aFv.mp hb with z | z
     ·exact a b (by simp[z])
     ·rw[List.mem_singleton.mp z];exact⟨(a t (by simp)).1,d,c _ _⟩
    ·rcases aFv.mp hb with z | z
     ·exact a b z
     ·rw[List.mem_singleton.mp z];exact⟨e,d,c _ _⟩
 have go:∀(l:List P2) (f:List Bd),(∀p∈l,p.1∈dY rs/\p.2∈dY rs)->(∀b∈f,b.lo∈dY rs/\b.hi∈dY rs/\∀t∈b.ln,t.1∈rs.map (·.x0)++rs.map (·.x1)/\t.2∈rs.map (·.x0)++rs.map (·.x1))->
   ∀b∈l.foldl (aU rs) f,b.lo∈dY rs/\b.hi∈dY rs/\∀t∈b.ln,t.1∈rs.map (·.x0)++rs.map (·.x1)/\t.2∈rs.map (·.x0)++rs.map (·.x1):=by
  intro l
  induction l with
  | nil=>intro f _ a;exact a
  | cons p l ih=>
   intro f h a;exact ih _ (λq j=>h q (aFt _ j)) (step f p (h p aFs).1 (h p aFs).2 a)
 refine go _ [] (λp k=>?_) (by simp);obtain⟨e,d⟩:=aH4 (show (p.1,p.2)∈_ from k);exact⟨e,aIc d⟩
def b2i(b:Bool):Int:=if b then 1 else 0
def eI(l:List P2)(x:Int):Bool:=l.any λt=>decide (t.1<=x) && decide (x<t.2)
theorem qC{l:List P2}:eI l x=true↔gF l x:=by simp[eI,gF]
theorem JN(t:P2)(l:List P2)(x:Int):eI (t::l) x=((decide (t.1<=x) && decide (x<t.2)) || eI l x):=by simp[eI]
theorem FT{t:P2}{l:List P2}(h:Sep (t::l))(c:x<=t.2):eI l x=false:=by
 obtain⟨_,_,a⟩:=gY h
 cases e:eI l x with
 | false=>rfl
 | true=>
  obtain⟨u,b,d,_⟩:=qC.mp e;have:=a u b;lia
def rowAt:List Bd->Int->List P2
 | [],_=>[]
 | b::g,y=>if b.lo<=y/\y<b.hi then b.ln else rowAt g y
theorem HY:(∀b∈g,y<b.lo)->rowAt g y=[]:=by
 induction g with
 | nil=>intro _;rfl
 | cons b g ih=>
  intro h;have:=h b aFs;simp only[rowAt];rw[if_neg (by lia)];exact ih λc a=>h c (aFt _ a)
theorem jH:∀{g:List Bd},fZ g->∀x y,eI (rowAt g y) x=true↔b7 g x y
 | [],_,x,y=>by simp[rowAt,eI,b7]
 | b::g,h,x,y=>by
  obtain⟨a,f,i,j,e,_⟩:=dD h;rw[bW];simp only[rowAt];by_cases c:b.lo<=y/\y<b.hi
  ·rw[if_pos c,qC];refine⟨λz=>.inl ⟨c.1,c.2,z⟩,λz=>?_⟩;rcases z with z | ⟨d,hd,k,_⟩
   ·exact z.2.2
   ·have:=e d hd;lia
  ·rw[if_neg c,jH a x y];exact⟨.inr,λz=>z.elim (λz=>absurd ⟨z.1,z.2.1⟩ c) id⟩
theorem qT:∀{g:List Bd},fZ g->∀y,Sep (rowAt g y)
 | [],_,y=>⟨by simp[rowAt],by simp[rowAt]⟩
 | b::g,h,y=>by
  obtain⟨a,d,e,c,f,_⟩:=dD h;simp only[rowAt];split
  ·exact c
  ·exact qT a y
theorem qU:∀{g:List Bd} {y:Int} {t:P2},t∈rowAt g y->∃b∈g,t∈b.ln
 | [],y,t,h=>by simp[rowAt]at h
 | b::g,y,t,h=>by
  simp only[rowAt]at h;split at h
  ·exact⟨b,aFs,h⟩
  ·obtain⟨c,a,z⟩:=qU h;exact⟨c,aFt _ a,z⟩
def i6(a:OA):WS:=(GD (aX CG (BJ (aB 3) (aB 7) (wC (.int 0))) (aB 5)) (aB 3) (aB 7))
def gV(a:OA):WS:=(aS (GD (aX f9 (BJ (aB 3) (aB 6) (wC (.int 0))) (aB 5)) (aB 3) (aB 6)) (i6 a))
def gW(a:OA):WS:=(lK (dP (aB 4)) (gT 2 (bH (gN 6) (bH (gN 7) iQ))) (gV a))
def eY(a:OA):WS:=(gI (cY (aX OU (aX oIn (aB 9) (aB 2)) (aB 11))) (iN (GG "list" cI (aB 8) (aA (aB 10) aD))) dQ)
def i5(a:OA):WS:=(aS (US 9 (aX WM (aB 3) (aB 10)) L7) (eY a))
def kZ(a:OA):WS:=(aS (bX (aX oIn (aB 9) (aB 2)) (gN 11)) (i5 a))
def nD(a:OA):WS:=(dE (aF a (aA (aB 8) aD)))
def nE(a:OA):WS:=(aS (lK (dP (aF D6 (aA (aB 3) aD))) (gN 10) (kZ a)) (nD a))
def nF(a:OA):WS:=(aS (bX (wC (.int 0)) (gN 9)) (nE a))
def nG(a:OA):WS:=(aS (bX (e7 aD) (gN 8)) (nF a))
def nH(a:OA):WS:=(aS (lK (dP (f7 (aA (f7 (aA (aB 0) (aA (wC (.int 1)) aD))) (aA (f7 (aA (aB 1) (aA (wC (.int 2)) aD))) aD)))) (gT 2 (bH (gN 4) (bH (gN 5) iQ))) (gW a)) (nG a))
def iD(a:OA):WS:=(aS (bX (PD false) (gN 3)) (nH a))
def mF(p:Int->Bool)(v:Int->Int):List Int->Int->List Int
 | [],_=>[]
 | x::r,a=>if p a=p (a+v x) then mF p v r (a+v x) else x::mF p v r (a+v x)
theorem HG{p:Int->Bool}{c v:Int->Int}:∀(ks:List Int) (lo:Int),ks.Pairwise (· < ·)->(∀k∈ks,lo<k)->(∀k∈ks,v k=c k-c (k-1))->(∀y,lo<y->y∉ks->c y=c (y-1))->
  mF p v ks (c lo)=yB (λk=>(if p (c k) then 1 else 0)-(if p (c (k-1)) then 1 else 0)) ks (if p (c lo) then 1 else 0)
 | [],lo,_,_,_,_=>rfl
 | x::r,lo,hs,hlo,hv,hn=>by
  have q:=aG5.mp hs
  have pre:c (x-1)=c lo:=qS hn (x-1-lo).toNat (x-1) (by have:=hlo x aFs;lia) λk a=>by
   rcases aFx.mp a with z | z
   ·lia
   ·have:=q.1 k z;lia
  have b:c lo+v x=c x:=by rw[hv x List.mem_cons_self,pre];lia
  have d:=HG (p:=p) r x q.2 q.1 (λk a=>hv k (aFt _ a)) (λy g e=>hn y (by have:=hlo x aFs;lia) λf=>by
   rcases aFx.mp f with z | z
   ·lia
   ·exact e z)
  unfold mF yB;rw[b,pre,d];cases p (c lo) <;> cases p (c x) <;> simp
theorem yA(p:Int->Bool)(v:Int->Int):∀(l:List Int) (x a:Int),mF p v (l++[x]) a=mF p v l a++(if p (a+(l.map v).sum)=p (a+(l.map v).sum+v x) then [] else [x])
 | [],x,a=>by simp[mF]
 | y::l,x,a=>by
  have b:=yA p v l x (a+v y);have e:a+((y::l).map v).sum=a+v y+(l.map v).sum:=by simp;lia
  rw[e];simp only[List.cons_append,mF];rw[b];split <;> simp
theorem vM(p:Int->Bool)(v:Int->Int):∀(l:List Int) (a:Int),(mF p v l a).length<=l.length
 | [],_=>by simp[mF]
 | x::l,a=>by
  have:=vM p v l (a+v x);unfold mF;split <;> simp <;> lia
theorem SS{p:Int->Bool}{c v:Int->Int}{ks:List Int}(e:ks.Pairwise (· < ·))(s:∀k∈ks,v k=c k-c (k-1))(n:∀y,y∉ks->c y=c (y-1))(h0:∃m,∀y,y<=m->c y=0)(t:∃m,∀y,m<=y->c y=0)(d:p 0=false):
  Sep (pU (mF p v ks 0))/\∀x,gF (pU (mF p v ks 0)) x↔p (c x)=true:=by
 obtain⟨m0,f⟩:=h0;obtain⟨m1,g⟩:=t
 obtain⟨lo,C,b⟩:∃lo,lo<=m0/\∀k∈ks,lo<k:=by
  cases ks with
  | nil=>exact⟨m0,aGu _,by simp⟩
  | cons k r=>
   refine⟨min m0 (k-1),by lia,λj u=>?_⟩;rcases aFx.mp u with z | z
   ·lia
   ·have:=(aG5.mp e).1 j z;lia
 have i:∀b,b<=lo->c b=0:=λl h=>f l (by lia);have o:=HG (p:=p) ks lo e b s λy _ h=>n y h;rw[i lo (Int.le_refl _)]at o;rw[o,d];have key:=λa (h:a <=lo)=>(N2 (c:=λx=>if p (c x) then 1 else 0) (v:=λk=>(if p (c k) then 1 else 0)-(if p (c (k-1)) then 1 else 0)) ks a e (λk w=>by have:=b k w;lia) (λk _=>rfl) (λy _ h=>by show (if p (c y)=true then (1:Int) else 0)=_;rw[n y h]) ⟨m1,λy A=>by simp[g y A,d]⟩).1 (by simp[i a h,d]);have q:∀a,a <=lo->(if p (c a)=true then (1:Int) else 0)=0:=λa h=>by simp[i a h,d]
 refine⟨?_,λx=>?_⟩
 ·have:=(key lo (aGu _)).1;simp only[q lo (Int.le_refl _)]at this;simpa using this
 ·have:=(key (min lo x) (by lia)).2.2 x (by lia);simp only[q (min lo x) (by lia)]at this;have B:(1:Int)<=(if p (c x)=true then 1 else 0)↔p (c x)=true:=by split <;> simp[*]
  rw[B]at this;simpa using this
structure qH(xs:List Int)(kvs:List (D×D))(δ:Int->Int):Prop where
 key:∀p∈kvs,∃x∈xs,p.1= .int x
 nd:(kvs.map (·.1)).Nodup
 val:∀x,(dG kvs (.int x)).getD (.int 0)= .int (δ x)
variable{xs:List Int}{δ:Int->Int}
theorem qH.step(h:qH xs kvs δ)(a:x∈xs)(m:Int):qH xs (putD kvs (.int x) (.int (δ x+m))) (λy=>δ y+if y=x then m else 0):=by
 refine⟨λp b=>?_,IC h.nd _ _,λy=>?_⟩
 ·rcases LK b with z | z
  ·exact h.key p z
  ·exact⟨x,a,z.1⟩
 ·by_cases e:y=x
  ·subst e;simp[PH]
  ·rw[EG _ _ (by simpa using e),h.val y];simp[e]
theorem C4{xs:List Int}:∀{kvs:List (D×D)},(∀p∈kvs,∃x∈xs,p.1= .int x)->∃a:List Int,kvs.map (·.1)=a.map D.int/\∀x∈a,x∈xs
 | [],_=>⟨[],rfl,by simp⟩
 | p::kvs,h=>by
  obtain⟨x,b,e⟩:=h p aFs;obtain⟨a,c,d⟩:=C4 λq f=>h q (aFt _ f)
  exact⟨x::a,by simp[e,c],λy g=>by
   rcases aFx.mp g with z | z
   ·rw[z];exact b
   ·exact d y z⟩
theorem qH.keys(h:qH xs kvs δ):∃a:List Int,kvs.map (·.1)=a.map D.int/\a.Nodup/\(∀x∈a,x∈xs)/\(∀x∈a,dG kvs (.int x)=some (.int (δ x)))/\∀x,x∉a->δ x=0:=by
 obtain⟨a,e,k⟩:=C4 h.key
 have nd:a.Nodup:=by
  have:=h.nd;rw[e,List.nodup_iff_pairwise_ne,List.pairwise_map]at this;rw[List.nodup_iff_pairwise_ne];exact this.imp λh z=>h (by rw[z])
 have f:∀x,dG kvs (.int x)=none↔x∉a:=λx=>by
  rw[BM];constructor
  ·intro l b;have:D.int x∈kvs.map (·.1):=by rw[e];exact aHw b
   obtain⟨p,g,i⟩:=aG0.mp this;exact l p g i
  ·intro b p g z;have:p.1∈kvs.map (·.1):=aHw g;rw[e,z]at this;obtain⟨y,m,j⟩:=aG0.mp this;cases j;exact b m
 refine⟨a,e,nd,k,λx b=>?_,λx b=>?_⟩
 ·have c:=h.val x
  cases o:dG kvs (.int x) with
  | none=>exact absurd b ((f x).mp o)
  | some d=>rw[o]at c;simp at c;rw[c]
 ·have c:=h.val x;rw[(f x).mpr b]at c;simp at c;exact c.symm
theorem qH.len(h:qH xs kvs δ):kvs.length<=xs.length:=by
 obtain⟨a,e,nd,b,_⟩:=h.keys;have:=E5 a xs nd b;have:=aGs List.length e;simp at this;lia
theorem YE{p:OA}{E:fY}{mh:MH}{n:Nat}{x y m:Int}{h i j k l o b c:Option D}(e:mh[n]? =some (.dic false kvs))(f:qH xs kvs δ)(u:xs.length<4000)(r:x∈xs)(s:y∈xs)
  (q:∀a,qH xs a (λz=>δ z+(if z=x then m else 0)+if z=y then -m else 0)->E.nx [h,i,j,some (.ref n),k,some (.int m),some (.int x),some (.int y),l,o,b,c] (mh.set n (.dic false a))):
  gV p E [h,i,j,some (.ref n),k,some (.int m),some (.int x),some (.int y),l,o,b,c] mh:=by
 have sz:=aGe;have v:=f.len;simp[gV];refine⟨⟨_,e⟩,kvs,e,⟨.inl x,rfl⟩,?_⟩;rw[f.val x];simp;refine⟨n,kvs,.inl x,rfl,e,rfl,by lia,?_⟩;have st:=f.step r m;have t:=st.len;have g:=cS (.dic false (putD kvs (.int x) (.int (δ x+m)))) e;simp[i6];refine⟨⟨_,g⟩,_,g,⟨.inl y,rfl⟩,?_⟩;rw[st.val y];simp;refine⟨n,_,.inl y,rfl,g,rfl,by lia,?_⟩;have d:=st.step s (-m);rw[show (δ y+(if y=x then m else 0))+ -m=(δ y+if y=x then m else 0)-m by lia]at d;simpa using q _ d
theorem MS(l:List P2)(t:P2)(δ:Int->Int)(m:Int):(λx=>δ x+m*(oS (l++[t]) x-oS (l++[t]) (x-1)))=λy=>δ y+m*(oS l y-oS l (y-1))+(if y=t.1 then m else 0)+if y=t.2 then -m else 0:=by
 funext y;have b:∀y,oS (l++[t]) y=oS l y+((if t.1<=y then 1 else 0)-(if t.2<=y then (1:Int) else 0)):=λy=>by simp[oS]
 rw[b,b]
 have c:∀z:Int,(if z<=y then 1 else 0)-(if z<=y-1 then (1:Int) else 0)=if y=z then 1 else 0:=λz=>by
  by_cases a:z<=y-1
  ·simp[a,show z<=y by lia,show ¬y=z by lia]
  ·by_cases d:z<=y
   ·rw[if_pos d,if_neg a,if_pos (by lia)];rfl
   ·simp[a,d,show ¬y=z by lia]
 have e:=c t.1;have f:=c t.2;have:oS l y+((if t.1<=y then 1 else 0)-(if t.2<=y then (1:Int) else 0))-(oS l (y-1)+((if t.1<=y-1 then 1 else 0)-(if t.2<=y-1 then (1:Int) else 0)))=oS l y-oS l (y-1)+(if y=t.1 then 1 else 0)-(if y=t.2 then 1 else 0):=by lia
 rw[this,Int.mul_sub,Int.mul_add]
 have m1:m*(if y=t.1 then (1:Int) else 0)=if y=t.1 then m else 0:=by split <;> simp
 have m2:m*(if y=t.2 then (1:Int) else 0)=if y=t.2 then m else 0:=by split <;> simp
 rw[m1,m2];split <;> split <;> lia
theorem NL{y:OA}{E:fY}{mh:MH}{n:Nat}{ln:List P2}{m:Int}{j k l o p r s e f:Option D}(w:mh[n]? =some (.dic false kvs))(z:qH xs kvs δ)(A:xs.length<4000)(C:ln.length<=1000000)(B:∀t∈ln,t.1∈xs/\t.2∈xs)
  (q:∀o p c,qH xs c (λx=>δ x+m*(oS ln x-oS ln (x-1)))->E.nx [j,k,l,some (.ref n),some (cR ln),some (.int m),o,p,r,s,e,f] (mh.set n (.dic false c))):
  gW y E [j,k,l,some (.ref n),some (cR ln),some (.int m),o,p,r,s,e,f] mh:=by
 have sz:=aGe;simp[gW,cR];refine cD (λi u mh' =>(∃a b,u=[j,k,l,some (.ref n),some (.tup (ln.map sD)),some (.int m),a,b,r,s,e,f])/\∃c,mh' =mh.set n (.dic false c)/\qH xs c (λx=>δ x+m*(oS (ln.take i) x-oS (ln.take i) (x-1)))) _ ?_ ?_ ?_ ⟨⟨_,_,rfl⟩,kvs,(uE w).symm,by simpa[oS] using z⟩
 ·intros;rfl
 ·rintro i d u mh' N hi ⟨⟨a,b,rfl⟩,c,rfl,st⟩ nx;obtain⟨t,ht,rfl⟩:=fL hi;have g:=B t (aG3 ht);simp[sD];refine YE (cS _ w) st A g.1 g.2 λh v=>?_;rw[List.set_set];refine nx _ _ ⟨⟨_,_,rfl⟩,h,rfl,?_⟩;rw[take_snoc ht,MS];exact v
 ·rintro u mh' ⟨⟨a,b,rfl⟩,c,rfl,st⟩;simp only[List.length_map,List.take_length]at st;exact q _ _ _ st
def gA(a b:List P2)(x:Int):Int:=oS a x+2*oS b x
def QA:OA:=λds mh Q=>∃(a b:List P2) (ks:List Int),ds=[cR a,cR b,.tup (ks.map .int)]/\2*(a.length+b.length)<3900/\0∉ks/\∀l,Sep l->l.length<=2*(a.length+b.length)->(∀x,gF l x↔gA a b x∈ks)->Q (cR l) mh
theorem AA(c:Int):∀ks:List Int,inD (.int c) (ks.map .int)=decide (c∈ks)
 | []=>rfl
 | k::ks=>by
  have:=AA c ks;simp only[inD]at this⊢;simp only[List.map_cons,List.any_cons,this,jZ];by_cases h:c=k
  ·subst h;simp
  ·simp[h,Ne.symm h]
theorem xZ:∀ks:List Int,(ks.map D.int).all mC=true
 | []=>rfl
 | k::ks=>by simp[mC]
theorem aC3(ds:List D)(mh:MH)(R:DK)(ok:kW mh)(hs:QA ds mh R):iD pP (En mh R) (aI ["one","other","kept","steps","row","worth","x0","x1","edges","count","x","ahead"] ds) mh:=by
 obtain⟨a,b,kp,rfl,hlen,h0,q⟩:=hs;have sz:=aGe
 let xs:List Int:=a.flatMap (λt=>[t.1,t.2])++b.flatMap (λt=>[t.1,t.2])
 have hxl:xs.length=2*(a.length+b.length):=by
  have:∀l:List P2,(l.flatMap (λt=>[t.1,t.2])).length=2*l.length:=λl=>by induction l with
   | nil=>rfl
   | cons t l ih=>simp[ih];lia
  simp only[xs,List.length_append,this];lia
 have ha:∀t∈a,t.1∈xs/\t.2∈xs:=λt ht=>⟨aG6 _ (aGz.mpr ⟨t,ht,by simp⟩),aG6 _ (aGz.mpr ⟨t,ht,by simp⟩)⟩
 have hb:∀t∈b,t.1∈xs/\t.2∈xs:=λt ht=>⟨aFz _ (aGz.mpr ⟨t,ht,by simp⟩),aFz _ (aGz.mpr ⟨t,ht,by simp⟩)⟩
 have r0:qH xs [] (λ_=>0):=⟨by simp,by simp,by simp[dG]⟩
 have g0:(mh++[MO.dic false []])[mh.length]? =some (.dic false []):=by simp
 simp[iD,nH,aI];refine⟨by lia,?_⟩;simp only[bC,bT,lW];refine⟨trivial,?_⟩;simp;refine NL g0 r0 (by lia) (by lia) ha λQ S F G=>?_;simp;refine NL (by simp) G (by lia) (by lia) hb λQ S f H=>?_;simp
 have A:qH xs f (λx=>gA a b x-gA a b (x-1)):=by
  have e:(λx=>(0:Int)+1*(oS a x-oS a (x-1))+2*(oS b x-oS b (x-1)))=λx=>gA a b x-gA a b (x-1):=by funext x;simp only[gA];lia
  rw[<-e];exact H
 clear G H g0 r0 F;obtain⟨T,ek,nd,I,z,hz⟩:=A.keys;have U:=E5 T xs nd I;have hkl:=A.len;simp[nG,nF,nE];refine⟨mh.length,false,f,rfl,by simp,by lia,by rw[ek];exact lP _,λfs p s=>?_⟩;rw[ek]at p;obtain⟨g,rfl,V,W⟩:=IH p s nd;have hjl:=V.length_eq;have e1:mh++[MO.dic false f,MO.lst []]++[.lst (g.map .int)]=mh++[MO.dic false f]++[MO.lst []]++[.lst (g.map .int)]:=by simp
 have g1:(mh++[MO.dic false f,MO.lst []]++[.lst (g.map .int)])[mh.length]? =some (.dic false f):=by simp
 have g2:(mh++[MO.dic false f,MO.lst []]++[.lst (g.map .int)])[mh.length+1]? =some (.lst []):=by simp
 have X:(mh++[MO.dic false f,MO.lst []]++[.lst (g.map .int)])[mh.length+2]? =some (.lst (g.map .int)):=by simp
 have px:b9 mh (mh++[MO.dic false f,MO.lst []]++[.lst (g.map .int)]):=by rw[e1];exact((b9.refl.push _).push _).push _
 have e3:(mh++[MO.dic false f,MO.lst []]).length=mh.length+2:=by simp
 rw[e3];generalize mh++[MO.dic false f,MO.lst []]++[.lst (g.map .int)]=M at g1 g2 X px⊢;rw[bF X];simp only[bT];generalize hv:(λx=>gA a b x-gA a b (x-1))=v at A z hz;have J :∀x,v x=gA a b x-gA a b (x-1):=λx=>by rw[<-hv]
 have B:∀x∈T,dG f (.int x)=some (.int (v x)):=λx E=>by rw[z x E,J x]
 have Y:∀x,x∉T->gA a b x-gA a b (x-1)=0:=hz
 let P:Int->Bool:=λc=>decide (c∈kp)
 refine cD (λi K m =>(∃u w,K=[some (cR a),some (cR b),some (.tup (kp.map .int)),some (.ref mh.length),some (cR b),some (.int 2),Q,S,some (.ref (mh.length+1)),some (.int (((g.take i).map v).sum)),u,w])/\b9 mh m /\m[mh.length]? =some (.dic false f)/\m[mh.length+2]? =some (.lst (g.map .int))/\m[mh.length+1]? =some (.lst ((mF P v (g.take i) 0).map .int))) _ ?_ ?_ ?_ ⟨⟨_,_,rfl⟩,px,g1,X,by simpa[mF] using g2⟩
 ·rintro i K m ⟨_,_,_,n,_⟩;exact bF n
 ·rintro i d K m N hi ⟨⟨u,w,rfl⟩,o,L,Z,n⟩ nx;obtain⟨x,E,rfl⟩:=fL hi;have hil:i<g.length:=(aFp.mp E).1;have hvx:=B x (V.mem_iff.mp (aG3 E));have el:=vM P v (g.take i) 0;have C:=yA P v (g.take i) x 0;rw[<-take_snoc E]at C;have j:((g.take (i+1)).map v).sum=((g.take i).map v).sum+v x:=by rw[take_snoc E];simp
  simp only[Int.zero_add]at C;generalize ((g.take i).map v).sum=r at C j⊢;simp[kZ];refine⟨_,rfl,rfl,xZ kp,?_⟩;rw[show dM m (.int r)= .int r from rfl,AA];simp[i5];refine⟨.int r,rfl,?_⟩;simp;refine⟨mh.length,f,.inl x,_,rfl,L,rfl,hvx,?_⟩;show eY pP _ [some (cR a),some (cR b),some (.tup (kp.map .int)),some (.ref mh.length),some (cR b),some (.int 2),Q,S,some (.ref (mh.length+1)),some (.int (r+v x)),some (.int x),some (.bl (decide (r∈kp)))] m;simp[eY];refine⟨_,rfl,rfl,xZ kp,?_⟩;rw[show dM m (.int (r+v x))= .int (r+v x) from rfl,AA];simp;by_cases O:P r=P (r+v x)
  ·rw[if_pos O,List.append_nil]at C;rw[if_pos (by have:=decide_eq_decide.mp O;exact this.symm)];exact nx _ _ ⟨⟨_,_,by rw[j]⟩,o,L,Z,by rw[C];exact n⟩
  ·rw[if_neg O]at C;rw[if_neg (λh=>O (decide_eq_decide.mpr h.symm))];rw[dJ n];have hlt:=iX n;refine⟨⟨rfl,_,n⟩,by simp at el⊢;lia,nx _ _ ⟨⟨_,_,by rw[j]⟩,o.set (by lia) _,get_set L (by lia),get_set Z (by lia),?_⟩⟩;rw[cS _ n,C];simp
 ·rintro K m ⟨⟨u,w,rfl⟩,o,L,Z,n⟩;simp at n;simp[nD];have el:=vM P v g 0;refine⟨mh.length+1,mF P v g 0,rfl,n,by lia,?_⟩;have bl:=zF (mF P v g 0);obtain⟨l1,hl1⟩:=zQ a;obtain⟨l2,hl2⟩:=zQ b;obtain⟨l3,hl3⟩:=u5 a;obtain⟨l4,hl4⟩:=u5 b
  obtain⟨b1,b2⟩:=SS (p:=P) (c:=gA a b) (v:=v) W (λk _=>J k) (λy hy=>by have:=Y y λh=>hy (V.mem_iff.mpr h);lia)
   ⟨min l1 l2,λy hy=>by simp only[gA];rw[hl1 y (by lia),hl2 y (by lia)];rfl⟩ ⟨max l3 l4,λy hy=>by simp only[gA];rw[hl3 y (by lia),hl4 y (by lia)];rfl⟩ (by simpa[P] using h0)
  refine o.out ok (by simp[cR,cV,mQ]) (q _ b1 (by lia) λx=>?_);rw[b2 x];simp[P]
theorem zP:∀{l:List P2},Sep l->∀x,oS l x=b2i (eI l x)
 | [],_,x=>by simp[oS,eI,b2i]
 | t::l,h,x=>by
  obtain⟨s1,s2,b⟩:=gY h;rw[u6,zP s1 x,JN];by_cases c:t.1<=x/\x<t.2
  ·rw[FT h (x:=x) (by lia),if_pos c.1,if_neg (by lia)];simp[c,b2i]
  ·have e:(decide (t.1<=x) && decide (x<t.2))=false:=by simp;lia
   rw[e];by_cases a:t.1<=x
   ·rw[if_pos a,if_pos (by lia)];simp
   ·rw[if_neg a,if_neg (by lia)];simp
def Good(r:R4):Prop:=r.x0<r.x1/\r.y0<r.y1
def Nums(xs ys:List Int)(r:R4):Prop:=r.x0∈xs/\r.x1∈xs/\r.y0∈ys/\r.y1∈ys
theorem B6:∀b∈fT rs,b.ln.length<=rs.length:=by
 have a:∀lo hi,(bM (aL rs lo hi)).length<=rs.length:=λlo hi=>aGh (u7 _) (uC _ _ _)
 have step:∀(f:List Bd) (p:P2),(∀b∈f,b.ln.length<=rs.length)->∀b∈aU rs f p,b.ln.length<=rs.length:=λf p c b hb=>by
  rcases aGd f with rfl | ⟨g,t,rfl⟩
  ·rw[d8]at hb;split at hb
   ·cases hb
   ·rw[List.mem_singleton.mp hb];exact a _ _
  ·rw[List.concat_eq_append]at*;rw[dH]at hb;split at hb
   ·exact c b hb
   ·split at hb
    ·rcases aFv.mp hb with z | z
     ·exact c b (by simp[z])
     ·rw[List.mem_singleton.mp z];exact a _ _
    ·rcases aFv.mp hb with z | z
     ·exact c b z
     ·rw[List.mem_singleton.mp z];exact a _ _
 have go:∀(l:List P2) (f:List Bd),(∀b∈f,b.ln.length<=rs.length)->∀b∈l.foldl (aU rs) f,b.ln.length<=rs.length:=by
  intro l
  induction l with
  | nil=>intro f c;exact c
  | cons p l ih=>intro f c;exact ih _ (step f p c)
 exact go _ [] (by simp)
theorem IB{r:R4}(a:∀r∈rs,Good r)(h:r∈LS.LD (fT rs)):Good r/\Nums (rs.map (·.x0)++rs.map (·.x1)) (dY rs) r:=by
 obtain⟨c,_⟩:=uO (rs:=rs) a;obtain⟨b,hb,h⟩:=aGz.mp h;obtain⟨t,ht,rfl⟩:=aG0.mp h;obtain⟨e,f,d⟩:=LC b hb;exact⟨⟨(c.sep b hb).1 t ht,c.lt b hb⟩,(d t ht).1,(d t ht).2,e,f⟩
end LR
namespace LT
open PySem PyProof.Rows L2 D3
open LR
def fI(s:OA):WS:=(aS (bX (d7 (aX f9 (EB ["_law_rect"] [] (dP (aB 0)) (gN 0) kU (aX eJ (aB 0) (wC (.int 1)))) (EB ["_law_rect"] [] (dP (aB 0)) (gN 0) kU (aX eJ (aB 0) (wC (.int 3)))))) (gN 1)) (LR.kI s))
def cQ:OA:=λds mh Q=>∃n rs,∃a:List Int,ds=[.ref n]/\mh[n]? =some (.lst (rs.map rD))/\rs.length<=1000000/\(∀r∈rs,r.y0∈a/\r.y1∈a)/\a.length<4000/\(∀lo hi,lo<hi->(aL rs lo hi).length<4000)/\Q (gD (fT rs)) mh
theorem J7:∀{l:List Int} {i:Nat} {p:P2},l.Pairwise (· < ·)->(l.zip l.tail)[i]? =some p->p.1<p.2
 | [],i,p,_,h=>by simp at h
 | [a],i,p,_,h=>by simp at h
 | a::b::l,0,p,hp,h=>by
  simp at h;subst h;exact(aG5.mp hp).1 b aFs
 | a::b::l,i+1,p,hp,h=>J7 (l:=b::l) (aG5.mp hp).2 (by simpa using h)
theorem JE(ds:List D)(mh:MH)(R:DK)(ok:kW mh)(P:cQ ds mh R):fI uJ (En mh R) (aI ["_law_rects_here","_law_ys","_law_found","_law_low","_law_high","_law_line_here"] ds) mh:=by
 obtain⟨n,rs,Q,rfl,g,hr,h,w,x,q⟩:=P;have sz:=aGe;have S:n<mh.length:=iX g;simp[fI,aI];rw[bF g];simp;refine gS rD (·.y0) .int rs (bF g) (λr _ N hN=>by simpa[fW,rD,i3] using hN) ?_;rw[bF (b8 g)];simp only[bT];refine gS rD (·.y1) .int rs (bF (b8 g)) (λr _ N hN=>by simpa[fW,rD,ZD] using hN) ?_;rw[zC (i:=(rs.map (·.y0)).map .int) (j:=(rs.map (·.y1)).map .int) (by simp) (by simp)];refine⟨by simp;lia,(rs.map (·.y0)++rs.map (·.y1)).map Sum.inl,?_,Q.map Sum.inl,λk U=>?_,by simpa using w,by rw[<-d9];exact lP _,λks V nd A B=>?_⟩
 ·rw[u4 (fB _ _),<-d9];simp
 ·obtain⟨y,W,rfl⟩:=aG0.mp U;refine aHw ?_;rcases aFv.mp W with z | z <;> obtain⟨r,l,rfl⟩:=aG0.mp z
  ·exact(h r l).1
  ·exact(h r l).2
 have L:ks.map bJ=(dY rs).map .int:=mP V nd B;rw[L];have X:(dY rs).length<4000:=by have:=aGs List.length L;simp at this A;lia
 have m:=aT (rs.map (·.y0)++rs.map (·.y1));change (dY rs).Pairwise _ at m;generalize C:dY rs=ys at*;have E:b9 mh (((mh++[MO.lst ((rs.map (·.y0)).map .int)])++[MO.lst ((rs.map (·.y1)).map .int)])++[MO.lst (((rs.map (·.y0)).map .int)++((rs.map (·.y1)).map .int))]):=((b9.refl.push _).push _).push _;generalize ((mh++[MO.lst ((rs.map (·.y0)).map .int)])++[MO.lst ((rs.map (·.y1)).map .int)])++[MO.lst (((rs.map (·.y0)).map .int)++((rs.map (·.y1)).map .int))]=M at E⊢;simp[kI,kH];rw[GR (ds:=ys.map .int) (by simp),mX,<-List.map_tail];have Y:=E.le;have F:(M++[MO.lst (ys.map .int),.lst []]++[.lst (ys.tail.map .int)])[M.length]? =some (.lst (ys.map .int)):=by simp
 have O:(M++[MO.lst (ys.map .int),.lst []]++[.lst (ys.tail.map .int)])[M.length+1]? =some (.lst []):=by simp
 have G:(M++[MO.lst (ys.map .int),.lst []]++[.lst (ys.tail.map .int)])[M.length+2]? =some (.lst (ys.tail.map .int)):=by simp
 have o:b9 mh (M++[MO.lst (ys.map .int),.lst []]++[.lst (ys.tail.map .int)]):=(E.app _).app _;have Z:(M++[MO.lst (ys.map .int),MO.lst []]).length=M.length+2:=by simp
 rw[Z];generalize M++[MO.lst (ys.map .int),.lst []]++[.lst (ys.tail.map .int)]=M2 at F O G o⊢;rw[bF F,bF G];simp only[bT];refine⟨by simp;lia,?_⟩;rw[zip_map];refine cD (λi s mh' =>(∃a b c,s=[some (.ref n),some (.ref M.length),some (.ref (M.length+1)),a,b,c])/\b9 mh mh' /\mh'[M.length]? =some (.lst (ys.map .int))/\mh'[M.length+2]? =some (.lst (ys.tail.map .int))/\mh'[M.length+1]? =some (.lst ((((ys.zip ys.tail).take i).foldl (aU rs) []).map bD))) _ ?_ ?_ ?_ ⟨⟨_,_,_,rfl⟩,o,F,G,by simpa using O⟩
 ·rintro i s mh' ⟨_,_,t,u,_⟩;exact⟨bF t,bF u⟩
 ·rintro i d s mh' N hi ⟨⟨a,b,c,rfl⟩,f,t,u,v⟩ nx;obtain⟨p,H,rfl⟩:=fL hi;have I:i<(ys.zip ys.tail).length:=(aFp.mp H).1;have J:=iY rs ((ys.zip ys.tail).take i) [];simp;refine YD f (f.old g) (x _ _ (J7 m H)) v (by lia) (by simp at I J⊢;lia) λa T K=>nx _ _ ⟨⟨_,_,_,rfl⟩,K,get_set (bQ t) (by lia),get_set (bQ u) (by lia),?_⟩;rw[cS _ (bQ v),take_snoc H];simp
 ·rintro s mh' ⟨⟨a,b,c,rfl⟩,f,t,u,v⟩;simp only[kG];simp[bC];rw[v];simp;have e:(ys.zip ys.tail).take (ys.length-1)=ys.zip ys.tail:=aIs (by simp);refine f.out ok (by simp[cV,pT]) ?_;rw[e];have:fT rs=(ys.zip ys.tail).foldl (aU rs) []:=by rw[<-C];rfl
  rw[<-this];exact q
def Apart(a b:R4):Prop:=∀x y,a.has x y->¬b.has x y
theorem ER{rs:List R4}{xs:List Int}{lo hi:Int}(c:∀r∈rs,Good r)(k:∀r∈rs,r.x0∈xs)(l:rs.Pairwise Apart)(m:lo<hi):(aL rs lo hi).length<=xs.length:=by
 have e:(aL rs lo hi).length=((aL rs lo hi).map (·.1)).length:=by simp
 rw[e];refine zN _ _ ?_ ?_
 ·unfold aL;rw[List.nodup_iff_pairwise_ne,List.pairwise_map,List.pairwise_map];have d:=List.Pairwise.filter (λr:R4=>decide (r.y0<=lo) && decide (hi<=r.y1)) l;refine d.imp_of_mem λ{a b} ha hb f he=>?_;have h:=aIk.mp ha;have i:=aIk.mp hb;have n:=c a h.1;have o:=c b i.1;have p:=h.2;have q:=i.2;simp only[Bool.and_eq_true,decide_eq_true_eq]at p q;simp only[LR.Good]at n o;have he:a.x0=b.x0:=he;exact f a.x0 lo ⟨by lia,by lia,by lia,by lia⟩ ⟨by lia,by lia,by lia,by lia⟩
 ·intro x g;obtain⟨s,j,rfl⟩:=aG0.mp g;unfold aL at j;obtain⟨r,t,rfl⟩:=aG0.mp j;exact k r (aIk.mp t).1
theorem EV{mh:MH}{n:Nat}{rs:List R4}{Q:DK}(xs ys:List Int)(c:mh[n]? =some (.lst (rs.map rD)))(d:rs.length<=1000000)(e:xs.length<4000)(f:ys.length<4000)(b:∀r∈rs,Good r)(a:∀r∈rs,Nums xs ys r)(g:rs.Pairwise Apart)
  (q:Q (gD (fT rs)) mh):cQ [.ref n] mh Q:=
 ⟨n,rs,ys,rfl,c,d,λr h=>⟨(a r h).2.2.1,(a r h).2.2.2⟩,f,λlo hi h=>aJ9 (ER b (λr h=>(a r h).1) g h) e,q⟩
end LT
namespace LR
open PySem PyProof.Rows L2 D3
def oW:WS:=(US 3 (wC (.int 1)) L7)
def eL:WS:=(iN (GG "list" cI (aB 2) (aA (wIf (tP (aB 5)) (aX eJ (aX eJ (aB 0) (aB 3)) (wC (.int 2))) (f7 aD)) aD)))
def gU:WS:=(aS (bX (tR (aX oLt (aB 3) (aF fG (aA (aB 0) aD))) (aX oLe (aX eJ (aX eJ (aB 0) (aB 3)) (wC (.int 0))) (aB 4))) (gN 5)) (eL))
def oX:WS:=(aS (yW (pB (cY (aX oLt (aB 3) (aF fG (aA (aB 0) aD)))) (cY (aX oLe (aX eJ (aX eJ (aB 0) (aB 3)) (wC (.int 1))) (aB 4)))) (oW)) (gU))
def kY:WS:=(dE (aB 2))
def rG:WS:=(aS (lK (dP (aB 1)) (gN 4) (oX)) (kY))
def rH:WS:=(aS (bX (wC (.int 0)) (gN 3)) (rG))
def mM:WS:=(aS (bX (e7 aD) (gN 2)) (rH))
def sZ(a s1 s2:OA):WS:=(iN (GG "list" cI (aB 4) (aA (f7 (aA (aB 5) (aA (aB 6) (aA (aF s1 (aA (aB 7) (aA (aB 8) (aA (aB 2) aD)))) aD)))) aD)))
def wW(a s1 s2:OA):WS:=(dE (aF s2 (aA (aB 4) aD)))
def wX(a s1 s2:OA):WS:=(aS (lK (GC 4 (aA (aB 3) (aA (TZ Q8 (aB 3) (lJ (wC (.int 1))) OP) (aA (aF a (aA (aB 0) (aA (aB 3) aD))) (aA (aF a (aA (aB 1) (aA (aB 3) aD))) aD))))) (gT 4 (bH (gN 5) (bH (gN 6) (bH (gN 7) (bH (gN 8) iQ))))) (sZ a s1 s2)) (wW a s1 s2))
def wY(a s1 s2:OA):WS:=(aS (bX (e7 aD) (gN 4)) (wX a s1 s2))
def sM(a s1 s2:OA):WS:=(aS (bX (mN (UQ ["band","y"] [] (dP (aX f9 (aB 0) (aB 1))) (gN 0) kU (dP (TZ Q8 (aB 0) OP (lJ (wC (.int 2))))) (gN 1) kU (aB 1))) (gN 3)) (wY a s1 s2))
def yV(a:OA):WS:=(dE (aF a (aA (aB 0) (aA (aB 1) (aA (f7 (aA (wC (.int 3)) aD)) aD)))))
def o7(a:OA):WS:=(dE (aF a (aA (aB 0) (aA (aB 1) (aA (f7 (aA (wC (.int 1)) (aA (wC (.int 2)) (aA (wC (.int 3)) aD)))) aD)))))
def yT(a:OA):WS:=(dE (aF a (aA (aB 0) (aA (aB 1) (aA (f7 (aA (wC (.int 1)) aD)) aD)))))
theorem B0:∀{g:List Bd} {k:Nat} {y:Int},fZ g->(∀b∈g.take k,b.hi<=y)->(∀b,g[k]? =some b->y<b.hi)->rowAt g y=match g[k]? with | some b=>if b.lo<=y then b.ln else [] | none=>[]
 | [],k,y,_,_,_=>by simp[rowAt]
 | b::g,0,y,h,_,h2=>by
  obtain⟨a,f,i,j,e,_⟩:=dD h;have:=h2 b rfl;simp only[rowAt,List.getElem?_cons_zero];by_cases c:b.lo<=y
  ·rw[if_pos ⟨c,this⟩,if_pos c]
  ·rw[if_neg (λz=>c z.1),if_neg c];exact HY λd hd=>by have:=e d hd;lia
 | b::g,k+1,y,h,hk,h2=>by
  obtain⟨a,f,i,j,e,_⟩:=dD h;have:=hk b (by simp);simp only[rowAt,List.getElem?_cons_succ];rw[if_neg (by lia)];exact B0 a (λd hd=>hk d (by simp[hd])) (λd hd=>h2 d (by simpa using hd))
theorem B7(n:Nat):∀l:List (List P2),cG n (l.map cR)=true
 | []=>rfl
 | a::l=>by simp[cG,cR,cV,mQ,B7 n l]
def pO:OA:=λds mh Q=>∃(g:List Bd) (n:Nat) (cuts:List Int),ds=[gD g,.ref n]/\mh[n]? =some (.lst (cuts.map .int))/\fZ g/\g.length<=4000/\cuts.length<=4000/\cuts.Pairwise (· < ·)/\Q (.ref mh.length) (mh++[.lst ((cuts.map (rowAt g)).map cR)])
theorem JD(ds:List D)(mh:MH)(R:DK)(ok:kW mh)(V:pO ds mh R):mM (En mh R) (aI ["region","cuts","rows","at","y","inside"] ds) mh:=by
 obtain⟨g,n,cuts,rfl,Q,E,hg,hc,F,q⟩:=V;have sz:=aGe;simp[mM,rH,rG,aI];have W:b9 mh (mh++[MO.lst []]):=b9.refl.push _;have g2:(mh++[MO.lst []])[mh.length]? =some (.lst []):=by simp
 have S:(mh++[MO.lst []])[n]? =some (.lst (cuts.map .int)):=b8 Q;rw[bF S];simp only[bT];refine cD (λi o M=>(∃(k:Nat) (G u:Option D),o=[some (gD g),some (.ref n),some (.ref mh.length),some (.int k),G,u]/\k<=g.length/\∀b∈g.take k,∀y∈cuts.drop i,b.hi<=y)/\b9 mh M/\M[n]? =some (.lst (cuts.map .int))/\M[mh.length]? =some (.lst (((cuts.take i).map (rowAt g)).map cR))/\M.length=mh.length+1) (cuts.map .int) ?_ ?_ ?_ ⟨⟨0,none,none,rfl,by simp,by simp⟩,W,S,by simp,by simp⟩
 ·rintro i o M ⟨_,_,h,_⟩;exact bF h
 ·rintro i d o M N hi ⟨⟨k,G,u,rfl,x,hb⟩,p,T,h,U⟩ nx;obtain⟨y,A,rfl⟩:=fL hi;simp[oX];have H:i<cuts.length:=(aFp.mp A).1;have I:y∈cuts.drop i:=aG3 (i:=0) (by simpa using A)
  have J:∀z∈cuts.drop (i+1),y<z:=λz hz=>by
   have e:cuts.drop i=y::cuts.drop (i+1):=by rw[List.drop_eq_getElem_cons H,(List.getElem?_eq_some_iff.mp A).2]
   have:=F.sublist (List.drop_sublist i cuts);rw[e]at this;exact(aG5.mp this).1 z hz
  refine⟨λm o v =>v =M/\∃k:Nat,m=g.length-k/\k<=g.length/\o=[some (gD g),some (.ref n),some (.ref mh.length),some (.int k),some (.int y),u]/\∀b∈g.take k,b.hi<=y,⟨_,rfl,k,rfl,x,rfl,λb r =>hb b r y I⟩,?_⟩;rintro m o v ⟨rfl,k,rfl,x,rfl,hb⟩;refine⟨λw M2=>M2=v /\k<g.length/\w =[some (gD g),some (.ref n),some (.ref mh.length),some (.int ((k:Int)+1)),some (.int y),u]/\∀b∈g.take (k+1),b.hi<=y,?_,?_⟩
  ·rintro w M2 ⟨rfl,K,rfl,B⟩;exact⟨g.length-(k+1),by lia,rfl,k+1,rfl,K,by simp,B⟩
  have fin:∀(ins:Bool),(∀b,g[k]? =some b->y<b.hi)->(ins=true↔∃b,g[k]? =some b/\b.lo<=y)->eL {nx:=N,rt:=λd L=>Out (List.length mh) d L R,bk:=kY (En mh R),ct:=N} [some (gD g),some (.ref n),some (.ref mh.length),some (.int k),some (.int y),some (.bl ins)] v :=λins K B=>by
   have C:=B0 E hb K;have X:=iX h;have Y:((List.take i cuts).map (rowAt g)).map cR++[cR (rowAt g y)]=((List.take (i+1) cuts).map (rowAt g)).map cR:=by rw[take_snoc A];simp
   have app:∀l:List P2,l=rowAt g y->cI (.ref mh.length) [cR l] v λ_ M2=>N [some (gD g),some (.ref n),some (.ref mh.length),some (.int k),some (.int y),some (.bl ins)] M2:=λl e=>by
    subst e;rw[dJ h];refine⟨by simp;lia,nx _ _ ⟨⟨k,_,_,rfl,x,λb r z hz=>?_⟩,p.set (by lia) _,get_set T (by have:=iX Q;lia),?_,by simp[U]⟩⟩
    ·have:=hb b r;have:=J z hz;lia
    ·rw[cS _ h,Y]
   cases ins with
   | true=>
    obtain⟨b,O,Z⟩:=B.mp rfl;have a:k<g.length:=(aFp.mp O).1;rw[O]at C;simp only[if_pos Z]at C;obtain⟨P,_,s,j⟩:=AY (f:=bD) (ss:=g) (i:=(k:Int)) (by lia) (by lia);have c:g[k]? =some P :=by simpa using s
    have:P =b:=by rw[O]at c;exact(aG8 c).symm
    subst this;have:=app P.ln C.symm;simp[eL,gD,j,bD,A0];exact⟨⟨rfl,_,h⟩,by simpa[gD,jA] using this⟩
   | false=>
    have e0:rowAt g y=[]:=by
     rw[C]
     cases e:g[k]? with
     | none=>rfl
     | some b=>simp only;rw[if_neg λz=>by have:=B.mpr ⟨b,e,z⟩;cases this]
    have:=app [] e0.symm;simp[eL,gD];exact⟨⟨rfl,_,h⟩,by simpa[gD,jA,cR] using this⟩
  simp[gD];by_cases a:k<g.length
  ·rw[if_pos a];obtain⟨b,_,s,j⟩:=AY (f:=bD) (ss:=g) (i:=(k:Int)) (by lia) (by lia);have c:g[k]? =some b:=by simpa using s
   rw[j];simp[bD,i3];by_cases t:b.hi<=y
   ·rw[if_pos t];simp[oW];refine⟨.int k,rfl,?_⟩;simp;exact⟨rfl,a,rfl,λd hd=>by rw[take_snoc c]at hd;rcases aFv.mp hd with z | z;(· exact hb d z);(· simp at z;subst z;exact t)⟩
   ·rw[if_neg t];simp[gU];rw[if_pos a,j];simp[bD];exact fin _ (λd hd=>by rw[c]at hd;cases hd;lia) (by simp[c])
  ·rw[if_neg a];simp[gU];rw[if_neg a];exact fin false (λd hd=>absurd (aFp.mp hd).1 a) (by simp;intro d hd;exact absurd (aFp.mp hd).1 a)
 ·rintro o M ⟨⟨k,G,u,rfl,x,hb⟩,p,T,h,U⟩;simp[kY];simp only[List.take_length,List.length_map]at h;exact p.V3 ok (aFw _) h (by simp only[zJ];exact B7 _ _) q
theorem mK:∀{l:List Int} {p:P2},l.Pairwise (· < ·)->p∈l.zip l.tail->p.1<p.2/\∀c∈l,c<=p.1\/p.2<=c
 | [],p,_,h=>by simp at h
 | [a],p,_,h=>by simp at h
 | a::b::l,p,hp,h=>by
  obtain⟨d,e⟩:=aG5.mp hp;simp only[List.tail_cons,List.zip_cons_cons,List.mem_cons]at h;rcases h with rfl | h
  ·refine⟨d b aFs,λc hc=>?_⟩;rcases aFx.mp hc with rfl | hc
   ·exact .inl (aGu _)
   ·rcases aFx.mp hc with rfl | hc
    ·exact .inr (aGu _)
    ·exact .inr (Int.le_of_lt ((aG5.mp e).1 c hc))
  ·obtain⟨f,g⟩:=mK e h;refine⟨f,λc hc=>?_⟩;rcases aFx.mp hc with rfl | hc
   ·exact .inl (Int.le_of_lt (d p.1 (aH4 h).1))
   ·exact g c hc
theorem cB{cuts:List Int}{p:P2}{y:Int}(a:cuts.Pairwise (· < ·))(e:p∈cuts.zip cuts.tail)(f:p.1<=y)(i:y<p.2):∀{g:List Bd},(∀b∈g,b.lo∈cuts/\b.hi∈cuts)->rowAt g y=rowAt g p.1
 | [],_=>rfl
 | b::g,h=>by
  obtain⟨_,z⟩:=mK a e;obtain⟨j,k⟩:=h b aFs;have l:=z _ j;have m:=z _ k;simp only[rowAt];rw[cB a e f i λd hd=>h d (List.mem_cons_of_mem _ hd)];by_cases c:b.lo<=y/\y<b.hi
  ·rw[if_pos c,if_pos (by lia)]
  ·rw[if_neg c,if_neg (by lia)]
theorem jG:∀{g:List Bd} {y:Int},rowAt g y≠[]->∃b∈g,b.lo<=y/\y<b.hi
 | [],y,h=>absurd rfl h
 | b::g,y,h=>by
  simp only[rowAt]at h;by_cases c:b.lo<=y/\y<b.hi
  ·exact⟨b,aFs,c⟩
  ·rw[if_neg c]at h;obtain⟨d,hd,z⟩:=jG h;exact⟨d,aFt _ hd,z⟩
theorem ZY{f f' c e:Int->D}:∀(A B:List Int),aG [A.map f,B.map f',A.map c,A.map e]=(A.zip B).map λp=>[f p.1,f' p.2,c p.1,e p.1]
 | [],B=>by simp[aG]
 | a::A,[]=>by simp[aG]
 | a::A,b::B=>by
  have:=ZY (f:=f) (f' :=f') (c:=c) (e:=e) A B;simp only[aG]at this⊢;simp only[List.map_cons,List.zipWith_cons_cons,List.zip_cons_cons,this]
structure MxL(g h:List Bd)(ks:List Int)(m:Nat)(ps:List P2)(L:List Bd):Prop where
 len:L.length=ps.length
 at_:∀(j:Nat) p b,ps[j]? =some p->L[j]? =some b->b.lo=p.1/\b.hi=p.2/\Sep b.ln/\b.ln.length<=m/\∀x,gF b.ln x↔gA (rowAt g p.1) (rowAt h p.1) x∈ks
variable{g h:List Bd}
theorem MxL.snoc{ks:List Int}{m:Nat}{ps:List P2}{L:List Bd}(q:MxL g h ks m ps L){p:P2}{l:List P2}(e:Sep l)(f:l.length<=m)(i:∀x,gF l x↔gA (rowAt g p.1) (rowAt h p.1) x∈ks):MxL g h ks m (ps++[p]) (L++[⟨p.1,p.2,l⟩]):=by
 refine⟨by simp[q.len],λj k b a c=>?_⟩;by_cases d:j<ps.length
 ·rw[List.getElem?_append_left d]at a;rw[List.getElem?_append_left (by rw[q.len];exact d)]at c;exact q.at_ j k b a c
 ·have:=(aFp.mp a).1;have n:j=ps.length:=by simp at this;lia
  subst n;simp at a;rw[<-q.len]at c;simp at c;subst a c;exact⟨rfl,rfl,e,f,i⟩
theorem MI(x:Int):gA [] [] x=0:=by simp[gA,oS]
theorem aBg{ks cuts:List Int}{m:Nat}{L:List Bd}(d:cuts.Pairwise (· < ·))(hg:∀b∈g,b.lo∈cuts/\b.hi∈cuts)(l:∀b∈h,b.lo∈cuts/\b.hi∈cuts)(h0:0∉ks)(q:MxL g h ks m (cuts.zip cuts.tail) L):
  fZ (L.foldl bE [])/\(∀x y,b7 (L.foldl bE []) x y↔gA (rowAt g y) (rowAt h y) x∈ks):=by
 have gt:∀{j:Nat} {b:Bd},L[j]? =some b->∃p,(cuts.zip cuts.tail)[j]? =some p/\p∈cuts.zip cuts.tail/\b.lo=p.1/\b.hi=p.2/\Sep b.ln/\b.ln.length<=m/\∀x,gF b.ln x↔gA (rowAt g p.1) (rowAt h p.1) x∈ks:=λ{j b} e=>by
  have a:j<(cuts.zip cuts.tail).length:=by rw[<-q.len];exact(aFp.mp e).1
  exact⟨_,aFu a,aHx a,q.at_ j _ b (aFu a) e⟩
 have s:∀b∈L,∃p∈cuts.zip cuts.tail,b.lo=p.1/\b.hi=p.2/\Sep b.ln/\b.ln.length<=m/\∀x,gF b.ln x↔gA (rowAt g p.1) (rowAt h p.1) x∈ks:=λb hb=>by
  obtain⟨j,a,e⟩:=aHd hb;obtain⟨p,_,z⟩:=gt (aFp.mpr ⟨a,e⟩);exact⟨p,z⟩
 obtain⟨B,C⟩:=nZ L [] (λb hb=>by
  obtain⟨p,c,n,o,D,_⟩:=s b hb
  exact⟨by have:=(mK d c).1;lia,D⟩) (by
  rw[List.pairwise_iff_getElem];intro i j hi a E;obtain⟨p,ep,_,_,o,_⟩:=gt (aFu hi);obtain⟨N,f,_,n,_⟩:=gt (aFu a);rw[o,n];rw[List.getElem?_zip_eq_some,List.getElem?_tail]at ep f;by_cases z:i+1=j
  ·subst z;have:=aG8 (ep.2.symm.trans f.1);lia
  ·obtain⟨t,F⟩:=aFp.mp ep.2;obtain⟨r,O⟩:=aFp.mp f.1;have:=aHe.mp d (i+1) j t r (by lia)
   lia) ⟨by simp,by simp,by simp,by simp,by simp⟩ (by simp)
 refine⟨B,λx y=>?_⟩;rw[C];constructor
 ·rintro(z | ⟨b,hb,t,F,r⟩)
  ·exact absurd z vQ
  ·obtain⟨p,c,n,o,_,_,G⟩:=s b hb;rw[cB d c (by lia) (by lia) hg,cB d c (by lia) (by lia) l];exact(G x).mp r
 ·intro z
  have:∃lo∈cuts,∃hi∈cuts,lo<=y/\y<hi:=by
   by_cases u:rowAt g y=[]
   ·by_cases v:rowAt h y=[]
    ·rw[u,v,MI]at z;exact absurd z h0
    ·obtain⟨b,hb,z⟩:=jG v;exact⟨_,(l b hb).1,_,(l b hb).2,z⟩
   ·obtain⟨b,hb,z⟩:=jG u;exact⟨_,(hg b hb).1,_,(hg b hb).2,z⟩
  obtain⟨lo,H,hi,I,J,K⟩:=this;obtain⟨p,c,w,A,_⟩:=between d H I J K;obtain⟨j,a,e⟩:=aHd c;have k:j<L.length:=by rw[q.len];exact a
  obtain⟨P,Q,R,S,M⟩:=q.at_ j p _ (aFp.mpr ⟨a,e⟩) (aFu k);refine .inr ⟨L[j],aHx k,by lia,by lia,(M x).mpr ?_⟩;rw[<-cB d c w A hg,<-cB d c w A l];exact z
def ZJ(p:Nat)(g:List Bd):Prop:=∀b∈g,b.ln.length<=p
def jV:OA:=λds mh Q=>∃(g h:List Bd) (ks:List Int) (p q:Nat),ds=[gD g,gD h,.tup (ks.map .int)]/\fZ g/\fZ h/\g.length+h.length<=1800/\ZJ p g/\ZJ q h/\p+q<=1900/\0∉ks/\
 ∀r,fZ r->(∀x y,b7 r x y↔gA (rowAt g y) (rowAt h y) x∈ks)->r.length<=2*(g.length+h.length)->ZJ (2*(p+q)) r->Q (gD r) mh
theorem GS{n:Nat}{cuts:List Int}{mh:MH}{Q:DK}(a:mh[n]? =some (.lst (cuts.map .int)))(b:fZ g)(c:g.length<=4000)(d:cuts.length<=4000)(e:cuts.Pairwise (· < ·))(q:Q (.ref mh.length) (mh++[.lst ((cuts.map (rowAt g)).map cR)])):pO [gD g,.ref n] mh Q:=⟨g,n,cuts,rfl,a,b,c,d,e,q⟩
theorem gR{n:Nat}(h:∀b∈g,b.ln.length<=n)(y:Int):(rowAt g y).length<=n:=by
 induction g with
 | nil=>simp[rowAt]
 | cons b g ih=>
  simp only[rowAt];split
  ·exact h b aFs
  ·exact ih λd hd=>h d (aFt _ hd)
theorem G8:∀(L f:List Bd) (b:Bd),b∈L.foldl bE f->∃c,(c∈f\/c∈L)/\b.ln=c.ln
 | [],f,b,h=>⟨b,.inl h,rfl⟩
 | a::L,f,b,h=>by
  obtain⟨c,d,e⟩:=G8 L (bE f a) b h;rcases d with z | z
  ·rcases aGd f with rfl | ⟨g,t,rfl⟩
   ·rw[gM]at z;split at z
    ·cases z
    ·simp at z;subst z;exact⟨c,.inr aFs,e⟩
   ·rw[List.concat_eq_append,fO]at z;rw[List.concat_eq_append];split at z
    ·exact⟨c,.inl z,e⟩
    ·split at z
     ·rcases aFv.mp z with y | y
      ·exact⟨c,.inl (aG6 _ y),e⟩
      ·simp at y;subst y;exact⟨a,.inr aFs,e⟩
     ·rcases aFv.mp z with y | y
      ·exact⟨c,.inl y,e⟩
      ·simp at y;subst y;exact⟨c,.inr aFs,e⟩
  ·exact⟨c,.inr (aFt _ z),e⟩
theorem SK(ds:List D)(mh:MH)(R:DK)(ok:kW mh)(Y:jV ds mh R):sM pO QA sQ (En mh R) (aI ["one","other","kept","cuts","bands","y0","y1","left","right"] ds) mh:=by
 obtain⟨g,h,ks,pm,Z,rfl,cg,ch,hgh,fg,fh,hpq,h0,q⟩:=Y;have sz:=aGe;simp only[sM,aAi,T4,mN,UQ];simp[aI,gD];refine⟨by lia,?_⟩;simp only[bC,bT];rw[<-List.map_append]
 have hl:((g++h).flatMap λb=>[b.lo,b.hi]).length=2*(g.length+h.length):=by
  rw[<-List.length_append]
  induction g++h with
  | nil=>rfl
  | cons b l ih=>simp[ih];lia
 refine SX (b:=true) bD (λb=>[b.lo,b.hi]) D.int (λ_ y=>y) D.int (λb=>[some (bD b),none]) (g++h) (λ_ x=>⟨.inl x,rfl⟩) (by simp) (by rw[hl];show _<=4000;lia) (λb _ N hN=>?_) (λb _ N hN=>?_) (λb _ y _ N hN=>?_) ?_
 ·simp[fW];exact hN
 ·have w:D3.cutD [D.int b.lo,D.int b.hi,cR b.ln] none (some 2)=[D.int b.lo,D.int b.hi]:=rfl;simp[bD,w,bC];exact hN _ trivial
 ·simp;exact hN
 have em:((g++h).flatMap λd=>[d.lo,d.hi].map λy=>y)=(g++h).flatMap λb=>[b.lo,b.hi]:=by simp
 rw[em];generalize s:(g++h).flatMap (λb=>[b.lo,b.hi])=k at*;refine⟨k.map Sum.inl,d9 k,by simp;lia,by rw[<-d9];exact lP _,λkk hm nd A B=>?_⟩;have O:=mP hm nd B;rw[O];have P:(cO k).length<=2*(g.length+h.length):=by have:=aGs List.length O;simp at this A;lia
 have hyl:(cO k).length<=3600:=by lia
 have n:=aT k
 have C:∀b∈g,b.lo∈cO k/\b.hi∈cO k:=λb hb=>by
  rw[bL,bL,<-s];exact⟨aGz.mpr ⟨b,aG6 _ hb,by simp⟩,aGz.mpr ⟨b,aG6 _ hb,by simp⟩⟩
 have E:∀b∈h,b.lo∈cO k/\b.hi∈cO k:=λb hb=>by
  rw[bL,bL,<-s];exact⟨aGz.mpr ⟨b,aFz _ hb,by simp⟩,aGz.mpr ⟨b,aFz _ hb,by simp⟩⟩
 generalize cO k=cuts at*;simp[wY,wX];simp only[GC];simp;rw[GR (ds:=cuts.map .int) (by simp),mX,<-List.map_tail];refine GS (g:=g) (cuts:=cuts) (by simp) cg (by lia) (by lia) n ?_;refine GS (g:=h) (cuts:=cuts) (by simp) ch (by lia) (by lia) n ?_
 have Q:b9 mh (mh++[MO.lst (cuts.map .int),MO.lst []]++[MO.lst (cuts.tail.map .int)]++[MO.lst ((cuts.map (rowAt g)).map cR)]++[MO.lst ((cuts.map (rowAt h)).map cR)]):=((((b9.refl.app _).app _).app _).app _)
 have F:(mh++[MO.lst (cuts.map .int),MO.lst []]++[MO.lst (cuts.tail.map .int)]++[MO.lst ((cuts.map (rowAt g)).map cR)]++[MO.lst ((cuts.map (rowAt h)).map cR)])[mh.length]? =some (.lst (cuts.map .int)):=by simp
 have S:(mh++[MO.lst (cuts.map .int),MO.lst []]++[MO.lst (cuts.tail.map .int)]++[MO.lst ((cuts.map (rowAt g)).map cR)]++[MO.lst ((cuts.map (rowAt h)).map cR)])[mh.length+1]? =some (.lst []):=by simp
 have G:(mh++[MO.lst (cuts.map .int),MO.lst []]++[MO.lst (cuts.tail.map .int)]++[MO.lst ((cuts.map (rowAt g)).map cR)]++[MO.lst ((cuts.map (rowAt h)).map cR)])[mh.length+2]? =some (.lst (cuts.tail.map .int)):=by simp
 have t:(mh++[MO.lst (cuts.map .int),MO.lst []]++[MO.lst (cuts.tail.map .int)]++[MO.lst ((cuts.map (rowAt g)).map cR)]++[MO.lst ((cuts.map (rowAt h)).map cR)])[mh.length+3]? =some (.lst ((cuts.map (rowAt g)).map cR)):=by simp
 have u:(mh++[MO.lst (cuts.map .int),MO.lst []]++[MO.lst (cuts.tail.map .int)]++[MO.lst ((cuts.map (rowAt g)).map cR)]++[MO.lst ((cuts.map (rowAt h)).map cR)])[mh.length+4]? =some (.lst ((cuts.map (rowAt h)).map cR)):=by simp
 rw[show (mh++[MO.lst (cuts.map .int),MO.lst []]).length=mh.length+2 by simp,show (mh++[MO.lst (cuts.map .int),MO.lst []]++[MO.lst (cuts.tail.map .int)]).length=mh.length+3 by simp,show (mh++[MO.lst (cuts.map .int),MO.lst []]++[MO.lst (cuts.tail.map .int)]++[MO.lst ((cuts.map (rowAt g)).map cR)]).length=mh.length+4 by simp];generalize mh++[MO.lst (cuts.map .int),MO.lst []]++[MO.lst (cuts.tail.map .int)]++[MO.lst ((cuts.map (rowAt g)).map cR)]++[MO.lst ((cuts.map (rowAt h)).map cR)]=M at Q F S G t u⊢;rw[List.map_map]at t u
 have sq:∀f :MH,f[mh.length]? =some (.lst (cuts.map .int))->f[mh.length+2]? =some (.lst (cuts.tail.map .int))->f[mh.length+3]? =some (.lst (cuts.map (cR ∘ rowAt g)))->f[mh.length+4]? =some (.lst (cuts.map (cR ∘ rowAt h)))->
   gE f [.ref mh.length,.ref (mh.length+2),.ref (mh.length+3),.ref (mh.length+4)]=some [cuts.map .int,cuts.tail.map .int,cuts.map (cR ∘ rowAt g),cuts.map (cR ∘ rowAt h)]:=λf a b c d=>by
  simp only[gE,bF a,bF b,bF c,bF d]
 refine⟨_,sq M F G t u,?_⟩;rw[ZY,List.map_map];have zl:(cuts.zip cuts.tail).length<=cuts.length:=by simp
 refine⟨by simp;lia,?_⟩
 refine cD (λi v f =>(∃H I J K,v=[some (gD g),some (gD h),some (.tup (ks.map .int)),some (.ref mh.length),some (.ref (mh.length+1)),H,I,J,K])/\b9 mh f /\(∃L,f[mh.length+1]? =some (.lst (L.map bD))/\MxL g h ks (2*(pm+Z)) ((cuts.zip cuts.tail).take i) L)/\
  f[mh.length]? =some (.lst (cuts.map .int))/\f[mh.length+2]? =some (.lst (cuts.tail.map .int))/\f[mh.length+3]? =some (.lst (cuts.map (cR ∘ rowAt g)))/\f[mh.length+4]? =some (.lst (cuts.map (cR ∘ rowAt h)))) _ ?_ ?_ ?_
  ⟨⟨none,none,none,none,rfl⟩,Q,⟨[],S,⟨by simp,by simp⟩⟩,F,G,t,u⟩
 ·rintro i v f ⟨_,_,_,a,b,c,d⟩;exact sq f a b c d
 ·rintro i d v f N hi ⟨⟨H,I,J,K,rfl⟩,o,⟨L,r,m⟩,T,U,V,W⟩ nx;obtain⟨p,hp,rfl⟩:=fL hi;have hL:L.length<=3600:=by have:=m.len;simp at this;lia
  simp[sZ];have r1:=gR fg p.1;have r2:=gR fh p.1;refine⟨⟨rfl,_,r⟩,_,_,ks,rfl,by lia,h0,λl l1 l2 l3=>⟨by lia,?_⟩⟩;rw[dJ r];have hlt:=iX r;refine⟨by simp;lia,nx _ _ ⟨⟨_,_,_,_,rfl⟩,o.set (by lia) _,⟨L++[⟨p.1,p.2,l⟩],?_,?_⟩,get_set T (by lia),get_set U (by lia),get_set V (by lia),get_set W (by lia)⟩⟩
  ·rw[cS _ r];simp[bD]
  ·rw[take_snoc hp];exact m.snoc l1 (by lia) l3
 ·rintro v f ⟨⟨H,I,J,K,rfl⟩,o,⟨L,r,m⟩,T,U,V,W⟩;simp only[List.length_map,List.take_length]at m;have hL:L.length<=3600:=by have:=m.len;simp at this;lia
  simp[wW];refine⟨_,L,rfl,r,by lia,?_⟩;obtain⟨c1,c2⟩:=aBg n C E h0 m;have jl:=hU L [];have ml:=m.len;refine o.out ok (by simp[gD,cV,pT]) (q _ c1 c2 (by simp at jl ml;lia) λb hb=>?_);obtain⟨c,hc,e⟩:=G8 L [] b hb;rcases hc with z | z
  ·cases z
  ·rw[e];obtain⟨j,X,w⟩:=aHd z;exact(m.at_ j _ c (aFu (by rw[<-m.len];exact X)) (aFp.mpr ⟨X,w⟩)).2.2.2.1
def sOp(P:Prop->Prop->Prop):OA:=λds mh Q=>∃(g h:List Bd) (p q:Nat),ds=[gD g,gD h]/\fZ g/\fZ h/\g.length+h.length<=1800/\ZJ p g/\ZJ q h/\p+q<=1900/\∀r,fZ r->(∀x y,b7 r x y↔P (b7 g x y) (b7 h x y))->r.length<=2*(g.length+h.length)->ZJ (2*(p+q)) r->Q (gD r) mh
theorem MG(a:fZ g)(ch:fZ h)(x y:Int):gA (rowAt g y) (rowAt h y) x=b2i (eI (rowAt g y) x)+2*b2i (eI (rowAt h y) x):=by
 unfold gA;rw[zP (qT a y),zP (qT ch y)]
theorem rO{P:Prop->Prop->Prop}(ks:List Int)(h0:0∉ks)(f:∀a b:Bool,b2i a+2*b2i b∈ks↔P (a=true) (b=true)){ds:List D}{mh:MH}{Q:DK}(i:sOp P ds mh Q):jV (ds++[.tup (ks.map .int)]) mh Q:=by
 obtain⟨g,h,j,k,rfl,c,ch,d,l,m,e,q⟩:=i;refine⟨g,h,ks,j,k,rfl,c,ch,d,l,m,e,h0,λr n o p s=>q r n (λx y=>?_) p s⟩;rw[o,MG c ch,f,jH c,jH ch]
def uL:OA:=sOp And
def jW:OA:=sOp Or
def uK:OA:=sOp λa b=>a/\¬b
theorem YI(ds:List D)(mh:MH)(R:DK)(ok:kW mh)(i:uL ds mh R):yV jV (En mh R) (aI ["one","other"] ds) mh:=by
 have sz:=aGe;have:=rO (P:=And) (Q:=λd f=>Out mh.length d f R) [3] (by simp) (λa b=>by cases a <;> cases b <;> simp[b2i]) (ds:=ds) (mh:=mh) (by obtain⟨g,h,j,k,e,l,m,n,o,p,s,q⟩:=i;exact⟨g,h,j,k,e,l,m,n,o,p,s,λr a b c d=>cC (q r a b c d)⟩);obtain⟨g,h,_,_,rfl,_⟩:=i;simp[yV,aI];simp at this
 first | exact⟨by lia,this⟩ | exact this
theorem NP(ds:List D)(mh:MH)(R:DK)(ok:kW mh)(i:jW ds mh R):o7 jV (En mh R) (aI ["one","other"] ds) mh:=by
 have sz:=aGe;have:=rO (P:=Or) (Q:=λd f=>Out mh.length d f R) [1,2,3] (by simp) (λa b=>by cases a <;> cases b <;> simp[b2i]) (ds:=ds) (mh:=mh) (by obtain⟨g,h,j,k,e,l,m,n,o,p,s,q⟩:=i;exact⟨g,h,j,k,e,l,m,n,o,p,s,λr a b c d=>cC (q r a b c d)⟩);obtain⟨g,h,_,_,rfl,_⟩:=i;simp[o7,aI];simp at this
 first | exact⟨by lia,this⟩ | exact this
theorem YG(ds:List D)(mh:MH)(R:DK)(ok:kW mh)(i:uK ds mh R):yT jV (En mh R) (aI ["one","other"] ds) mh:=by
 have sz:=aGe;have:=rO (P:=(λa b=>a/\¬b)) (Q:=λd f=>Out mh.length d f R) [1] (by simp) (λa b=>by cases a <;> cases b <;> simp[b2i]) (ds:=ds) (mh:=mh) (by obtain⟨g,h,j,k,e,l,m,n,o,p,s,q⟩:=i;exact⟨g,h,j,k,e,l,m,n,o,p,s,λr a b c d=>cC (q r a b c d)⟩);obtain⟨g,h,_,_,rfl,_⟩:=i;simp[yT,aI];simp at this
 first | exact⟨by lia,this⟩ | exact this
end LR
namespace K04
open PySem PyProof.Rows L2 D3
def top(i:Nat):Stmt:=PySem.Challenge.pw_maskwright_k04_regions_mixed.main.body.getD i (.Pass ⟨0,0,0,0⟩)
set_option hygiene false
local macro_rules | `(tactic| walk_at "t")=>`(tactic| repeat' first | ((with_reducible show oR _ _ (gN _));exact HE _) | ((with_reducible show oR _ _ _);refine' YK ?_) | ((with_reducible show yQ _ _ (bH _ _));refine' NR ?_ ?_) | ((with_reducible show yQ _ _ _);exact SO) | exact JG (by decide) | exact gmono_name | refine' gown_tup ?_ | refine' gown_cons ?_ ?_ ?_ ?_ | exact gown_nil | refine' gmono_tup ?_ | refine' gmono_cons ?_ ?_ | exact gmono_nil | exact NT (by decide) (by decide) | refine' gin_tup ?_ | refine' gin_cons ?_ ?_ ?_ ?_ | exact gin_nil)
local macro_rules | `(tactic| walk_at "g")=>`(tactic| first | ((with_reducible show List.Nodup _);assumption) | ((with_reducible show LA _ _ _);first | ((with_reducible show LA _ (_::_) _);refine' aF2 ?_ ?_) | ((with_reducible show LA _ [] _);exact XR)) | ((with_reducible show LE _ _ _);first | ((with_reducible show LE _ _ (EB _ _ _ _ _ _));refine' XJ _ _ ?a ?b ?r ?s ?_ ?g ?u ?v;(case a=>decide+kernel);(case b=>decide+kernel);(case r=>walk_at "t");(case s=>walk_at "t");(case g=>intro _ _ _ _ _ _;repeat' walk_at "g");(case u=>intro _ _ _ _ _;repeat' walk_at "g");(case v=>intro _ _ _ _ _;repeat' walk_at "g")) | ((with_reducible show LE _ _ (mN _));refine' RT (o1:=1) _ _ ?a ?b ?r ?s ?c ?t ?e ?_ ?g ?u ?v ?w ?x ?y ?h ?m;(case a=>decide+kernel);(case b=>decide+kernel);(case r=>walk_at "t");(case s=>walk_at "t");(case c=>decide);(case t=>walk_at "t");(case e=>walk_at "t");(case g=>intro _ _ _ _ _ _;repeat' walk_at "g");(case u=>intro _ _ _ _ _;repeat' walk_at "g");(case v=>intro _ _ _ _ _;repeat' walk_at "g");(case w=>intro _ _ _ _ _ _;repeat' walk_at "g");(case x=>intro _ _ _ _ _;repeat' walk_at "g");(case y=>intro _ _ _ _ _;repeat' walk_at "g");(case h=>exact hr.units);(case m=>exact B.sorted)) | ((with_reducible show LE _ (.Name _ _) (aB _));exact XD _) | ((with_reducible show LE _ (.Constant (.int _) _ _) _);exact le_int) | ((with_reducible show LE _ _ (aX eJ _ _));refine' T9 ?a ?_ ?_ ?b;(case a=>exact ixl);(case b=>exact λ_ _=>rfl)) | ((with_reducible show LE _ (.BinOp _ _ _ _) _);refine' aBo ?_ ?_ ?_) | ((with_reducible show LE _ (.List _ _) _);refine' XI ?_) | ((with_reducible show LE _ (.Tuple _ _ _) _);refine' XE ?_) | ((with_reducible show LE _ (.Constant (.bool _) _ _) _);exact aBv) | ((with_reducible show LE _ (.Call (.Name "len" _) _ _ _) _);refine' FD ?a ?b ?c ?_;(case a=>exact YZ);(case b=>exact B.len);(case c=>exact Y6)) | ((with_reducible show LE _ (.UnaryOp .USub _ _) _);refine' aBm ?_ ?_) | ((with_reducible show LE _ _ (GG _ cI _ _));refine' aBu ?a ?b ?c ?d ?_ ?_;(case a=>exact PySem.F.plainAttrs_list);(case b=>exact PySem.F.slot_list_append);(case c=>exact PySem.F.type_list_append);(case d=>exact IQ)) | ((with_reducible show LE _ (.Call (.Name "isinstance" _) _ _ _) _);refine' FD ?a ?b ?c ?_;(case a=>exact Y0);(case b=>exact B.isinstance);(case c=>exact wN)) | ((with_reducible show LE _ (.Compare _ [_] [_] _) _);refine' MW ?_ ?_ ?_ ?a;(case a=>exact aBe _)) | ((with_reducible show LE _ _ (TZ Q8 _ _ _));refine' MU ?a ?_ ?_ ?_;(case a=>exact sll)) | ((with_reducible show LE _ (.BoolOp .And (_::_::_) _) _);refine' XM ?_ ?_) | ((with_reducible show LE _ (.Call (.Name "tuple" _) _ _ _) _);refine' aF1 ?a ?b ?c ?_;(case a=>exact N9);(case b=>exact B.tuple);(case c=>exact vV)) | ((with_reducible show LE _ (.BoolOp _ [_] _) _);refine' XG ?_) | ((with_reducible show LE _ (.Call (.Name "min" _) _ _ _) _);refine' FD ?a ?b ?c ?_;(case a=>exact S1 rfl);(case b=>exact B.min);(case c=>exact Y4)) | ((with_reducible show LE _ _ (d7 _));refine' wA ?a ?b ?c ?d ?_;(case a=>exact hr.units);(case b=>exact rfl);(case c=>exact B.set);(case d=>exact B.sorted)) | ((with_reducible show LE _ (.Name "tuple" _) (wC _));refine' CW ?a ?b;(case a=>exact B.tuple);(case b=>exact vV)) | ((with_reducible show LE _ (.Name "list" _) (wC _));refine' CW ?a ?b;(case a=>exact B.list);(case b=>exact S4)) | ((with_reducible show LE _ _ (KL _ _ _ _));refine' XF ?_ ?_ ?_ ?_) | ((with_reducible show LE _ _ (BJ _ _ _));refine' RW ?a ?_ ?_ ?_;(case a=>exact hr.units)) | ((with_reducible show LE _ (.Compare _ [_] [_] _) _);refine' MW ?_ ?_ ?_ ?a;(case a=>rfl)) | ((with_reducible show LE _ (.IfExp _ _ _ _) _);refine' MV ?_ ?_ ?_) | ((with_reducible show LE _ (.Call (.Name "max" _) _ _ _) _);refine' FD ?a ?b ?c ?_;(case a=>exact S2 rfl);(case b=>exact B.max);(case c=>exact Y5)) | ((with_reducible show LE _ (.Name "str" _) (wC _));refine' CW ?a ?b;(case a=>exact B.str);(case b=>exact Y2)) | ((with_reducible show LE _ _ (wTZ 2 _));refine' aBn ?a ?b ?c ?d ?e ?_;(case a=>exact TU);(case b=>exact show 0<2/\2<=1000 by decide);(case c=>exact rfl);(case d=>exact B.tuple);(case e=>exact B.zip)) | ((with_reducible show LE _ _ (PD false));exact RV) | ((with_reducible show LE _ (.Call (.Name "sorted" _) _ _ _) _);refine' FD ?a ?b ?c ?_;(case a=>exact FU hr.units rfl);(case b=>exact B.sorted);(case c=>exact m7)) | ((with_reducible show LE _ _ (aX WM _ _));refine' T9 ?a ?_ ?_ ?b;(case a=>exact ixD hr.units);(case b=>exact λ_ _=>rfl)) | ((with_reducible show LE _ (.Call (.Name "abs" _) _ _ _) _);refine' FD ?a ?b ?c ?_;(case a=>exact Y1);(case b=>exact B.abs);(case c=>exact Y8)) | ((with_reducible show LE _ (.Call (.Name "sorted" _) _ _ _) _);refine' FD ?a ?b ?c ?_;(case a=>exact JP hr.units);(case b=>exact B.sorted);(case c=>exact m7)) | ((with_reducible show LE _ (.Name "int" _) (wC _));refine' CW ?a ?b;(case a=>exact B.int);(case b=>exact Y7)) | ((with_reducible show LE _ (.Name "bool" _) (wC _));refine' CW ?a ?b;(case a=>exact B.bool);(case b=>exact S5)) | ((with_reducible show LE _ (.UnaryOp .Not _ _) _);refine' XH ?_) | ((with_reducible show LE _ (.Call (.Name _ _) _ _ _) (aF _ _));refine' aBs ?a ?b ?_;(case a=>assumption);(case b=>exact hr)) | ((with_reducible show LE _ (.Name _ _) (wC _));refine' aBq ?a;(case a=>assumption))) | ((with_reducible show LS _ _ _);first | ((with_reducible show LS _ (.Return (some _) _) _);refine' W6 ?_) | ((with_reducible show LS _ (.If _ _ _ _) _);refine' aBi ?_ ?_ ?_) | ((with_reducible show LS _ (.For _ _ _ _ _) _);refine' W9 ?a ?b ?_ ?_ ?r ?_;(case a=>exact PassesOwn.never);(case b=>exact rfl);(case r=>walk_at "t")) | ((with_reducible show LS _ (.Expr _ _) _);refine' aEw ?_) | ((with_reducible show LS _ (.AugAssign _ _ _ _) _);refine' XA _ ?a ?b ?_;(case a=>assumption);(case b=>exact Q5)) | ((with_reducible show LS _ (.While _ _ _ _) _);refine' MR ?a ?_ ?_;(case a=>exact PassesOwn.never)) | ((with_reducible show LS _ (.Continue _) _);exact CT) | ((with_reducible show LS _ (.Assign [.Name _ _] _ _) _);refine' aEv _ ?_ ?_) | ((with_reducible show LS _ (.Assign [.Subscript _ _ _] _ _) _);refine' RH ?_ ?_ ?_) | ((with_reducible show LS _ (.Assign [.Subscript _ _ _] _ _) _);refine' RI ?a ?_ ?_ ?_;(case a=>exact hr.units)) | ((with_reducible show LS _ (.Assign [.Tuple _ _ _] _ _) _);refine' XB ?_ ?_ ?r;(case r=>walk_at "t"))) | ((with_reducible show LI _ _ _ _);first | ((with_reducible show LI _ _ _ (nT _));refine' IT ?a ?b ?_;(case a=>exact rfl);(case b=>exact B.range)) | ((with_reducible show LI _ _ _ (tO _));refine' RQ ?a ?b ?_;(case a=>exact rfl);(case b=>exact B.zip)) | ((with_reducible show LI _ _ _ (GC _ _));refine' RP ?a ?b ?c ?d ?_;(case a=>exact ZX);(case b=>exact show 0<4/\4<=1000 by decide);(case c=>exact rfl);(case d=>exact B.zip)) | ((with_reducible show LI _ _ _ (dP _));refine' XC ?_)) | ((with_reducible show PG _ _ _);first | ((with_reducible show PG _ (.Name _ _) _);exact PM _ (by assumption)) | ((with_reducible show PG _ (.Tuple _ _ _) _);refine' VR rfl ?_)) | ((with_reducible show ZI _ _ _);first | ((with_reducible show ZI _ (_::_) _);refine' LZ ?_ ?_) | ((with_reducible show ZI _ [] _);exact QS)) | ((with_reducible show LT _ _ _);first | ((with_reducible show LT _ (.Compare _ [_] [_] _) _);refine' MP ?_ ?_ ?_ ?a;(case a=>exact aBe _)) | ((with_reducible show LT _ (.BoolOp .And _ _) _);refine' LW.lt (MM ?_ ?_)) | ((with_reducible show LT _ (.UnaryOp .Not _ _) _);refine' WY ?_) | ((with_reducible show LT _ (.BoolOp .Or _ _) _);refine' LW.lt (aBh ?_ ?_)) | ((with_reducible show LT _ (.Compare _ [_,_] _ _) _);refine' MQ ?_ ?_ ?_ ?_ ?_) | ((with_reducible show LT _ (.Compare _ [_] [_] _) _);refine' MP ?_ ?_ ?_ ?a;(case a=>rfl)) | ((with_reducible show LT _ _ _);refine' MN ?_)) | ((with_reducible show kX _ _ _);first | ((with_reducible show kX _ [_] _);refine' W7 ?_) | ((with_reducible show kX _ [] _);exact W8) | ((with_reducible show kX _ (_::_) _);refine' RK ?_ ?_)) | ((with_reducible show dO _ _ _);first | ((with_reducible show dO _ _ (bB _ f9));exact WL) | ((with_reducible show dO _ _ (bB _ oEq));exact aBd hr.units) | ((with_reducible show dO _ _ (bB _ sC));exact WH) | ((with_reducible show dO _ _ (bB _ oLt));exact aB8 hr.units) | ((with_reducible show dO _ _ (bB _ OV));exact aBb hr.units) | ((with_reducible show dO _ _ (bB _ CG));exact WC) | ((with_reducible show dO _ _ (bB _ oMod));exact WJ) | ((with_reducible show dO _ _ (bB _ oLe));exact aB9 hr.units) | ((with_reducible show dO _ _ (bB _ OU));exact aB7 hr.units) | ((with_reducible show dO _ _ (bB _ L6));exact WD) | ((with_reducible show dO _ _ (bB _ oIn));exact aBa hr.units) | ((with_reducible show dO _ _ (bB _ G0));exact Q6) | ((with_reducible show dO _ _ (bB _ oGe));exact aBc hr.units) | ((with_reducible show dO _ _ (bB _ WN));exact WK hr.units)) | ((with_reducible show ZT _ _ _);exact UW) | ((with_reducible show LW _ _ _);first | ((with_reducible show LW _ (.BoolOp .And [_] _) _);refine' RE ?_) | ((with_reducible show LW _ (.BoolOp .And _ _) _);refine' MM ?_ ?_) | ((with_reducible show LW _ (.BoolOp .Or [_] _) _);refine' WX ?_)) | ((with_reducible show LO _ _ _);first | ((with_reducible show LO _ none _);exact RM) | ((with_reducible show LO _ (some _) _);refine' RL ?_)) | ((with_reducible show TL _ _ _);first | ((with_reducible show TL _ [] _);exact RG) | ((with_reducible show TL _ [_] _);refine' RF ?_)))
set_option hygiene true
section
variable {P:Program}{w:World}{K:aJj}{mg:aJm}{base:Heap}{k:Nat}
abbrev jC:Stmt:=top 1
theorem xE:aV ["bands","kept","y0","y1","stretches"] ["bands"] (aC jC):=⟨rfl,rfl,rfl,by decide+kernel,rfl,by decide+kernel,by decide+kernel⟩
theorem M8(B:Bl mg):vZ P w K mg base k "joined" ["bands","kept","y0","y1","stretches"] jC (LR.oZ):=by
 intro f cdv A outer s H E hr;have nd:=xE.nd;show kX _ (_::_) _
 repeat' walk_at "g"
abbrev jB:Stmt:=top 2
theorem xD:aV ["edges"] ["edges"] (aC jB):=⟨rfl,rfl,rfl,by decide+kernel,rfl,by decide+kernel,by decide+kernel⟩
theorem M7(B:Bl mg):vZ P w K mg base k "paired" ["edges"] jB (LR.oY):=by
 intro f cdv A outer s H E hr;have nd:=xD.nd;show kX _ (_::_) _
 repeat' walk_at "g"
abbrev eO:Stmt:=top 7
theorem pJ:aV ["one","other","kept","steps","row","worth","x0","x1","edges","count","x","ahead"] ["one","other","kept"] (aC eO):=⟨rfl,rfl,rfl,by decide+kernel,rfl,by decide+kernel,by decide+kernel⟩
variable{s0:OA}
theorem CZ(B:Bl mg)(DF:Fn P w K mg base k "paired" ["edges"] s0)(j8:kS K mg "IN_OTHER" (.int 2))(jK:kS K mg "IN_ONE" (.int 1)):vZ P w K mg base k "row_mixed" ["one","other","kept","steps","row","worth","x0","x1","edges","count","x","ahead"] eO (LR.iD s0):=by
 intro f cdv A outer s H E hr;have nd:=pJ.nd;show kX _ (_::_) _
 repeat' walk_at "g"
abbrev gX:Stmt:=top 8
theorem uH:aV ["region","cuts","rows","at","y","inside"] ["region","cuts"] (aC gX):=⟨rfl,rfl,rfl,by decide+kernel,rfl,by decide+kernel,by decide+kernel⟩
theorem IV(B:Bl mg):vZ P w K mg base k "rows_at" ["region","cuts","rows","at","y","inside"] gX (LR.mM):=by
 intro f cdv A outer s H E hr;have nd:=uH.nd;show kX _ (_::_) _
 repeat' walk_at "g"
abbrev lQ:Stmt:=top 9
theorem BV:aV ["one","other","kept","cuts","bands","y0","y1","left","right"] ["one","other","kept"] (aC lQ):=⟨rfl,rfl,rfl,by decide+kernel,rfl,by decide+kernel,by decide+kernel⟩
theorem SD(B:Bl mg)(x8:Fn P w K mg base k "rows_at" ["region","cuts"] s0){s1:OA}(rV:Fn P w K mg base k "row_mixed" ["one","other","kept"] s1){s2:OA}(DG:Fn P w K mg base k "joined" ["bands"] s2):vZ P w K mg base k "mixed" ["one","other","kept","cuts","bands","y0","y1","left","right"] lQ (LR.sM s0 s1 s2):=by
 intro f cdv A outer s H E hr;have nd:=BV.nd;show kX _ (_::_) _
 repeat' walk_at "g"
abbrev pH:Stmt:=top 10
theorem GQ:aV ["one","other"] ["one","other"] (aC pH):=⟨rfl,rfl,rfl,by decide+kernel,rfl,by decide+kernel,by decide+kernel⟩
theorem XT(B:Bl mg)(mV:Fn P w K mg base k "mixed" ["one","other","kept"] s0)(m6:kS K mg "IN_BOTH" (.int 3)):vZ P w K mg base k "both" ["one","other"] pH (LR.yV s0):=by
 intro f cdv A outer s H E hr;have nd:=GQ.nd;show kX _ (_::_) _
 repeat' walk_at "g"
abbrev jD:Stmt:=top 11
theorem xF:aV ["one","other"] ["one","other"] (aC jD):=⟨rfl,rfl,rfl,by decide+kernel,rfl,by decide+kernel,by decide+kernel⟩
theorem M9(B:Bl mg)(mV:Fn P w K mg base k "mixed" ["one","other","kept"] s0)(m6:kS K mg "IN_BOTH" (.int 3))(j8:kS K mg "IN_OTHER" (.int 2))(jK:kS K mg "IN_ONE" (.int 1)):vZ P w K mg base k "either" ["one","other"] jD (LR.o7 s0):=by
 intro f cdv A outer s H E hr;have nd:=xF.nd;show kX _ (_::_) _
 repeat' walk_at "g"
abbrev pG:Stmt:=top 12
theorem GP:aV ["one","other"] ["one","other"] (aC pG):=⟨rfl,rfl,rfl,by decide+kernel,rfl,by decide+kernel,by decide+kernel⟩
theorem XS(B:Bl mg)(mV:Fn P w K mg base k "mixed" ["one","other","kept"] s0)(jK:kS K mg "IN_ONE" (.int 1)):vZ P w K mg base k "less" ["one","other"] pG (LR.yT s0):=by
 intro f cdv A outer s H E hr;have nd:=GP.nd;show kX _ (_::_) _
 repeat' walk_at "g"
abbrev fS:Stmt:=top 14
theorem rL:aV ["_law_script","_law_at","_law_cell","_law_mix","_law_k"] ["_law_script","_law_at"] (aC fS):=⟨rfl,rfl,rfl,by decide+kernel,rfl,by decide+kernel,by decide+kernel⟩
def nS:WS:=(bX (aX oMod (aX L6 (aX f9 (aX f9 (aX sC (aB 3) (wC (.int 48271))) (aX oMod (aX eJ (aB 0) (aB 4)) (wC (.int 2147483647)))) (aX sC (aB 4) (aB 4))) (wC (.int 5))) (wC (.int 2147483629))) (gN 3))
def o8:WS:=(dE (e7 (aA (aB 2) (aA (aB 3) aD))))
def jR:WS:=(aS (gI (cY (aX oLt (aB 2) (aX L6 (wC (.int 10)) (wC (.int 18))))) (bX (wC (.int 0)) (gN 2)) dQ) (o8))
def o9:WS:=(aS (lK (nT (aA (aF yP (aA (aF fG (aA (aB 0) aD)) (aA (wC (.int 60)) aD))) aD)) (gN 4) (nS)) (jR))
def jS:WS:=(aS (bX (aX f9 (aX f9 (aX sC (aX sC (wC (.int 7919)) (aB 1)) (aB 1)) (aX sC (wC (.int 104729)) (aB 1))) (wC (.int 17))) (gN 3)) (o9))
def pA:WS:=(aS (gI (cY (aX oLt (aB 1) (aF fG (aA (aB 0) aD)))) (bX (aF TH (aA (aX eJ (aB 0) (aB 1)) aD)) (gN 2)) dQ) (jS))
def jT:WS:=(aS (bX (wC (.int 0)) (gN 2)) (pA))
theorem FF(B:Bl mg):vZ P w K mg base k "_law_bag" ["_law_script","_law_at","_law_cell","_law_mix","_law_k"] fS (jT):=by
 intro f cdv A outer s H E hr;have nd:=rL.nd;show kX _ (_::_) _
 repeat' walk_at "g"
abbrev eP:Stmt:=top 15
theorem pK:aV ["_law_bag_here","_law_many","_law_digit","_law_number_here","_law_room"] ["_law_bag_here","_law_many"] (aC eP):=⟨rfl,rfl,rfl,by decide+kernel,rfl,by decide+kernel,by decide+kernel⟩
def i7:WS:=(bX (aX sC (aB 4) (wC (.int 1073741789))) (gN 4))
def i8:WS:=(aS (bX (aX f9 (aX sC (aB 3) (wC (.int 1073741789))) (aX oMod (aX sC (aX G0 (aX eJ (aB 0) (wC (.int 1))) (wC (.int 8))) (wC (.int 69621))) (wC (.int 1073741789)))) (gN 3)) (i7))
def k9:WS:=(aS (tQ (aX oMod (aX L6 (aX f9 (aX sC (aX eJ (aB 0) (wC (.int 1))) (wC (.int 48271))) (wC (.int 7919))) (wC (.int 3))) (wC (.int 2147483629))) (aB 0) (wC (.int 1))) (i8))
def iU:WS:=(dE (aX oMod (aB 3) (aB 1)))
def nK:WS:=(aS (yW (cY (aX oLt (aB 4) (aB 1))) (k9)) (iU))
def nL:WS:=(aS (bX (wC (.int 1)) (gN 4)) (nK))
def nM:WS:=(aS (bX (wC (.int 0)) (gN 3)) (nL))
def iE:WS:=(aS (gI (cY (aX OV (aX eJ (aB 0) (wC (.int 0))) (wC (.int 0)))) (aS (bX (aX oMod (aX eJ (aB 0) (wC (.int 0))) (aB 1)) (gN 2)) (aS (tQ (aX G0 (aX eJ (aB 0) (wC (.int 0))) (aB 1)) (aB 0) (wC (.int 0))) (dE (aB 2)))) dQ) (nM))
theorem C0(B:Bl mg):vZ P w K mg base k "_law_take" ["_law_bag_here","_law_many","_law_digit","_law_number_here","_law_room"] eP (iE):=by
 intro f cdv A outer s H E hr;have nd:=pK.nd;show kX _ (_::_) _
 repeat' walk_at "g"
abbrev dB:Stmt:=top 16
theorem lS:aV ["_law_bag_here","_law_sort","_law_some"] ["_law_bag_here","_law_sort","_law_some"] (aC dB):=⟨rfl,rfl,rfl,by decide+kernel,rfl,by decide+kernel,by decide+kernel⟩
theorem wF(B:Bl mg)(eB:Fn P w K mg base k "_law_take" ["_law_bag_here","_law_many"] s0):vZ P w K mg base k "_law_number" ["_law_bag_here","_law_sort","_law_some"] dB (LR.fJ s0):=by
 intro f cdv A outer s H E hr;have nd:=lS.nd;show kX _ (_::_) _
 repeat' walk_at "g"
abbrev eQ:Stmt:=top 17
theorem pL:aV ["_law_bag_here","_law_sort","_law_some","_law_one","_law_other"] ["_law_bag_here","_law_sort","_law_some"] (aC eQ):=⟨rfl,rfl,rfl,by decide+kernel,rfl,by decide+kernel,by decide+kernel⟩
theorem C1(B:Bl mg)(n4:Fn P w K mg base k "_law_number" ["_law_bag_here","_law_sort","_law_some"] s0):vZ P w K mg base k "_law_side" ["_law_bag_here","_law_sort","_law_some","_law_one","_law_other"] eQ (LR.iF s0):=by
 intro f cdv A outer s H E hr;have nd:=pL.nd;show kX _ (_::_) _
 repeat' walk_at "g"
abbrev dR:Stmt:=top 18
theorem nU:aV ["_law_bag_here","_law_most","_law_sort","_law_many","_law_some","_law_found","_law_k","_law_left","_law_right","_law_low","_law_high"] ["_law_bag_here","_law_most"] (aC dR):=⟨rfl,rfl,rfl,by decide+kernel,rfl,by decide+kernel,by decide+kernel⟩
theorem zT(B:Bl mg)(eB:Fn P w K mg base k "_law_take" ["_law_bag_here","_law_many"] s0){s1:OA}(rW:Fn P w K mg base k "_law_side" ["_law_bag_here","_law_sort","_law_some"] s1):vZ P w K mg base k "_law_rects" ["_law_bag_here","_law_most","_law_sort","_law_many","_law_some","_law_found","_law_k","_law_left","_law_right","_law_low","_law_high"] dR (LR.gG s0 s1):=by
 intro f cdv A outer s H E hr;have nd:=nU.nd;show kX _ (_::_) _
 repeat' walk_at "g"
abbrev eS:Stmt:=top 19
theorem pN:aV ["_law_shreds","_law_found","_law_start","_law_end"] ["_law_shreds"] (aC eS):=⟨rfl,rfl,rfl,by decide+kernel,rfl,by decide+kernel,by decide+kernel⟩
theorem C3(B:Bl mg):vZ P w K mg base k "_law_line" ["_law_shreds","_law_found","_law_start","_law_end"] eS (LR.iM):=by
 intro f cdv A outer s H E hr;have nd:=pN.nd;show kX _ (_::_) _
 repeat' walk_at "g"
abbrev dA:Stmt:=top 20
theorem lR:aV ["_law_rects_here","_law_ys","_law_found","_law_low","_law_high","_law_line_here"] ["_law_rects_here"] (aC dA):=⟨rfl,rfl,rfl,by decide+kernel,rfl,by decide+kernel,by decide+kernel⟩
theorem wD(B:Bl mg)(rX:Fn P w K mg base k "_law_line" ["_law_shreds"] s0):vZ P w K mg base k "_law_region" ["_law_rects_here","_law_ys","_law_found","_law_low","_law_high","_law_line_here"] dA (LT.fI s0):=by
 intro f cdv A outer s H E hr;have nd:=lR.nd;show kX _ (_::_) _
 repeat' walk_at "g"
abbrev eR:Stmt:=top 21
theorem pM:aV ["_law_found","_law_due"] ["_law_found","_law_due"] (aC eR):=⟨rfl,rfl,rfl,by decide+kernel,rfl,by decide+kernel,by decide+kernel⟩
theorem C2(B:Bl mg)(iR:Fn P w K mg base k "_law_same" ["_law_found","_law_due"] s0):vZ P w K mg base k "_law_same" ["_law_found","_law_due"] eR (LS.c9 s0):=by
 intro f cdv A outer s H E hr;have nd:=pM.nd;show kX _ (_::_) _
 repeat' walk_at "g"
abbrev fR:Stmt:=top 22
theorem rK:aV ["_law_line_here","_law_x"] ["_law_line_here","_law_x"] (aC fR):=⟨rfl,rfl,rfl,by decide+kernel,rfl,by decide+kernel,by decide+kernel⟩
def jQ:WS:=(dE (aX OV (aF fG (aA (EB ["_law_one"] [1] (dP (aB 0)) (gN 0) (cY (qM oLe oLt (aX eJ (aB 0) (wC (.int 0))) (aB 1) (aX eJ (aB 0) (wC (.int 1))))) (aB 0)) aD)) (wC (.int 0))))
theorem FE(B:Bl mg):vZ P w K mg base k "_law_has" ["_law_line_here","_law_x"] fR (jQ):=by
 intro f cdv A outer s H E hr;have nd:=rK.nd;show kX _ (_::_) _
 repeat' walk_at "g"
abbrev cP:Stmt:=top 23
theorem kP:aV ["_law_some","_law_y","_law_low","_law_high","_law_line_here"] ["_law_some","_law_y"] (aC cP):=⟨rfl,rfl,rfl,by decide+kernel,rfl,by decide+kernel,by decide+kernel⟩
def iL:WS:=(gI (cY (qM oLe oLt (aB 2) (aB 1) (aB 3))) (dE (aB 4)) dQ)
def i9:WS:=(dE (f7 aD))
def eN:WS:=(aS (lK (dP (aB 0)) (gT 3 (bH (gN 2) (bH (gN 3) (bH (gN 4) iQ)))) (iL)) (i9))
theorem vA(B:Bl mg):vZ P w K mg base k "_law_line_at" ["_law_some","_law_y","_law_low","_law_high","_law_line_here"] cP (eN):=by
 intro f cdv A outer s H E hr;have nd:=kP.nd;show kX _ (_::_) _
 repeat' walk_at "g"
abbrev dS:Stmt:=top 24
theorem nV:aV ["_law_one","_law_other","_law_which","_law_ys","_law_rects_here","_law_low","_law_high","_law_left","_law_right","_law_xs","_law_start","_law_end","_law_kept"] ["_law_one","_law_other","_law_which"] (aC dS):=⟨rfl,rfl,rfl,by decide+kernel,rfl,by decide+kernel,by decide+kernel⟩
def iI(s0 s1 s2:OA):WS:=(gI (cY (aX WN (aB 12) (aB 2))) (iN (GG "list" cI (aB 4) (aA (f7 (aA (aB 10) (aA (aB 5) (aA (aB 11) (aA (aB 6) aD))))) aD))) dQ)
def kN(s0 s1 s2:OA):WS:=(aS (bX (e7 (aA (aF s1 (aA (aB 7) (aA (aB 10) aD))) (aA (aF s1 (aA (aB 8) (aA (aB 10) aD))) aD))) (gN 12)) (iI s0 s1 s2))
def eM(s0 s1 s2:OA):WS:=(lK (tO (aA (aB 9) (aA (TZ Q8 (aB 9) (lJ (wC (.int 1))) OP) aD))) (gT 2 (bH (gN 10) (bH (gN 11) iQ))) (kN s0 s1 s2))
def iJ(s0 s1 s2:OA):WS:=(aS (bX (d7 (aX f9 (EB ["_law_x"] [] (dP (aX f9 (aB 7) (aB 8))) (gN 0) kU (aX eJ (aB 0) (wC (.int 0)))) (EB ["_law_x"] [] (dP (aX f9 (aB 7) (aB 8))) (gN 0) kU (aX eJ (aB 0) (wC (.int 1)))))) (gN 9)) (eM s0 s1 s2))
def iK(s0 s1 s2:OA):WS:=(aS (bX (aF s0 (aA (aB 1) (aA (aB 5) aD))) (gN 8)) (iJ s0 s1 s2))
def kO(s0 s1 s2:OA):WS:=(aS (bX (aF s0 (aA (aB 0) (aA (aB 5) aD))) (gN 7)) (iK s0 s1 s2))
def lF(s0 s1 s2:OA):WS:=(dE (aF s2 (aA (aB 4) aD)))
def lG(s0 s1 s2:OA):WS:=(aS (lK (tO (aA (aB 3) (aA (TZ Q8 (aB 3) (lJ (wC (.int 1))) OP) aD))) (gT 2 (bH (gN 5) (bH (gN 6) iQ))) (kO s0 s1 s2)) (lF s0 s1 s2))
def lH(s0 s1 s2:OA):WS:=(aS (bX (e7 aD) (gN 4)) (lG s0 s1 s2))
def gH(s0 s1 s2:OA):WS:=(aS (bX (d7 (aX f9 (EB ["_law_band"] [] (dP (aX f9 (aB 0) (aB 1))) (gN 0) kU (aX eJ (aB 0) (wC (.int 0)))) (EB ["_law_band"] [] (dP (aX f9 (aB 0) (aB 1))) (gN 0) kU (aX eJ (aB 0) (wC (.int 1)))))) (gN 3)) (lH s0 s1 s2))
theorem zU(B:Bl mg)(mD:Fn P w K mg base k "_law_line_at" ["_law_some","_law_y"] s0){s1:OA}(vI:Fn P w K mg base k "_law_has" ["_law_line_here","_law_x"] s1){s2:OA}(fQ:Fn P w K mg base k "_law_region" ["_law_rects_here"] s2):vZ P w K mg base k "_law_mixed" ["_law_one","_law_other","_law_which","_law_ys","_law_rects_here","_law_low","_law_high","_law_left","_law_right","_law_xs","_law_start","_law_end","_law_kept"] dS (gH s0 s1 s2):=by
 intro f cdv A outer s H E hr;have nd:=nV.nd;show kX _ (_::_) _
 repeat' walk_at "g"
abbrev tY:Stmt:=top 25
theorem K4:aV ["_law_script","_law_at","_law_bag_here","_law_how","_law_one","_law_other","_law_due","_law_again","_law_told"] ["_law_script"] (aC tY):=⟨rfl,rfl,rfl,by decide+kernel,rfl,by decide+kernel,by decide+kernel⟩
def tB(s0 s1 s2 b c d e f a:OA):WS:=(gI (wZ (tP (aF a (aA (aB 8) (aA (aB 6) aD))))) (dE (wC (.bl false))) dQ)
def BH(s0 s1 s2 d e a b c f:OA):WS:=(aS (bX (e7 (aA (aF c (aA (aB 4) (aA (aB 5) aD))) (aA (aF b (aA (aB 4) (aA (aB 5) aD))) (aA (aF a (aA (aB 4) (aA (aB 5) aD))) (aA (aF a (aA (aB 5) (aA (aB 4) aD))) aD))))) (gN 8)) (tB s0 s1 s2 d e a b c f))
def tD(s0 s1 s2 a b c d e f:OA):WS:=(lK (nT (aA (wC (.int 2)) aD)) (gN 7) (BH s0 s1 s2 a b c d e f))
def tE(s0 s1 s2 b a c d e f:OA):WS:=(aS (iN (GG "list" cI (aB 6) (aA (aF a (aA (aB 4) (aA (aB 5) (aA (e7 (aA (e7 (aA (wC (.bl false)) (aA (wC (.bl true)) aD))) aD)) aD)))) aD))) (tD s0 s1 s2 b a c d e f))
def tF(s0 s1 s2 b a c d e f:OA):WS:=(aS (iN (GG "list" cI (aB 6) (aA (aF a (aA (aB 4) (aA (aB 5) (aA (e7 (aA (e7 (aA (wC (.bl true)) (aA (wC (.bl false)) aD))) aD)) aD)))) aD))) (tE s0 s1 s2 b a c d e f))
def tG(s0 s1 s2 b a c d e f:OA):WS:=(aS (iN (GG "list" cI (aB 6) (aA (aF a (aA (aB 4) (aA (aB 5) (aA (e7 (aA (e7 (aA (wC (.bl true)) (aA (wC (.bl true)) aD))) (aA (e7 (aA (wC (.bl true)) (aA (wC (.bl false)) aD))) (aA (e7 (aA (wC (.bl false)) (aA (wC (.bl true)) aD))) aD)))) aD)))) aD))) (tF s0 s1 s2 b a c d e f))
def jP(s0 s1 s2 b a c d e f:OA):WS:=(aS (bX (e7 (aA (aF a (aA (aB 4) (aA (aB 5) (aA (e7 (aA (e7 (aA (wC (.bl true)) (aA (wC (.bl true)) aD))) aD)) aD)))) aD)) (gN 6)) (tG s0 s1 s2 b a c d e f))
def tH(s0 s1 s2 a b c d e f:OA):WS:=(aS (gI (cY (aX oLt (aB 3) (wC (.int 2)))) (bX (aX eJ (e7 (aA (aB 4) (aA (f7 aD) aD))) (aB 3)) (gN 5)) dQ) (jP s0 s1 s2 a b c d e f))
def tI(s0 s1 s2 a b c d e f:OA):WS:=(aS (bX (aF s2 (aA (aF a (aA (aB 2) (aA (wC (.int 24)) aD))) aD)) (gN 5)) (tH s0 s1 s2 a b c d e f))
def tJ(s0 s1 s2 a b c d e f:OA):WS:=(aS (bX (aF s2 (aA (aF a (aA (aB 2) (aA (wC (.int 24)) aD))) aD)) (gN 4)) (tI s0 s1 s2 a b c d e f))
def tK(s0 s1 s2 a b c d e f:OA):WS:=(aS (bX (aF s1 (aA (aB 2) (aA (wC (.int 8)) aD))) (gN 3)) (tJ s0 s1 s2 a b c d e f))
def BI(s0 s1 s2 a b c d e f:OA):WS:=(aS (bX (aF s0 (aA (aB 0) (aA (aB 1) aD))) (gN 2)) (tK s0 s1 s2 a b c d e f))
def yU(s0 s1 s2 a b c d e f:OA):WS:=(dE (wC (.bl true)))
def GB(s0 s1 s2 a b c d e f:OA):WS:=(aS (lK (nT (aA (aF D7 (aA (wC (.int 1)) (aA (aF yP (aA (wC (.int 5)) (aA (aF fG (aA (aB 0) aD)) aD))) aD))) aD)) (gN 1) (BI s0 s1 s2 a b c d e f)) (yU s0 s1 s2 a b c d e f))
theorem aBw(B:Bl mg)(vJ:Fn P w K mg base k "_law_bag" ["_law_script","_law_at"] s0){s1:OA}(eB:Fn P w K mg base k "_law_take" ["_law_bag_here","_law_many"] s1){s2:OA}(fQ:Fn P w K mg base k "_law_region" ["_law_rects_here"] s2){s3:OA}(p9:Fn P w K mg base k "_law_rects" ["_law_bag_here","_law_most"] s3){s4:OA}(qA:Fn P w K mg base k "_law_mixed" ["_law_one","_law_other","_law_which"] s4){s5:OA}(NY:Fn P w K mg base k "less" ["one","other"] s5){s6:OA}(DH:Fn P w K mg base k "either" ["one","other"] s6){s7:OA}(f_both:Fn P w K mg base k "both" ["one","other"] s7){s8:OA}(iR:Fn P w K mg base k "_law_same" ["_law_found","_law_due"] s8):vZ P w K mg base k "law" ["_law_script","_law_at","_law_bag_here","_law_how","_law_one","_law_other","_law_due","_law_again","_law_told"] tY (GB s0 s1 s2 s3 s4 s5 s6 s7 s8):=by
 intro f cdv A outer s H E hr;have nd:=K4.nd;show kX _ (_::_) _
 repeat' walk_at "g"
end
theorem aBy:FG 2 0=some 0:=by decide
theorem aBx:FG 2 1=some 1:=by decide
theorem i3(d e:D)(ds:List D):n6 (d::e::ds) 1=some e:=by
 have:=iT (xs:=d::e::ds) (j:=1) (v:=e) rfl;simpa using this
theorem vT{i j:Int}(a: -18446744073709551616<j)(b:j<18446744073709551616):J3 i j:= .inr ⟨a,b⟩
theorem UI{i j:Int}(a: -18446744073709551616<i)(b:i<18446744073709551616):J3 i j:= .inl ⟨a,b⟩
theorem YV{i:Int}{j:Int}(h0:0<=j)(a:j<=1000000)(b: -18446744073709551616<i)(c:i<18446744073709551616):ZK i j:=⟨h0,a,by lia⟩
abbrev En(mh:MH)(R:DK):fY:={nx:=λ_ a=>Out mh.length .cL a R,rt:=λd a=>Out mh.length d a R}
theorem YA(ds:List D)(mh:MH)(R:DK)(ok:kW mh)(o:jF ds mh R):iE (En mh R) (aI ["_law_bag_here","_law_many","_law_digit","_law_number_here","_law_room"] ds) mh:=by
 obtain⟨b,a,rfl,z,A,⟨c,m,hb,n,g,h⟩,q⟩:=o;have f:b<mh.length:=(aFp.mp hb).1
 have fin:∀(r k j :Int),0<=r->r<a->0<=k ->0<=j ->j<2147483629->Out mh.length (.int r) (mh.set b (.lst [.int k,.int j])) R:=λr k j p s t u v=>
  cC (q r _ p s ⟨⟨k,j,by simp[f],t,u,v⟩,_,rfl⟩)
 simp[iE,nM,nL,nK,aI,eX hb,uI hb,aBy];by_cases h0:0<c
 ·rw[if_pos h0];exact⟨by lia,⟨by lia,by lia⟩,fin _ _ _ (aIl _ (by lia)) (aI1 _ (by lia)) (Int.ediv_nonneg (by lia) (by lia)) g h⟩
 ·rw[if_neg h0];refine EF 2 ?_;by_cases d:1<a
  ·have w:0<=(m*48271+7919)^3 % 2147483629:=aIl _ (by lia);have x:(m*48271+7919)^3 % 2147483629<2147483629:=aI1 _ (by lia);simp[oC,k9,i8,i7,iU,d,eX hb,uI hb,aBx,i3];refine⟨vT (by lia) (by lia),YV (by lia) (by lia) (by lia) (by lia),?_⟩;have l:(mh.set b (.lst [.int c,.int ((m*48271+7919)^3 % 2147483629)]))[b]? =some (.lst [.int c,.int ((m*48271+7919)^3 % 2147483629)]):=by simp[f]
   simp only[eX l,i3,bT,K7,K9];refine⟨vT (by lia) (by lia),⟨by lia,by lia⟩,vT (by lia) (by lia),by lia,vT (by lia) (by lia),?_⟩;simp;rw[if_neg (by lia)];exact⟨by lia,fin _ _ _ (aIl _ (by lia)) (aI1 _ (by lia)) n w x⟩
  ·simp[oC,d,iU];have e:a=1:=by lia
   subst e;refine⟨by lia,?_⟩
   have y:mh.set b (.lst [.int c,.int m])=mh:=by
    apply aIt;intro i;by_cases hi:i=b
    ·subst hi;rw[List.getElem?_set_self f,hb]
    ·rw[List.getElem?_set_ne (Ne.symm hi)]
   have:=fin 0 c m (by lia) (by lia) n g h;rw[y]at this;exact this
variable{ns:List Int}
theorem D5{i:Int}(h0:0<=i)(a:i<ns.length):∃v,n6 (ns.map D.int) i=some (.int v):=by
 refine⟨ns[i.toNat]'(by lia),?_⟩;have e:i=((i.toNat:Nat):Int):=by lia
 have:=iT (xs:=ns.map D.int) (j:=i.toNat) (v:= .int (ns[i.toNat]'(by lia))) (by rw[List.getElem?_map,List.getElem?_eq_getElem (by lia)];rfl);rw[<-e]at this;exact this
theorem YJ{mh:MH}{R:DK}{a c m:Int}{k:Option D}(q:∀mh',(∃o,mh' =mh++[o])->wU mh' mh.length->R (.ref mh.length) mh')(b:0<=c)(d:0<=m)(e:m<2147483629):
  jR (En mh R) [some (.fl (ns.map .int)),some (.int a),some (.int c),some (.int m),k] mh:=by
 have fin:∀c,0<=c->Out mh.length (.ref mh.length) (mh++[.lst [.int c,.int m]]) R:=λc f=>cC (q _ ⟨_,rfl⟩ ⟨c,m,by simp,f,d,e⟩);simp[jR,o8];refine⟨YV (by lia) (by lia) (by lia) (by lia),?_⟩;split
 ·exact⟨by rw[sizeLine_eq];lia,fin 0 (by lia)⟩
 ·exact⟨by rw[sizeLine_eq];lia,fin c b⟩
theorem NQ{mh:MH}{R:DK}{a c:Int}(s:ns.length<=63)(b:0<=a)(f:a<=100)(q:∀mh',(∃o,mh' =mh++[o])->wU mh' mh.length->R (.ref mh.length) mh')(j:0<=c):
  jS (En mh R) [some (.fl (ns.map .int)),some (.int a),some (.int c),none,none] mh:=by
 have l:7919*a*a<=79190000:=by
  have:a*a<=100*100:=Int.mul_le_mul f f b (by lia);have e:7919*a*a=7919*(a*a):=Int.mul_assoc _ _ _
  lia
 have n:0<=7919*a*a:=Int.mul_nonneg (by lia) b;simp[jS,o9];refine⟨UI (by lia) (by lia),vT (by lia) (by lia),UI (by lia) (by lia),?_,?_,?_⟩
 ·split <;> lia
 ·split <;> (rw[sizeLine_eq];lia)
 ·refine cD (λi g mh' =>mh' =mh/\∃m k,g=[some (.fl (ns.map .int)),some (.int a),some (.int c),some (.int m),k]/\0<=m/\m<2147483629) _ (λ_ _ _ _=>trivial) ?_ ?_ ⟨rfl,_,_,rfl,by lia,by lia⟩
  ·rintro i d g mh' N hi ⟨rfl,m,k,rfl,m0,m1⟩ nx;obtain⟨hi,rfl⟩:=sR hi
   have p:i<ns.length:=by
    revert hi;split <;> intro hi <;> lia
   have h:i<60:=by
    revert hi;split <;> intro hi <;> lia
   obtain⟨v,r⟩:=D5 (ns:=ns) (i:=0+(i:Int)) (by lia) (by lia);have t:0<=v % 2147483647:=aIl _ (by lia);have u:v % 2147483647<2147483647:=aI1 _ (by lia);have w:0<=(0+(i:Int))*(0+(i:Int)):=Int.mul_nonneg (by lia) (by lia);have x:(0+(i:Int))*(0+(i:Int))<=60*60:=Int.mul_le_mul (by lia) (by lia) (by lia) (by lia);simp only[aEb,nS,T4,aE1,s_c,aAg,List.set_cons_succ,List.set_cons_zero,List.getElem?_cons_succ,List.getElem?_cons_zero,Option.join_some,bT,K7,K9,aAj,r];refine⟨vT (by lia) (by lia),by lia,vT (by lia) (by lia),YV (by lia) (by lia) (by lia) (by lia),by lia,nx _ _ ⟨rfl,_,_,rfl,aIl _ (by lia),aI1 _ (by lia)⟩⟩
  ·rintro g mh' ⟨rfl,m,k,rfl,m0,m1⟩;exact YJ q j m0 m1
theorem aC5(ds:List D)(mh:MH)(R:DK)(ok:kW mh)(e:BY ds mh R):jT (En mh R) (aI ["_law_script","_law_at","_law_cell","_law_mix","_law_k"] ds) mh:=by
 obtain⟨ns,a,rfl,d,b,c,q⟩:=e;simp[jT,pA,aI];split
 ·rename_i hlt;obtain⟨v,f⟩:=D5 (ns:=ns) (i:=a) b hlt;simp[f];exact NQ d b c q (by split <;> lia)
 ·exact NQ d b c q (by lia)
open LR
open LS
theorem oE{y:Int}:∀{g:List Bd} {i:Nat},(∀b∈g.take i,¬(b.lo<=y/\y<b.hi))->rowAt g y=rowAt (g.drop i) y
 | g,0,_=>by simp
 | [],i+1,_=>by simp
 | b::g,i+1,h=>by
  have:=h b (by simp);simp only[rowAt,List.drop_succ_cons];rw[if_neg this];exact oE λd hd=>h d (by simp[hd])
def pR:OA:=λds mh Q=>∃(g:List Bd) (y:Int),ds=[gD g,.int y]/\g.length<=4000/\Q (cR (rowAt g y)) mh
theorem JF(ds:List D)(mh:MH)(R:DK)(ok:kW mh)(m:pR ds mh R):eN (En mh R) (aI ["_law_some","_law_y","_law_low","_law_high","_law_line_here"] ds) mh:=by
 obtain⟨g,y,rfl,hg,q⟩:=m;have sz:=aGe;simp[eN,aI,gD,bC];refine cD (λi f M=>(∃h j k,f=[some (gD g),some (.int y),h,j,k])/\M=mh/\∀b∈g.take i,¬(b.lo<=y/\y<b.hi)) _ ?_ ?_ ?_ ⟨⟨none,none,none,by simp[gD]⟩,rfl,by simp⟩
 ·intros;trivial
 ·rintro i d f M N hi ⟨⟨h,j,k,rfl⟩,rfl,hb⟩ nx;obtain⟨b,a,rfl⟩:=fL hi;simp[iL,bD];have l:i<g.length:=(aFp.mp a).1;by_cases c:b.lo<=y/\y<b.hi
  ·rw[if_pos c.1,if_pos c.2];refine cC ?_;have e:=oE hb;rw[List.drop_eq_getElem_cons l,(List.getElem?_eq_some_iff.mp a).2]at e;simp only[rowAt]at e;rw[if_pos c]at e;rw[<-e];exact q
  ·have:=nx [some (gD g),some (.int y),some (.int b.lo),some (.int b.hi),some (cR b.ln)] M ⟨⟨_,_,_,rfl⟩,rfl,λd hd=>by
    rw[take_snoc a]at hd;rcases aFv.mp hd with z | z
    ·exact hb d z
    ·simp at z;subst z;exact c⟩
   split
   ·split
    ·exact absurd ⟨by assumption,by assumption⟩ c
    ·exact this
   ·exact this
 ·rintro f M ⟨⟨h,j,k,rfl⟩,rfl,hb⟩;simp[i9];simp only[List.length_map,List.take_length]at hb;have e:=oE (y:=y) (g:=g) (i:=g.length) (by simpa using hb);simp[rowAt]at e;rw[e]at q;exact cC (by simpa[cR] using q)
def BX:OA:=λds mh Q=>∃(l:List P2) (x:Int),ds=[cR l,.int x]/\l.length<=4000/\Q (.bl (eI l x)) mh
theorem YH(ds:List D)(mh:MH)(R:DK)(ok:kW mh)(g:BX ds mh R):jQ (En mh R) (aI ["_law_line_here","_law_x"] ds) mh:=by
 obtain⟨l,x,rfl,i,q⟩:=g;have sz:=aGe;simp[jQ,aI,cR,bC];refine oN sD (λt:P2=>decide (t.1<=x) && decide (x<t.2)) id sD l (by simp) (λt ht N M h d=>?_) ?_
 ·simp[fW,sD,i3];by_cases b:t.1<=x
  ·by_cases c:x<t.2
   ·rw[if_pos b,if_pos c];exact h (by simp[b,c])
   ·rw[if_pos b,if_neg c];exact d (by simp[c])
  ·rw[if_neg b];exact d (by simp[b])
 ·rw[jU (fB _ _)]
  have e:∀(f:P2->Bool) (l:List P2),l.any f=decide ((0:Int)<(l.filter f).length):=λf l=>by
   induction l with
   | nil=>rfl
   | cons a l ih=>
    simp only[List.any_cons,List.filter_cons];cases f a
    ·simpa using ih
    ·simp
  unfold eI at q;rw[e]at q;simp;exact pV ok (by simp[cV]) q
open LT
theorem j6{xs:List Int}{t:P2}{x:Int}(a:xs.Pairwise (· < ·))(ht:t∈xs.zip xs.tail)(e:t.1<=x)(f:x<t.2){l:List P2}(h:∀s∈l,s.1∈xs/\s.2∈xs):eI l x=eI l t.1:=by
 obtain⟨_,z⟩:=mK a ht;unfold eI
 induction l with
 | nil=>rfl
 | cons s l ih=>
  rw[List.any_cons,List.any_cons,ih λu b=>h u (List.mem_cons_of_mem _ b)];have g:=z _ (h s aFs).1;have i:=z _ (h s aFs).2;have c:decide (s.1<=x)=decide (s.1<=t.1):=by apply decide_eq_decide.mpr;lia
  have d:decide (x<s.2)=decide (t.1<s.2):=by apply decide_eq_decide.mpr;lia
  rw[c,d]
def ends(l:List P2):List Int:=l.map (·.1)++l.map (·.2)
def jO(g h:List Bd)(y:Int):List Int:=cO (ends (rowAt g y++rowAt h y))
def kept(bss:List (List Bool))(g h:List Bd)(y x:Int):Bool:=bss.elem [eI (rowAt g y) x,eI (rowAt h y) x]
def uM(bss:List (List Bool))(g h:List Bd)(p:P2)(ts:List P2):List R4:=(ts.filter λt=>kept bss g h p.1 t.1).map λt=>⟨t.1,p.1,t.2,p.2⟩
def cells(bss:List (List Bool))(g h:List Bd)(ps:List P2):List R4:=ps.flatMap λp=>uM bss g h p ((jO g h p.1).zip (jO g h p.1).tail)
variable{g h:List Bd}
theorem mW{y:Int}:(∀s∈rowAt g y,s.1∈jO g h y/\s.2∈jO g h y)/\∀s∈rowAt h y,s.1∈jO g h y/\s.2∈jO g h y:=by
 unfold jO ends;simp only[bL,List.mem_append,List.mem_map];exact⟨λs a=>⟨.inl ⟨s,.inl a,rfl⟩,.inr ⟨s,.inl a,rfl⟩⟩,λs a=>⟨.inl ⟨s,.inr a,rfl⟩,.inr ⟨s,.inr a,rfl⟩⟩⟩
variable{bss:List (List Bool)}
theorem mS{ps:List P2}{r:R4}:r∈cells bss g h ps↔∃p∈ps,∃t∈(jO g h p.1).zip (jO g h p.1).tail,kept bss g h p.1 t.1=true/\r=⟨t.1,p.1,t.2,p.2⟩:=by
 unfold cells uM;simp only[List.mem_flatMap,List.mem_map,List.mem_filter];constructor
 ·rintro⟨p,a,t,⟨ht,b⟩,rfl⟩;exact⟨p,a,t,ht,b,rfl⟩
 ·rintro⟨p,a,t,ht,b,rfl⟩;exact⟨p,a,t,⟨ht,b⟩,rfl⟩
theorem OC{ys:List Int}(L:fZ g)(ch:fZ h)(h0:[false,false]∉bss)(k:ys.Pairwise (· < ·))(hg:∀b∈g,b.lo∈ys/\b.hi∈ys)(o:∀b∈h,b.lo∈ys/\b.hi∈ys):
  (∀r∈cells bss g h (ys.zip ys.tail),Good r)/\∀x y,(∃r∈cells bss g h (ys.zip ys.tail),r.has x y)↔kept bss g h y x=true:=by
 refine⟨λr q=>?_,λx y=>⟨?_,λl=>?_⟩⟩
 ·obtain⟨p,f,t,ht,_,rfl⟩:=mS.mp q;exact⟨(mK (aT _) ht).1,(mK k f).1⟩
 ·rintro⟨r,q,c,d,m,n⟩;obtain⟨p,f,t,ht,l,rfl⟩:=mS.mp q;unfold kept at l⊢;rw[cB k f m n hg,cB k f m n o,j6 (aT _) ht c d (mW (g:=g) (h:=h)).1,j6 (aT _) ht c d (mW (g:=g) (h:=h)).2];exact l
 ·have i:=l;unfold kept at l;have C:[eI (rowAt g y) x,eI (rowAt h y) x]∈bss:=by simpa using l
  have G:(∃s∈rowAt g y++rowAt h y,s.1<=x/\x<s.2)/\(rowAt g y≠[]\/rowAt h y≠[]):=by
   cases c1:eI (rowAt g y) x with
   | true=>
    obtain⟨s,a,j⟩:=qC.mp c1;exact⟨⟨s,aG6 _ a,j⟩,.inl λe=>by rw[e]at a;cases a⟩
   | false=>
    cases c2:eI (rowAt h y) x with
    | true=>
     obtain⟨s,a,j⟩:=qC.mp c2;exact⟨⟨s,aFz _ a,j⟩,.inr λe=>by rw[e]at a;cases a⟩
    | false=>rw[c1,c2]at C;exact absurd C h0
  obtain⟨⟨s,a,c,d⟩,u⟩:=G
  have:∃lo∈ys,∃hi∈ys,lo<=y/\y<hi:=by
   rcases u with n1 | n1
   ·obtain⟨b,hb,z⟩:=jG n1;exact⟨_,(hg b hb).1,_,(hg b hb).2,z⟩
   ·obtain⟨b,hb,z⟩:=jG n1;exact⟨_,(o b hb).1,_,(o b hb).2,z⟩
  obtain⟨lo,H,hi,I,J,K⟩:=this;obtain⟨p,f,v,w,_⟩:=between k H I J K;have D:=cB k f v w hg;have E:=cB k f v w o;rw[D,E]at a
  have F:s.1∈jO g h p.1/\s.2∈jO g h p.1:=by
   rcases aFv.mp a with z | z
   ·exact(mW (g:=g) (h:=h)).1 s z
   ·exact(mW (g:=g) (h:=h)).2 s z
  obtain⟨t,ht,A,B,_⟩:=between (aT _) F.1 F.2 c d;refine⟨⟨t.1,p.1,t.2,p.2⟩,mS.mpr ⟨p,f,t,ht,?_,rfl⟩,A,B,v,w⟩;unfold kept at i⊢;rw[D,E,j6 (aT _) ht A B (mW (g:=g) (h:=h)).1,j6 (aT _) ht A B (mW (g:=g) (h:=h)).2]at i;exact i
theorem qK:∀{l:List Int},l.Pairwise (· < ·)->(l.zip l.tail).Pairwise λa b=>a.2<=b.1
 | [],_=>by simp
 | [a],_=>by simp
 | a::b::l,h=>by
  obtain⟨e,c⟩:=aG5.mp h;simp only[List.tail_cons,List.zip_cons_cons,List.pairwise_cons];refine⟨λp d=>?_,qK c⟩;rcases aFx.mp (aH4 d).1 with z | z
  ·rw[z];exact aGu _
  ·exact Int.le_of_lt ((aG5.mp c).1 _ z)
theorem DX{ys:List Int}(i:ys.Pairwise (· < ·)):(cells bss g h (ys.zip ys.tail)).Pairwise Apart:=by
 unfold cells;rw[List.pairwise_flatMap];refine⟨λp _=>?_,?_⟩
 ·unfold uM;rw[List.pairwise_map];refine((qK (aT _)).sublist List.filter_sublist).imp ?_;rintro a b c x y ⟨_,d,_⟩ ⟨e,_⟩;simp only at d e;lia
 ·refine(qK i).imp ?_;rintro a b c r j k f x y ⟨_,_,_,d⟩ ⟨_,_,e,_⟩;obtain⟨t,_,rfl⟩:=aG0.mp j;obtain⟨t',_,rfl⟩:=aG0.mp f;simp only at d e;lia
theorem GZ{mh M:MH}(b:b9 mh M):∀{a:List Nat} {bss:List (List Bool)},a.map (λk=>mh[k]?)=bss.map (λbs=>some (MO.lst (bs.map .bl)))->a.map (λk=>M[k]?)=bss.map (λbs=>some (MO.lst (bs.map .bl)))
 | [],[],_=>rfl
 | [],_::_,h=>by cases h
 | _::_,[],h=>by cases h
 | m::a,bs::bss,h=>by
  simp only[List.map_cons,List.cons.injEq]at h⊢;exact⟨b.old h.1,GZ b h.2⟩
theorem HX{p t:P2}{ts:List P2}:uM bss g h p (ts++[t])=uM bss g h p ts++(if kept bss g h p.1 t.1=true then [⟨t.1,p.1,t.2,p.2⟩] else []):=by
 unfold uM;rw[List.filter_append,List.map_append];congr 1;cases hk:kept bss g h p.1 t.1 <;> simp[hk]
theorem BZ{p:P2}{ts:List P2}:(uM bss g h p ts).length<=ts.length:=by
 unfold uM;rw[List.length_map];exact aIw _ _
variable{rs:List R4}
theorem SN{mh M:MH}{E:fY}{w:Nat}{A:List Nat}{p:P2}{m u:Nat}{xs:List Int}{B b c f:Option D}(J:b9 mh M)(K:mh[w]? =some (.lst (A.map .ref)))(C:A.map (λk=>mh[k]?)=bss.map (λbs=>some (MO.lst (bs.map .bl))))
  (G:M[u]? =some (.lst (xs.map .int))) (H:M[m]? =some (.lst (rs.map rD))) (L:mh.length<=m) (F:u≠m) (S:xs.length<=1000) (U:rs.length<=500000) (hg:(rowAt g p.1).length<=4000) (O:(rowAt h p.1).length<=4000)
  (q:∀b c f l,b9 mh l ->l[m]? =some (.lst ((rs++uM bss g h p (xs.zip xs.tail)).map rD))->(∀k o,k≠m->M[k]? =some o->l[k]? =some o)->E.nx [some (gD g),some (gD h),some (.ref w),B,some (.ref m),some (.int p.1),some (.int p.2),some (cR (rowAt g p.1)),some (cR (rowAt h p.1)),some (.ref u),b,c,f] l):
  eM pR BX cQ E [some (gD g),some (gD h),some (.ref w),B,some (.ref m),some (.int p.1),some (.int p.2),some (cR (rowAt g p.1)),some (cR (rowAt h p.1)),some (.ref u),b,c,f] M:=by
 have sz:=aGe;simp[eM];rw[GR (ds:=xs.map .int) G,mX,<-List.map_tail];have I:(M++[MO.lst (xs.tail.map .int)])[u]? =some (.lst (xs.map .int)):=b8 G;rw[bF I,bF (fB _ _)];simp only[bT];refine⟨by simp;lia,?_⟩;rw[zip_map]
 refine cD (λi x l =>(∃b c f,x=[some (gD g),some (gD h),some (.ref w),B,some (.ref m),some (.int p.1),some (.int p.2),some (cR (rowAt g p.1)),some (cR (rowAt h p.1)),some (.ref u),b,c,f])/\b9 mh l /\l[m]? =some (.lst ((rs++uM bss g h p ((xs.zip xs.tail).take i)).map rD))/\(∀k o,k≠m->(M++[MO.lst (xs.tail.map .int)])[k]? =some o->l[k]? =some o)) _ ?_ ?_ ?_
  ⟨⟨_,_,_,rfl⟩,J.push _,by simpa[uM] using b8 H,λk o _ e=>e⟩
 ·rintro i x l ⟨_,_,_,a⟩;have V:=iX H;exact⟨bF (a _ _ F I),bF (a _ _ (by lia) (fB _ _))⟩
 ·rintro i d x l N hi ⟨⟨b,c,f,rfl⟩,s,y,z⟩ nx;obtain⟨t,ht,rfl⟩:=fL hi;have P:i<(xs.zip xs.tail).length:=(aFp.mp ht).1;simp[kN,sD];refine⟨_,_,rfl,hg,_,_,rfl,O,by lia,?_⟩;have n:=s.push (MO.lst [D.bl (eI (rowAt g p.1) t.1),D.bl (eI (rowAt h p.1) t.1)]);have v:=bQ (T:=[MO.lst [D.bl (eI (rowAt g p.1) t.1),D.bl (eI (rowAt h p.1) t.1)]]) y;have Q:=BZ (bss:=bss) (g:=g) (h:=h) (p:=p) (ts:=(xs.zip xs.tail).take i);have j :=HX (bss:=bss) (g:=g) (h:=h) (p:=p) (t:=t) (ts:=(xs.zip xs.tail).take i);rw[<-take_snoc ht]at j;simp[iI];refine⟨w,_,A,bss,[eI (rowAt g p.1) t.1,eI (rowAt h p.1) t.1],rfl,n.old K,rfl,fB _ _,GZ n C,?_⟩;show got (TC (D.bl (kept bss g h p.1 t.1))) _
  cases r:kept bss g h p.1 t.1 with
  | false=>
   simp[TC];rw[r]at j;simp only[Bool.false_eq_true,if_false,List.append_nil]at j;exact nx _ _ ⟨⟨_,_,_,rfl⟩,n,by rw[j];exact v,λk o r e=>b8 (z k o r e)⟩
  | true=>
   simp[TC];rw[r]at j;simp only[if_true]at j;rw[dJ v];have R:=iX v;refine⟨⟨rfl,_,v⟩,by lia,by simp at Q⊢;lia,nx _ _ ⟨⟨_,_,_,rfl⟩,n.set L _,?_,λk o r e=>get_set (b8 (z k o r e)) (aGr r)⟩⟩;rw[cS _ v,j];simp[rD]
 ·rintro x l ⟨⟨b,c,f,rfl⟩,s,y,z⟩;simp only[List.length_map,List.take_length]at y;exact q _ _ _ l s y λk o r e=>z k o r (b8 e)
def J5(X:List Int)(g:List Bd):Prop:=g.length<=100/\∀b∈g,b.ln.length<=100/\∀t∈b.ln,t.1∈X/\t.2∈X
def iO:OA:=λds mh Q=>∃(g h:List Bd) (w:Nat) (a:List Nat) (bss:List (List Bool)) (X:List Int),ds=[gD g,gD h,.ref w]/\mh[w]? =some (.lst (a.map .ref))/\a.map (λk=>mh[k]?)=bss.map (λbs=>some (MO.lst (bs.map .bl)))/\[false,false]∉bss/\fZ g/\fZ h/\J5 X g/\J5 X h/\X.length<=1000/\
 ∀r,fZ r->(r.length<=1000000/\∀b∈r,b.ln.length<=1000000)->(∀x y,b7 r x y↔kept bss g h y x=true)->Q (gD r) mh
variable{X:List Int}
theorem BC(a:∀b∈g,b.ln.length<=100/\∀t∈b.ln,t.1∈X/\t.2∈X)(c:∀b∈h,b.ln.length<=100/\∀t∈b.ln,t.1∈X/\t.2∈X)(y:Int):(jO g h y).length<=400:=by
 have d:=gR (λb hb=>(a b hb).1) y;have e:=gR (λb hb=>(c b hb).1) y;have:=qR (ends (rowAt g y++rowAt h y));unfold jO;simp[ends]at this⊢
 lia
theorem O5(c:∀b∈g,b.ln.length<=100/\∀t∈b.ln,t.1∈X/\t.2∈X)(d:∀b∈h,b.ln.length<=100/\∀t∈b.ln,t.1∈X/\t.2∈X)(y u:Int)(a:u∈jO g h y):u∈X:=by
 have key:∀t∈rowAt g y++rowAt h y,t.1∈X/\t.2∈X:=λt ht=>by
  rcases aFv.mp ht with z | z
  ·obtain⟨b,hb,z⟩:=qU z;exact(c b hb).2 t z
  ·obtain⟨b,hb,z⟩:=qU z;exact(d b hb).2 t z
 unfold jO ends at a;rw[bL]at a;rcases aFv.mp a with z | z <;> obtain⟨t,ht,rfl⟩:=aG0.mp z
 ·exact(key t ht).1
 ·exact(key t ht).2
theorem NM(ds:List D)(mh:MH)(R:DK)(ok:kW mh)(hs:iO ds mh R):gH pR BX cQ (En mh R) (aI ["_law_one","_law_other","_law_which","_law_ys","_law_rects_here","_law_low","_law_high","_law_left","_law_right","_law_xs","_law_start","_law_end","_law_kept"] ds) mh:=by
 obtain⟨g,h,w,ms,bss,X,rfl,hw,L,h0,cg,ch,s,v,hX,q⟩:=hs;have sz:=aGe;have hg:=s.1;have hh:=v.1;simp[gH,aI,gD];refine⟨by lia,?_⟩;simp only[bC,bT];rw[<-List.map_append];refine gS bD (λb:Bd=>b.lo) D.int (g++h) (by simp) (λb _ N hN=>by simpa[fW,bD] using hN) ?_;refine⟨by lia,?_⟩;refine gS bD (λb:Bd=>b.hi) D.int (g++h) (by simp) (λb _ N hN=>by simpa[fW,bD,i3] using hN) ?_;rw[zC (i:=((g++h).map λb=>b.lo).map .int) (j:=((g++h).map λb=>b.hi).map .int) (by simp) (by simp)];refine⟨by simp;lia,((g++h).map (λb=>b.lo)++(g++h).map λb=>b.hi).map Sum.inl,?_,_,λk O=>O,by simp;lia,by rw[<-d9];exact lP _,λkk P nd A l=>?_⟩
 ·rw[u4 (fB _ _),<-d9];simp
 have Q:=mP P nd l;rw[Q];have S:(cO ((g++h).map (λb=>b.lo)++(g++h).map λb=>b.hi)).length<=400:=by have:=aGs List.length Q;simp only[List.length_map]at this;simp at A;lia
 have m:=aT ((g++h).map (λb=>b.lo)++(g++h).map λb=>b.hi)
 have B:∀b∈g,b.lo∈cO ((g++h).map (λb=>b.lo)++(g++h).map λb=>b.hi)/\b.hi∈cO ((g++h).map (λb=>b.lo)++(g++h).map λb=>b.hi):=λb hb=>by
  rw[bL,bL];exact⟨aG6 _ (aG0.mpr ⟨b,aG6 _ hb,rfl⟩),aFz _ (aG0.mpr ⟨b,aG6 _ hb,rfl⟩)⟩
 have C:∀b∈h,b.lo∈cO ((g++h).map (λb=>b.lo)++(g++h).map λb=>b.hi)/\b.hi∈cO ((g++h).map (λb=>b.lo)++(g++h).map λb=>b.hi):=λb hb=>by
  rw[bL,bL];exact⟨aG6 _ (aG0.mpr ⟨b,aFz _ hb,rfl⟩),aFz _ (aG0.mpr ⟨b,aFz _ hb,rfl⟩)⟩
 generalize cO ((g++h).map (λb=>b.lo)++(g++h).map λb=>b.hi)=ys at Q S m B C⊢;have T:b9 mh (((mh++[MO.lst (((g++h).map λb=>b.lo).map .int)])++[MO.lst (((g++h).map λb=>b.hi).map .int)])++[MO.lst ((((g++h).map λb=>b.lo).map .int)++(((g++h).map λb=>b.hi).map .int))]):=((b9.refl.push _).push _).push _;generalize ((mh++[MO.lst (((g++h).map λb=>b.lo).map .int)])++[MO.lst (((g++h).map λb=>b.hi).map .int)])++[MO.lst ((((g++h).map λb=>b.lo).map .int)++(((g++h).map λb=>b.hi).map .int))]=M at T⊢;simp[lH,lG];rw[GR (ds:=ys.map .int) (by simp),mX,<-List.map_tail];have hml:=T.le;have E:b9 mh (M++[MO.lst (ys.map .int),.lst []]++[.lst (ys.tail.map .int)]):=(T.app _).app _;have U:(M++[MO.lst (ys.map .int),.lst []]++[.lst (ys.tail.map .int)])[M.length]? =some (.lst (ys.map .int)):=by simp
 have g2:(M++[MO.lst (ys.map .int),.lst []]++[.lst (ys.tail.map .int)])[M.length+1]? =some (.lst []):=by simp
 have V:(M++[MO.lst (ys.map .int),.lst []]++[.lst (ys.tail.map .int)])[M.length+2]? =some (.lst (ys.tail.map .int)):=by simp
 rw[show (M++[MO.lst (ys.map .int),MO.lst []]).length=M.length+2 by simp];generalize M++[MO.lst (ys.map .int),.lst []]++[.lst (ys.tail.map .int)]=M2 at U g2 V E⊢;rw[bF U,bF V];simp only[bT];refine⟨by simp;lia,?_⟩;rw[zip_map]
 have J4:∀ps:List P2,ps.length<=400->(cells bss g h ps).length<=400*ps.length:=λps _=>by
  induction ps with
  | nil=>simp[cells]
  | cons p ps ihp=>
   have xl:=BC s.2 v.2 p.1;have rl:=BZ (bss:=bss) (g:=g) (h:=h) (p:=p) (ts:=(jO g h p.1).zip (jO g h p.1).tail);have:=ihp (by simp at*;lia);simp[cells]at rl this⊢
   lia
 refine cD (λi I n =>(∃W Y Z a8 a9 c e f,I=[some (gD g),some (gD h),some (.ref w),some (.ref M.length),some (.ref (M.length+1)),W,Y,Z,a8,a9,c,e,f])/\b9 mh n /\n[M.length+1]? =some (.lst ((cells bss g h ((ys.zip ys.tail).take i)).map rD))/\n[M.length]? =some (.lst (ys.map .int))/\n[M.length+2]? =some (.lst (ys.tail.map .int))) _ ?_ ?_ ?_
  ⟨⟨none,none,none,none,none,none,none,none,rfl⟩,E,by simpa[cells] using g2,U,V⟩
 ·rintro i I n ⟨_,_,_,a,b⟩;exact⟨bF a,bF b⟩
 ·rintro i d I n N hi ⟨⟨W,Y,Z,a8,a9,c,e,f,rfl⟩,o,F,b2,b3⟩ nx;obtain⟨p,G,rfl⟩:=fL hi;have H:i<(ys.zip ys.tail).length:=(aFp.mp G).1;simp[kO,iK,sD];refine⟨g,p.1,rfl,by lia,?_⟩;refine⟨h,p.1,rfl,by lia,?_⟩;have r1:=gR (λb hb=>(s.2 b hb).1) p.1;have r2:=gR (λb hb=>(v.2 b hb).1) p.1;have fw:=J4 ((ys.zip ys.tail).take i) (by simp at H⊢;lia);simp[iJ];simp[cR];refine⟨by lia,?_⟩;simp only[bC,bT];rw[<-List.map_append];refine gS sD (λt:P2=>t.1) D.int (rowAt g p.1++rowAt h p.1) (by simp) (λb _ N hN=>by simpa[fW,sD] using hN) ?_;refine⟨by lia,?_⟩;refine gS sD (λt:P2=>t.2) D.int (rowAt g p.1++rowAt h p.1) (by simp) (λb _ N hN=>by simpa[fW,sD,i3] using hN) ?_;rw[zC (i:=((rowAt g p.1++rowAt h p.1).map λt=>t.1).map .int) (j:=((rowAt g p.1++rowAt h p.1).map λt=>t.2).map .int) (by simp) (by simp)];refine⟨by simp;lia,(ends (rowAt g p.1++rowAt h p.1)).map Sum.inl,?_,_,λk O=>O,by simp[ends];lia,by rw[<-d9];exact lP _,λkk P nd A l=>?_⟩
  ·rw[u4 (fB _ _),<-d9];simp[ends]
  have ex:=mP P nd l;rw[ex];have px4:=(((o.push (MO.lst (((rowAt g p.1++rowAt h p.1).map λt=>t.1).map .int))).push (MO.lst (((rowAt g p.1++rowAt h p.1).map λt=>t.2).map .int))).push (MO.lst (((rowAt g p.1++rowAt h p.1).map λt=>t.1).map .int++((rowAt g p.1++rowAt h p.1).map λt=>t.2).map .int))).push (MO.lst ((jO g h p.1).map .int));have hlt:=iX F;have xl:=BC s.2 v.2 p.1;refine SN (xs:=jO g h p.1) px4 hw L (fB _ _) (bQ (bQ (bQ (bQ F)))) (by lia) (by simp;lia) (by lia) (by simp at H fw;lia) (by lia) (by lia) λc e f M5 px5 J K=>?_;refine nx _ _ ⟨⟨_,_,_,_,_,_,_,_,rfl⟩,px5,?_,K _ _ (by lia) (bQ (bQ (bQ (bQ b2)))),K _ _ (by lia) (bQ (bQ (bQ (bQ b3))))⟩;rw[J,take_snoc G];simp[cells]
 ·rintro I n ⟨⟨W,Y,Z,a8,a9,c,e,f,rfl⟩,o,F,b2,b3⟩;simp only[List.length_map,List.take_length]at F;simp[lF];obtain⟨J,K⟩:=OC (bss:=bss) cg ch h0 m B C;have cl:=J4 (ys.zip ys.tail) (by simp;lia);refine EV X ys F ?_ (by lia) (by lia) J (λr hr=>?_) (DX m) ?_
  ·simp at cl;lia
  ·obtain⟨p,G,t,ht,_,rfl⟩:=mS.mp hr;have z:=λu=>O5 s.2 v.2 p.1 u;exact⟨z _ (aH4 ht).1,z _ (aIc (aH4 ht).2),(aH4 G).1,aIc (aH4 G).2⟩
  ·obtain⟨d1,d2⟩:=uO (λr hr=>J r hr);exact o.out ok (by simp[gD,cV,pT]) (q _ d1 ⟨by have:=xH (cells bss g h (ys.zip ys.tail));simp at cl;lia,λb hb=>by have:=LR.B6 b hb;simp at cl;lia⟩ λx y=>(d2 x y).trans (K x y))
theorem GV{mh:MH}{n:Nat}{Q:DK}(b:mh[n]? =some (.lst (rs.map rD)))(c:rs.length<=1000)(q:Q (gD (fT rs)) mh):cQ [.ref n] mh Q:=
 ⟨n,rs,rs.map (·.y0)++rs.map (·.y1),rfl,b,by lia,λr a=>⟨aG6 _ (aG0.mpr ⟨r,a,rfl⟩),aFz _ (aG0.mpr ⟨r,a,rfl⟩)⟩,by simp;lia,λlo hi _=>by
  have:(aL rs lo hi).length<=rs.length:=by unfold aL;rw[List.length_map];exact aIw _ _
  lia,q⟩
theorem GU(d:∀r∈rs,r.ok)(i:rs.length<=24)(e:∀r∈rs,r.x0∈X/\r.x1∈X):fZ (fT rs)/\J5 X (fT rs):=by
 have a:∀r∈rs,Good r:=λr c=>(d r c).2.2.2.2;refine⟨(uO a).1,by have:=xH rs;lia,λb hb=>⟨by have:=(IA d b hb).2.2.1;lia,λt ht=>?_⟩⟩;have c:(⟨t.1,b.lo,t.2,b.hi⟩:R4)∈LD (fT rs):=aGz.mpr ⟨b,hb,aG0.mpr ⟨t,ht,rfl⟩⟩;obtain⟨_,f,g,_⟩:=IB a c
 have z:∀u,u∈rs.map (·.x0)++rs.map (·.x1)->u∈X:=λu h=>by
  rcases aFv.mp h with z | z <;> obtain⟨r,c,rfl⟩:=aG0.mp z
  ·exact(e r c).1
  ·exact(e r c).2
 exact⟨z _ f,z _ g⟩
theorem J5.J4(h:J5 X g):ZJ 100 g:=λb hb=>(h.2 b hb).1
theorem SE{P:Prop->Prop->Prop}(c:∀a b:Bool,bss.elem [a,b]=true↔P (a=true) (b=true))(d:fZ g)(ch:fZ h)(x y:Int):kept bss g h y x=true↔P (b7 g x y) (b7 h x y):=by
 unfold kept;rw[c,jH d,jH ch]
theorem CC:∀l:List P2,dC (l.map sD)=true/\cK (l.map sD)<=1
 | []=>by simp[dC,cK]
 | r::l=>by
  have:=CC l;simp only[List.map_cons,dC,cK,this.1,Bool.and_true];simp only[sD,LS.plain,dC,deep,cK];refine⟨rfl,by lia⟩
theorem CD:∀l:List Bd,(∀b∈l,b.ln.length<=1000000)->dC (l.map bD)=true/\cK (l.map bD)<=3
 | [],_=>by simp[dC,cK]
 | b::l,h=>by
  have:=CD l λc a=>h c (aFt _ a);have s:=CC b.ln;have hb:=h b aFs;simp only[List.map_cons,dC,cK,this.1,Bool.and_true];simp only[bD,cR,LS.plain,dC,deep,cK,s.1,Bool.true_and,Bool.and_true];refine⟨by simpa using hb,by lia⟩
theorem LU(a:g.length<=1000000)(h:∀b∈g,b.ln.length<=1000000):LS.plain (gD g)=true/\deep (gD g)<=4:=by
 have:=CD g h;simp only[gD,LS.plain,deep,this.1,Bool.true_and];exact⟨by simpa using a,by lia⟩
theorem G4{P:Prop->Prop->Prop}(bss:List (List Bool))(c:List Nat)(h0:[false,false]∉bss)(i:∀a b:Bool,bss.elem [a,b]=true↔P (a=true) (b=true)){M:MH}{n:Nat}{Q:DK}(e:fZ g)(ch:fZ h)(j:J5 X g)(l:J5 X h)(m:X.length<=1000)
  (o:M[n]? =some (.lst (c.map .ref))) (d:c.map (λk=>M[k]?)=bss.map (λbs=>some (MO.lst (bs.map .bl)))) (q:∀r,fZ r->(LS.plain (gD r)=true/\deep (gD r)<=4)->(∀x y,b7 r x y↔P (b7 g x y) (b7 h x y))->Q (gD r) M):iO [gD g,gD h,.ref n] M Q:=
 ⟨g,h,n,c,bss,X,rfl,o,d,h0,e,ch,j,l,m,λr p f s=>q r p (LU f.1 f.2) λx y=>(s x y).trans (SE i e ch x y)⟩
theorem zI{P:Prop->Prop->Prop}{g h r:List Bd}{M:MH}{Q:DK}(c:fZ g)(ch:fZ h)(a:J5 X g)(b:J5 X h)(d:fZ r)(e:∀x y,b7 r x y↔P (b7 g x y) (b7 h x y))(q:Q (gD r) M):sOp P [gD g,gD h] M Q:=
 ⟨g,h,100,100,rfl,c,ch,by have:=a.1;have:=b.1;lia,a.J4,b.J4,by lia,λj f i _ _=>by rw[DZ f d λx y=>(i x y).trans (e x y).symm];exact q⟩
theorem gt(M T:MH)(k:Nat):(M++T)[M.length+k]? =T[k]? :=by rw[List.getElem?_append_right (Nat.le_add_right _ _),Nat.add_sub_cancel_left]
theorem body{E:fY}{z A B C F n o:Option D}{M:MH}(k:fZ g)(ch:fZ h)(l:J5 X g)(m:J5 X h)(y:X.length<=1000)(nx:∀F n o u,E.nx [z,A,B,C,some (gD g),some (gD h),F,n,o] u):
  jP BY jF cQ lT iO uK jW uL (kR 6) E [z,A,B,C,some (gD g),some (gD h),F,n,o] M:=by
 have sz:=aGe;simp[jP];refine⟨by lia,by lia,?_⟩
 refine G4 (P:=And) [[true,true]] [M.length] (by decide) (λa b=>by cases a <;> cases b <;> simp) k ch l m y (by simp) (by simp) λe Q J R=>⟨by lia,?_⟩
 have hd:(M++[MO.lst [D.bl true,D.bl true],MO.lst [D.ref M.length]]++[MO.lst [gD e]])[(M++[MO.lst [D.bl true,D.bl true],MO.lst [D.ref M.length]]).length]? =some (.lst [gD e]):=fB _ _;generalize (M++[MO.lst [D.bl true,D.bl true],MO.lst [D.ref M.length]]).length=v at hd⊢;generalize M++[MO.lst [D.bl true,D.bl true],MO.lst [D.ref M.length]]++[MO.lst [gD e]]=c at hd⊢;clear M;simp[tG];refine⟨⟨rfl,_,hd⟩,by lia,by lia,?_⟩;refine G4 (P:=Or) [[true,true],[true,false],[false,true]] [c.length,c.length+1,c.length+1+1] (by decide) (λa b=>by cases a <;> cases b <;> simp) k ch l m y (gt c _ 3) (by simp only[List.map_cons,List.map_nil,List.cons.injEq];exact⟨gt c _ 0,gt c _ 1,gt c _ 2,trivial⟩) λp S K U=>?_;have q:=bQ (T:=[MO.lst [D.bl true,D.bl true],MO.lst [D.bl true,D.bl false],MO.lst [D.bl false,D.bl true],MO.lst [D.ref c.length,D.ref (c.length+1),D.ref (c.length+1+1)]]) hd;rw[dJ q];refine⟨by simp;lia,?_⟩;have f:=cS (MO.lst ([gD e]++[gD p])) q;generalize (c++[MO.lst [D.bl true,D.bl true],MO.lst [D.bl true,D.bl false],MO.lst [D.bl false,D.bl true],MO.lst [D.ref c.length,D.ref (c.length+1),D.ref (c.length+1+1)]]).set v (MO.lst ([gD e]++[gD p]))=M2 at f⊢;clear hd q c;simp[tF];refine⟨⟨rfl,_,f⟩,by lia,by lia,?_⟩;refine G4 (P:=λa b=>a/\¬b) [[true,false]] [M2.length] (by decide) (λa b=>by cases a <;> cases b <;> simp) k ch l m y (gt M2 _ 1) (by simp) λw V L W=>?_;have r:=bQ (T:=[MO.lst [D.bl true,D.bl false],MO.lst [D.ref M2.length]]) f;rw[dJ r];refine⟨by simp;lia,?_⟩;have j:=cS (MO.lst ([gD e]++[gD p]++[gD w])) r;generalize (M2++[MO.lst [D.bl true,D.bl false],MO.lst [D.ref M2.length]]).set v (MO.lst ([gD e]++[gD p]++[gD w]))=t at j⊢;clear f r M2;simp[tE];refine⟨⟨rfl,_,j⟩,by lia,by lia,?_⟩;refine G4 (P:=λa b=>b/\¬a) [[false,true]] [t.length] (by decide) (λa b=>by cases a <;> cases b <;> simp) k ch l m y (gt t _ 1) (by simp) λG Y O Z=>?_;have s:=bQ (T:=[MO.lst [D.bl false,D.bl true],MO.lst [D.ref t.length]]) j;rw[dJ s];refine⟨by simp;lia,?_⟩;have x:=cS (MO.lst ([gD e]++[gD p]++[gD w]++[gD G])) s;generalize (t++[MO.lst [D.bl false,D.bl true],MO.lst [D.ref t.length]]).set v (MO.lst ([gD e]++[gD p]++[gD w]++[gD G]))=M4 at x⊢;clear j s t;simp[tD];refine⟨by lia,?_⟩;refine cD (λi H u =>(∃n o,H=[z,A,B,C,some (gD g),some (gD h),some (.ref v),n,o])/\u[v]? =some (.lst ([gD e]++[gD p]++[gD w]++[gD G]))) _ (λ_ _ _ _=>trivial) ?_ ?_ ⟨⟨_,_,rfl⟩,x⟩
 ·rintro i d H u N hi ⟨⟨n,o,rfl⟩,hd⟩ I;obtain⟨_,rfl⟩:=sR hi;simp[BH];refine zI k ch l m Q R ?_;refine zI k ch l m S U ?_;refine zI k ch l m V W ?_;refine zI ch k m l Y Z ?_;refine⟨by lia,?_⟩;simp[tB];refine K5 (fB _ _) (b8 hd) ?_ ?_ (by simp) ?_
  ·simp[dC,J.1,K.1,L.1,O.1]
  ·have:=J.2;have:=K.2;have:=L.2;have:=O.2;simp[cK];lia
  ·simp[jA];exact I _ _ ⟨⟨_,_,rfl⟩,b8 hd⟩
 ·rintro H u ⟨⟨n,o,rfl⟩,hd⟩;exact nx _ _ _ _
theorem aC4(ds:List D)(mh:MH)(R:DK)(ok:kW mh)(G:v9 ds mh R):GB BY jF cQ lT iO uK jW uL (kR 6) (En mh R) (aI ["_law_script","_law_at","_law_bag_here","_law_how","_law_one","_law_other","_law_due","_law_again","_law_told"] ds) mh:=by
 obtain⟨ns,rfl,H,q⟩:=G;have sz:=aGe;simp[GB,aI];refine⟨by split <;> (try split) <;> lia,by split <;> (try split) <;> lia,?_⟩;refine cD (λi u _=>∃a b c d e f g h,u=[some (.fl (ns.map .int)),a,b,c,d,e,f,g,h]) _ (λ_ _ _ _=>trivial) ?_ ?_ ⟨_,_,_,_,_,_,_,_,rfl⟩
 ·rintro i d u n N hi ⟨a,b,c,d',e,f,g,h,rfl⟩ nx;obtain⟨s,rfl⟩:=sR hi
  have I:i<8:=by
   revert s;split <;> (try split) <;> intro s <;> lia
  simp[BI];refine TB H (by lia) (by lia) λJ ho K=>?_;obtain⟨o,rfl⟩:=ho;simp[tK];refine⟨_,_,rfl,by lia,by lia,K,λp L h0 W O=>?_⟩;simp[tJ];refine LR.B8 (by lia) (by lia) O.1 λj v w x P=>?_;refine GV (fB _ _) (by simp at w;lia) ?_;simp[tI]
  have Q:wU (v++[.lst (j.map rD)]) n.length:=by
   obtain⟨c,m,e,z⟩:=P.1;exact⟨c,m,b8 e,z⟩
  refine LR.B8 (by lia) (by lia) Q λl y A B Y=>?_;refine GV (fB _ _) (by simp at A;lia) ?_
  obtain⟨C,E⟩:=GU (X:=(j++l).map (·.x0)++(j++l).map (·.x1)) x (by simpa using w) λr t=>⟨aG6 _ (aG0.mpr ⟨r,aG6 _ t,rfl⟩),aFz _ (aG0.mpr ⟨r,aG6 _ t,rfl⟩)⟩
  obtain⟨ch,S⟩:=GU (X:=(j++l).map (·.x0)++(j++l).map (·.x1)) B (by simpa using A) λr t=>⟨aG6 _ (aG0.mpr ⟨r,aFz _ t,rfl⟩),aFz _ (aG0.mpr ⟨r,aFz _ t,rfl⟩)⟩
  have T:((j++l).map (·.x0)++(j++l).map (·.x1)).length<=1000:=by simp at w A⊢;lia
  simp[tH]
  have fin:∀(k:List Bd) (M:MH),fZ k->J5 ((j++l).map (·.x0)++(j++l).map (·.x1)) k->jP BY jF cQ lT iO uK jW uL (kR 6) {nx:=N,rt:=λd n=>Out (List.length mh) d n R,bk:=yU BY jF cQ lT iO uK jW uL (kR 6) (En mh R),ct:=N}
    [some (D.fl (List.map D.int ns)),some (D.int ↑i),some (D.ref (List.length n)),some (D.int p),some (gD (fT j)),some (gD k),f,g,h] M:=λk M U V=>
   body C U E V T λ_ _ _ _=>nx _ _ ⟨_,_,_,_,_,_,_,_,rfl⟩
  by_cases F:p<2
  ·rw[if_pos F];refine⟨by lia,?_⟩;rw[eX (gt y _ 1)];have:p=0\/p=1:=by lia
   rcases this with rfl | rfl
   ·simp;exact fin _ _ C E
   ·simp[i3];exact fin [] _ ⟨by simp,by simp,by simp,by simp,by simp⟩ ⟨by simp,by simp⟩
  ·rw[if_neg F];exact fin _ _ ch S
 ·rintro u n ⟨a,b,c,d,e,f,g,h,rfl⟩;simp[yU];exact cC (q _)
variable{P:List Value->Prop}
theorem aEy(us:List Value)(b:us.length=0)(h:P []):P us:=by
 cases us with
 | nil=>exact h
 | cons a us=>cases b
theorem aBk(us:List Value)(b:us.length=1)(h:∀c,P [c]):P us:=by
 cases us with
 | nil=>cases b
 | cons a us=>exact aEy (P:=λus=>P (a::us)) us (Nat.succ.inj b) (h a)
theorem aBj(us:List Value)(b:us.length=2)(h:∀c d,P [c,d]):P us:=by
 cases us with
 | nil=>cases b
 | cons a us=>exact aBk (P:=λus=>P (a::us)) us (Nat.succ.inj b) (h a)
theorem aEx(us:List Value)(b:us.length=3)(h:∀c d e,P [c,d,e]):P us:=by
 cases us with
 | nil=>cases b
 | cons a us=>exact aBj (P:=λus=>P (a::us)) us (Nat.succ.inj b) (h a)
variable{ps:List Str}
theorem OG{x:Str}{st:Stmt}(h:∀kV doc pm an cdv ct g,bindArgs (PySem.W.fnOf x x (eW st) (cJ st) (aC st) .none kV doc pm an cdv ct) ⟨[g],[]⟩=pure (ps.zip [g]))(i:ps.length=1:=by rfl):cE x st ps:=λa b c d e f us j=>aBk (P:=λus=>bindArgs _ ⟨us,[]⟩=pure (List.zip _ us)) us (j.trans i) (h a b c d e f)
theorem wO{x:Str}{st:Stmt}(h:∀kV doc pm an cdv ct g i,bindArgs (PySem.W.fnOf x x (eW st) (cJ st) (aC st) .none kV doc pm an cdv ct) ⟨[g,i],[]⟩=pure (ps.zip [g,i]))(j:ps.length=2:=by rfl):cE x st ps:=λa b c d e f us k=>aBj (P:=λus=>bindArgs _ ⟨us,[]⟩=pure (List.zip _ us)) us (k.trans j) (h a b c d e f)
theorem OF{x:Str}{st:Stmt}(h:∀kV doc pm an cdv ct g i j,bindArgs (PySem.W.fnOf x x (eW st) (cJ st) (aC st) .none kV doc pm an cdv ct) ⟨[g,i,j],[]⟩=pure (ps.zip [g,i,j]))(k:ps.length=3:=by rfl):cE x st ps:=λa b c d e f us l=>aEx (P:=λus=>bindArgs _ ⟨us,[]⟩=pure (List.zip _ us)) us (l.trans k) (h a b c d e f)
theorem JV:cE "joined" jC ["bands"]:=OG λ_ _ _ _ _ _ _=>rfl
theorem JU:cE "paired" jB ["edges"]:=OG λ_ _ _ _ _ _ _=>rfl
theorem AU:cE "row_mixed" eO ["one","other","kept"]:=OF λ_ _ _ _ _ _ _ _ _=>rfl
theorem FY:cE "rows_at" gX ["region","cuts"]:=wO λ_ _ _ _ _ _ _ _=>rfl
theorem OH:cE "mixed" lQ ["one","other","kept"]:=OF λ_ _ _ _ _ _ _ _ _=>rfl
theorem S9:cE "both" pH ["one","other"]:=wO λ_ _ _ _ _ _ _ _=>rfl
theorem JW:cE "either" jD ["one","other"]:=wO λ_ _ _ _ _ _ _ _=>rfl
theorem S8:cE "less" pG ["one","other"]:=wO λ_ _ _ _ _ _ _ _=>rfl
theorem D2:cE "_law_bag" fS ["_law_script","_law_at"]:=wO λ_ _ _ _ _ _ _ _=>rfl
theorem AV:cE "_law_take" eP ["_law_bag_here","_law_many"]:=wO λ_ _ _ _ _ _ _ _=>rfl
theorem vX:cE "_law_number" dB ["_law_bag_here","_law_sort","_law_some"]:=OF λ_ _ _ _ _ _ _ _ _=>rfl
theorem AW:cE "_law_side" eQ ["_law_bag_here","_law_sort","_law_some"]:=OF λ_ _ _ _ _ _ _ _ _=>rfl
theorem wQ:cE "_law_rects" dR ["_law_bag_here","_law_most"]:=wO λ_ _ _ _ _ _ _ _=>rfl
theorem AX:cE "_law_line" eS ["_law_shreds"]:=OG λ_ _ _ _ _ _ _=>rfl
theorem vW:cE "_law_region" dA ["_law_rects_here"]:=OG λ_ _ _ _ _ _ _=>rfl
theorem qE:cE "_law_same" eR ["_law_found","_law_due"]:=wO λ_ _ _ _ _ _ _ _=>rfl
theorem D1:cE "_law_has" fR ["_law_line_here","_law_x"]:=wO λ_ _ _ _ _ _ _ _=>rfl
theorem sG:cE "_law_line_at" cP ["_law_some","_law_y"]:=wO λ_ _ _ _ _ _ _ _=>rfl
theorem wR:cE "_law_mixed" dS ["_law_one","_law_other","_law_which"]:=OF λ_ _ _ _ _ _ _ _ _=>rfl
theorem ZA:cE "law" tY ["_law_script"]:=OG λ_ _ _ _ _ _ _=>rfl
structure Al(w:World)(K:aJj)(mg:aJm):Prop where
 N5:fH K "joined" jC
 N4:fH K "paired" jB
 DP:fH K "row_mixed" eO
 JL:fH K "rows_at" gX
 SW:fH K "mixed" lQ
 YU:fH K "both" pH
 N6:fH K "either" jD
 YS:fH K "less" pG
 FR:fH K "_law_bag" fS
 DQ:fH K "_law_take" eP
 wI:fH K "_law_number" dB
 DS:fH K "_law_side" eQ
 AK:fH K "_law_rects" dR
 DT:fH K "_law_line" eS
 wH:fH K "_law_region" dA
 rY:fH K "_law_same" eR
 FQ:fH K "_law_has" fR
 vO:fH K "_law_line_at" cP
 AL:fH K "_law_mixed" dS
 aCd:fH K "law" tY
 j8:kS K mg "IN_OTHER" (.int 2)
 jK:kS K mg "IN_ONE" (.int 1)
 m6:kS K mg "IN_BOTH" (.int 3)
section
variable {P:Program}{w:World}{K:aJj}{mg:aJm}{base h:Heap}(KX:K.In h)(G:h.Ns mainGlobals mg)(B:Bl mg)(A:Al w K mg)
include KX G B A
theorem DG :Fn P w K mg base 1 "joined" ["bands"] (LR.sQ):=
 eU (wB:=LR.oZ) (k:=0) A.N5 KX G JV xE (by with_reducible exact M8 B) (λds mh R h=>by obtain⟨_,_,rfl,_⟩:=h;rfl) LR.NO
theorem DF :Fn P w K mg base 1 "paired" ["edges"] (LR.pP):=
 eU (wB:=LR.oY) (k:=0) A.N4 KX G JU xD (by with_reducible exact M7 B) (λds mh R h=>by obtain⟨_,_,rfl,_⟩:=h;rfl) LR.NJ
theorem rV :Fn P w K mg base 2 "row_mixed" ["one","other","kept"] (LR.QA):=
 eU (wB:=LR.iD (LR.pP)) (k:=1) A.DP KX G AU pJ (by with_reducible exact CZ B ((DF KX G B A).mono (by lia)) A.j8 A.jK) (λds mh R h=>by obtain⟨_,_,_,rfl,_⟩:=h;rfl) LR.aC3
theorem x8 :Fn P w K mg base 1 "rows_at" ["region","cuts"] (LR.pO):=
 eU (wB:=LR.mM) (k:=0) A.JL KX G FY uH (by with_reducible exact IV B) (λds mh R h=>by obtain⟨_,_,_,rfl,_⟩:=h;rfl) LR.JD
theorem mV :Fn P w K mg base 3 "mixed" ["one","other","kept"] (LR.jV):=
 eU (wB:=LR.sM (LR.pO) (LR.QA) (LR.sQ)) (k:=2) A.SW KX G OH BV (by with_reducible exact SD B ((x8 KX G B A).mono (by lia)) ((rV KX G B A).mono (by lia)) ((DG KX G B A).mono (by lia))) (λds mh R h=>by obtain⟨_,_,_,_,_,rfl,_⟩:=h;rfl) LR.SK
theorem f_both :Fn P w K mg base 4 "both" ["one","other"] (LR.uL):=
 eU (wB:=LR.yV (LR.jV)) (k:=3) A.YU KX G S9 GQ (by with_reducible exact XT B ((mV KX G B A).mono (by lia)) A.m6) (λds mh R h=>by obtain⟨_,_,_,_,rfl,_⟩:=h;rfl) LR.YI
theorem DH :Fn P w K mg base 4 "either" ["one","other"] (LR.jW):=
 eU (wB:=LR.o7 (LR.jV)) (k:=3) A.N6 KX G JW xF (by with_reducible exact M9 B ((mV KX G B A).mono (by lia)) A.m6 A.j8 A.jK) (λds mh R h=>by obtain⟨_,_,_,_,rfl,_⟩:=h;rfl) LR.NP
theorem NY :Fn P w K mg base 4 "less" ["one","other"] (LR.uK):=
 eU (wB:=LR.yT (LR.jV)) (k:=3) A.YS KX G S8 GP (by with_reducible exact XS B ((mV KX G B A).mono (by lia)) A.jK) (λds mh R h=>by obtain⟨_,_,_,_,rfl,_⟩:=h;rfl) LR.YG
theorem vJ :Fn P w K mg base 1 "_law_bag" ["_law_script","_law_at"] (BY):=
 eU (wB:=jT) (k:=0) A.FR KX G D2 rL (by with_reducible exact FF B) (λds mh R h=>by obtain⟨_,_,rfl,_⟩:=h;rfl) aC5
theorem eB :Fn P w K mg base 1 "_law_take" ["_law_bag_here","_law_many"] (jF):=
 eU (wB:=iE) (k:=0) A.DQ KX G AV pK (by with_reducible exact C0 B) (λds mh R h=>by obtain⟨_,_,rfl,_⟩:=h;rfl) YA
theorem n4 :Fn P w K mg base 2 "_law_number" ["_law_bag_here","_law_sort","_law_some"] (LR.pQ):=
 eU (wB:=LR.fJ (jF)) (k:=1) A.wI KX G vX lS (by with_reducible exact wF B ((eB KX G B A).mono (by lia))) (λds mh R h=>by obtain⟨_,_,_,rfl,_⟩:=h;rfl) LR.NK
theorem rW :Fn P w K mg base 3 "_law_side" ["_law_bag_here","_law_sort","_law_some"] (LR.BW):=
 eU (wB:=LR.iF (LR.pQ)) (k:=2) A.DS KX G AW pL (by with_reducible exact C1 B ((n4 KX G B A).mono (by lia))) (λds mh R h=>by obtain⟨_,_,_,rfl,_⟩:=h;rfl) LR.YB
theorem p9 :Fn P w K mg base 4 "_law_rects" ["_law_bag_here","_law_most"] (LR.lT):=
 eU (wB:=LR.gG (jF) (LR.BW)) (k:=3) A.AK KX G wQ nU (by with_reducible exact zT B ((eB KX G B A).mono (by lia)) ((rW KX G B A).mono (by lia))) (λds mh R h=>by obtain⟨_,_,rfl,_⟩:=h;rfl) LR.SJ
theorem rX :Fn P w K mg base 1 "_law_line" ["_law_shreds"] (LR.uJ):=
 eU (wB:=LR.iM) (k:=0) A.DT KX G AX pN (by with_reducible exact C3 B) (λds mh R h=>by obtain⟨_,_,rfl,_⟩:=h;rfl) LR.YF
theorem fQ :Fn P w K mg base 2 "_law_region" ["_law_rects_here"] (LT.cQ):=
 eU (wB:=LT.fI (LR.uJ)) (k:=1) A.wH KX G vW lR (by with_reducible exact wD B ((rX KX G B A).mono (by lia))) (λds mh R h=>by obtain⟨_,_,_,rfl,_⟩:=h;rfl) LT.JE
theorem iR :∀n:Nat,Fn P w K mg base (n+1) "_law_same" ["_law_found","_law_due"] (LS.kR n)
 | 0=>(NW A.rY KX G qE).imp λds mh R h=>by obtain⟨_,⟨_,_,_,h⟩ | ⟨_,_,_,_,_,_,_,h,_⟩⟩:=h <;> lia
 | n+1=>YO (wB:=LS.c9 (LS.kR n)) (k:=n+1) (by lia) A.rY KX G qE pM (by with_reducible exact C2 B (iR n)) (λds mh R h=>by obtain⟨_,⟨_,rfl,_⟩ | ⟨_,_,_,rfl,_⟩⟩:=h <;> rfl) (LS.YC n)
theorem vI :Fn P w K mg base 1 "_law_has" ["_law_line_here","_law_x"] (BX):=
 eU (wB:=jQ) (k:=0) A.FQ KX G D1 rK (by with_reducible exact FE B) (λds mh R h=>by obtain⟨_,_,rfl,_⟩:=h;rfl) YH
theorem mD :Fn P w K mg base 1 "_law_line_at" ["_law_some","_law_y"] (pR):=
 eU (wB:=eN) (k:=0) A.vO KX G sG kP (by with_reducible exact vA B) (λds mh R h=>by obtain⟨_,_,rfl,_⟩:=h;rfl) JF
theorem qA :Fn P w K mg base 3 "_law_mixed" ["_law_one","_law_other","_law_which"] (iO):=
 eU (wB:=gH (pR) (BX) (LT.cQ)) (k:=2) A.AL KX G wR nV (by with_reducible exact zU B ((mD KX G B A).mono (by lia)) ((vI KX G B A).mono (by lia)) ((fQ KX G B A).mono (by lia))) (λds mh R h=>by obtain⟨_,_,_,_,_,_,rfl,_⟩:=h;rfl) NM
theorem R7{b:Addr}  (a:mg "law"=some (.ref b)):
  ∃fd:FuncData,(∀(s:Shared) (u:Value),BindsTo s fd ⟨[u],[]⟩ [("_law_script",u)])/\∀base:Heap,jN P w K mg base D9 8 b fd ["_law_script"] (OR K v9):=
 XO (wB:=GB (BY) (jF) (LT.cQ) (LR.lT) (iO) (LR.uK) (LR.jW) (LR.uL) (LS.kR 6)) (k:=7) KX G a A.aCd K4 ZA (λbase=>by with_reducible exact aBw B ((vJ KX G B A).mono (by lia)) ((eB KX G B A).mono (by lia)) ((fQ KX G B A).mono (by lia)) ((p9 KX G B A).mono (by lia)) ((qA KX G B A).mono (by lia)) ((NY KX G B A).mono (by lia)) ((DH KX G B A).mono (by lia)) ((f_both KX G B A).mono (by lia)) ((iR KX G B A 6).mono (by lia))) aC4
theorem aCz{l:PySem.W.OpenLaw}{b:Addr}  (a:mg "law"=some (.ref b)):
  ∃fd:FuncData,(∀(s:Shared) (u:Value),BindsTo s fd ⟨[u],[]⟩ [("_law_script",u)])/\∀base:Heap,K.In base->base.Ns mainGlobals mg->jN l.prog w K mg base D9 8 b fd ["_law_script"] (OR K v9):=
 let ⟨fd,h1,h2⟩:=R7 KX G B A a
 ⟨fd,h1,λbase _ _=>h2 base⟩
end
noncomputable def m0:Value:= .str "maskwright.regions" 187
noncomputable def m1:Value:= .str "maskwright.mixing" 207
noncomputable def m2:Value:= .str "law_maskwright_k04_regions_mixed" 275
noncomputable def kk:Params->W.Frag:=λP=>(nat_lit 3,⟨.type "dict",none,.dict #[kE P "__name__" 165 (.str "law_maskwright_k04_regions_mixed" 275),kE P "__doc__" 166 .none,kE P "__package__" 167 .none,kE P "__loader__" 168 (.builtin "__main__.__loader__#opaque"),kE P "__spec__" 169 .none,kE P "__annotations__" 170 (.ref 6),kE P "__builtins__" 171 (.ref 4),kE P "__file__" 173 (.str "/claim/cut.py" 172),kE P "__cached__" 174 .none,kE P "joined" 199 (.ref 21),kE P "paired" 206 (.ref 28),kE P "IN_ONE" 210 (.int 1 209),kE P "IN_OTHER" 212 (.int 2 211),kE P "IN_BOTH" 214 (.int 3 213),kE P "row_mixed" 232 (.ref 35),kE P "rows_at" 244 (.ref 42),kE P "mixed" 250 (.ref 47),kE P "both" 258 (.ref 54),kE P "either" 266 (.ref 61),kE P "less" 274 (.ref 68),kE P "_law_bag" 287 (.ref 75),kE P "_law_take" 298 (.ref 82),kE P "_law_number" 307 (.ref 89),kE P "_law_side" 318 (.ref 96),kE P "_law_rects" 324 (.ref 101),kE P "_law_line" 334 (.ref 108),kE P "_law_region" 340 (.ref 113),kE P "_law_same" 346 (.ref 118),kE P "_law_has" 352 (.ref 123),kE P "_law_line_at" 363 (.ref 130),kE P "_law_mixed" 369 (.ref 135),kE P "law" 384 (.ref 142)] 32,#[]⟩)::(nat_lit 20,kD "joined" 189 2 1 197 20)::(nat_lit 21,kF "joined" jC m0 20)::(nat_lit 27,kD "paired" 200 12 1 204 27)::(nat_lit 28,kF "paired" jB m0 27)::(nat_lit 34,kD "row_mixed" 215 18 3 230 34)::(nat_lit 35,kF "row_mixed" eO m1 34)::(nat_lit 41,kD "rows_at" 233 32 2 242 41)::(nat_lit 42,kF "rows_at" gX m1 41)::(nat_lit 46,kC "mixed" 245 41 3 248 46)::(nat_lit 47,kF "mixed" lQ m1 46)::(nat_lit 53,kD "both" 251 47 2 256 53)::(nat_lit 54,kF "both" pH m1 53)::(nat_lit 60,kD "either" 259 49 2 264 60)::(nat_lit 61,kF "either" jD m1 60)::(nat_lit 67,kD "less" 267 51 2 272 67)::(nat_lit 68,kF "less" pG m1 67)::(nat_lit 74,kD "_law_bag" 277 54 2 285 74)::(nat_lit 75,kF "_law_bag" fS m2 74)::(nat_lit 81,kD "_law_take" 288 64 2 296 81)::(nat_lit 82,kF "_law_take" eP m2 81)::(nat_lit 88,kD "_law_number" 299 76 3 305 88)::(nat_lit 89,kF "_law_number" dB m2 88)::(nat_lit 95,kD "_law_side" 308 84 3 316 95)::(nat_lit 96,kF "_law_side" eQ m2 95)::(nat_lit 100,kC "_law_rects" 319 90 2 322 100)::(nat_lit 101,kF "_law_rects" dR m2 100)::(nat_lit 107,kD "_law_line" 325 100 1 332 107)::(nat_lit 108,kF "_law_line" eS m2 107)::(nat_lit 112,kC "_law_region" 335 108 1 338 112)::(nat_lit 113,kF "_law_region" dA m2 112)::(nat_lit 117,kC "_law_same" 341 118 2 344 117)::(nat_lit 118,kF "_law_same" eR m2 117)::(nat_lit 122,kC "_law_has" 347 128 2 350 122)::(nat_lit 123,kF "_law_has" fR m2 122)::(nat_lit 129,kD "_law_line_at" 353 130 2 361 129)::(nat_lit 130,kF "_law_line_at" cP m2 129)::(nat_lit 134,kC "_law_mixed" 364 135 3 367 134)::(nat_lit 135,kF "_law_mixed" dS m2 134)::(nat_lit 141,kD "law" 370 147 1 382 141)::(nat_lit 142,kF "law" tY m2 141)::[]
end K04
open PySem PySem.W PyProof.Rows
set_option maxRecDepth 100000 in
set_option maxHeartbeats 0 in
theorem PySem.Challenge.cw_maskwright_k04_regions_mixed_holds : PySem.Challenge.rw_maskwright_k04_regions_mixed.Holds := by
  w_on; refine D3.aD0 (q := D3.kQ PySem.Challenge.pw_maskwright_k04_regions_mixed [1, 2, 4, 5, 6, 7, 8, 9, 10, 11, 12, 14, 15, 16, 17, 18, 19, 20, 21, 22, 23, 24, 25]) (loose := []) (K := K04.kk) (as := [3, 20, 21, 27, 28, 34, 35, 41, 42, 46, 47, 53, 54, 60, 61, 67, 68, 74, 75, 81, 82, 88, 89, 95, 96, 100, 101, 107, 108, 112, 113, 117, 118, 122, 123, 129, 130, 134, 135, 141, 142]) (N := 1462) (by kernel_rfl) (fun _ => rfl) (fun _ => by kernel_rfl) (by rfl) (by rfl) (by rfl) (by decide +kernel) ⟨rfl, rfl, rfl, rfl, rfl, by decide +kernel⟩ ?hw ?_; (case hw => w_witness2)
  k_fill
  refine D3.walkD (l := PySem.Challenge.rw_maskwright_k04_regions_mixed) (k := 8) (x := "_law_script") rfl rfl ⟨rfl, by decide, by decide⟩ (fun _ _ Y => Y) ?F
  case F =>
    intro w mg fa h KX G hmg
    refine' K04.aCz KX G (D3.bl_mk KX G ?_ ?_ ?_ ?_ ?_ ?_ ?_ ?_ ?_ ?_ ?_ ?_ ?_ ?_ ?_ ?_ ?_ ?_ ?_) ⟨(D3.aD7 ?_ ?_ ?_ ?_), (D3.aD7 ?_ ?_ ?_ ?_), (D3.aD7 ?_ ?_ ?_ ?_), (D3.aD7 ?_ ?_ ?_ ?_), (D3.aD7 ?_ ?_ ?_ ?_), (D3.aD7 ?_ ?_ ?_ ?_), (D3.aD7 ?_ ?_ ?_ ?_), (D3.aD7 ?_ ?_ ?_ ?_), (D3.aD7 ?_ ?_ ?_ ?_), (D3.aD7 ?_ ?_ ?_ ?_), (D3.aD7 ?_ ?_ ?_ ?_), (D3.aD7 ?_ ?_ ?_ ?_), (D3.aD7 ?_ ?_ ?_ ?_), (D3.aD7 ?_ ?_ ?_ ?_), (D3.aD7 ?_ ?_ ?_ ?_), (D3.aD7 ?_ ?_ ?_ ?_), (D3.aD7 ?_ ?_ ?_ ?_), (D3.aD7 ?_ ?_ ?_ ?_), (D3.aD7 ?_ ?_ ?_ ?_), (D3.aD7 ?_ ?_ ?_ ?_), (D3.ZP KX G ?q0), (D3.ZP KX G ?q1), (D3.ZP KX G ?q2)⟩ hmg
    (case q0 => k_is)
    (case q1 => k_is)
    (case q2 => k_is)
    all_goals try k_is
