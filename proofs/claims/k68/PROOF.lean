import PyProof.Rows.All
import Wide.All
import OpenK.AllK
import Wide.FinOn
import Lean
import PyProof.EqAt
import PyProof.EqKinds
import PyProof.TupleCall
import PyProof.NeKinds
import PySem.Challenge.RW_maskwright_k68_reasons_of_tracks
set_option Elab.async false
set_option linter.all false
set_option maxRecDepth 100000
set_option maxHeartbeats 4000000
abbrev aLw:=PySem.W.Frag
set_option compiler.extract_closed false
abbrev aHs:= @PySem.wpAny_bind
abbrev aHt:= @PySem.wpAny_pure
abbrev aHu:= @PySem.Heap.get?_push_of_some
abbrev aHv:= @List.getElem?_eq_some_iff
abbrev aHw:= @Nat.le_refl
abbrev aHx:= @List.mem_cons_self
abbrev aHy:= @PySem.Heap.get?_push_size
abbrev aHz:= @PySem.Heap.lt_size
abbrev aI0:= @List.mem_cons_of_mem
abbrev aI1:= @List.mem_map
abbrev aI2:= @List.mem_of_getElem?
abbrev aI3:= @Option.map_eq_some_iff
abbrev aI4:= @Nat.ne_of_lt
abbrev aI5:= @List.mem_cons
abbrev aI6:= @PySem.wpAny_setField_rec
abbrev aI7:= @PySem.wpAny_call_entry
abbrev aI8:= @PySem.wpAny_callSpecial?_slot
abbrev aI9:= @List.mem_append
abbrev aIa:= @Nat.le_trans
abbrev aIb:= @Nat.lt_of_lt_of_le
abbrev aIc:= @PySem.wpAny_field
abbrev aIe:= @PySem.wpAny_newObj_type
abbrev aIf:= @PySem.sizeLine_eq
abbrev aIg:= @Ne.symm
abbrev aIh:= @List.mem_append_right
abbrev aIi:= @PySem.W.mg_none_of
abbrev aIj:= @PySem.wpAny_holding
abbrev aIk:= @PySem.wpAny_mono
abbrev aIl:= @Classical.byContradiction
abbrev aIm:= @List.getElem?_eq_getElem
abbrev aIn:= @Option.some.inj
abbrev aIo:= @PySem.Heap.SameBut.update
abbrev aIp:= @PySem.mem_of_lookup
abbrev aIq:= @PySem.wpAny_seqItems
abbrev aIr:= @Nat.lt_succ_of_lt
abbrev aIs:= @Nat.lt_succ_self
abbrev aIt:= @PyProof.Rows.callWith_type1
abbrev aIu:= @PySem.F.slot_zip_next
abbrev aIv:= @PyProof.Rows.wpS_bind
abbrev aIw:= @PySem.F.slot_enumerate_next
abbrev aIx:= @Nat.zero_le
abbrev aIy:= @List.mem_filter
abbrev aIz:= @PySem.Heap.get?_update_other
abbrev aJ0:= @PySem.wpAny_rule
abbrev aJ1:= @PyProof.Rows.slot_tuple_getitem
abbrev aJ2:= @List.length_filter_le
abbrev aJ3:= @PySem.Heap.get?_update_self
abbrev aJ4:= @Nat.ne_of_gt
abbrev aJ5:= @PySem.wpAny_attempt
abbrev aJ6:= @Nat.le_of_lt
abbrev aJ7:= @congrArg
abbrev aJ8:= @PySem.wpAny_Call_Name_kw
abbrev aJ9:= @List.mem_of_mem_take
abbrev aJa:= @PySem.wpAny_truthy_bool
abbrev aJb:= @List.mem_iff_getElem?
abbrev aJc:= @Nat.lt_irrefl
abbrev aJd:= @PySem.wpAny_standAt
abbrev aJe:= @PySem.codeAny_builtin
abbrev aJf:= @PySem.wpAny_updateSeq
abbrev aJg:= @PySem.F.slot_dict_keyiterator_next
abbrev aJh:= @PyProof.Rows.wpS_pure
abbrev aJi:= @PySem.wpAny_pyIter_slot
abbrev aJj:= @List.exists_of_findSome?_eq_some
abbrev aJk:= @PySem.Calls.spliced_cons
abbrev aJl:= @PySem.tupleKind_room_in1
abbrev aJm:= @PySem.plainId_quiet
abbrev aJn:= @PySem.wpAny_newTuple
abbrev aJo:= @PySem.wpAny_typeNameOfWhole_keyiter
abbrev aJp:= @PySem.F.slot_dict_setdefault
abbrev aJq:= @List.dropLast_concat_getLast
abbrev aJr:= @PySem.wpAny_letGo
abbrev aJs:= @PySem.wpAny_isInstance
abbrev aJt:= @PySem.F.slot_tuple_iterator_next
abbrev aJu:= @List.getElem?_eq_none_iff
abbrev aJv:= @decide_eq_false
abbrev aJw:= @PySem.wpAny_passesOwn
abbrev aJx:= @List.mem_append_left
abbrev aJy:= @PySem.codeAny_mono
abbrev aJz:= @List.take_sublist
abbrev aK0:= @PySem.wpAny_setState_of
abbrev aK1:= @PySem.F.args_zip_next_1
abbrev aK2:= @PySem.wpAny_setEntries_of
abbrev aK3:= @PySem.Heap.size_push
abbrev aK4:= @PySem.F.entry_zip_next
abbrev aK5:= @PySem.F.args_enumerate_next_1
abbrev aK6:= @PySem.F.called_set
abbrev aK7:= @PySem.F.entry_enumerate_next
abbrev aK8:= @PySem.F.plain_max_loop
abbrev aK9:= @Int.emod_lt_of_pos
abbrev aKa:= @PySem.F.slot_zip_iter
abbrev aKb:= @PySem.wpAny_onRaise
abbrev aKc:= @PySem.W.Looks.of_pure
abbrev aKd:= @PySem.F.slot_enumerate_iter
abbrev aKe:= @PySem.Calls.spliced_nil
abbrev aKf:= @List.mem_iff_getElem
abbrev aKg:= @PySem.wpAny_fieldsOf
abbrev aKh:= @List.getElem?_of_mem
abbrev aKi:= @List.mem_flatten
abbrev aKj:= @List.pairwise_iff_getElem
abbrev aKk:= @PySem.Calls.call_function_entry
abbrev aKl:= @List.exists_mem_of_ne_nil
abbrev aKm:= @beq_eq_false_iff_ne
abbrev aKn:= @PyProof.Rows.F.entry_set_update_loop
abbrev aKo:= @List.map_congr_left
abbrev aKp:= @Option.isSome_iff_exists
abbrev aKq:= @PySem.F.args_tuple_add_2
abbrev aKr:= @List.length_filterMap_le
abbrev aKs:= @List.nodup_cons
abbrev aKt:= @Int.emod_nonneg
abbrev aKu:= @PySem.wpAny_pyIter_tuple
abbrev aKv:= @List.pairwise_cons
abbrev aKw:= @PySem.F.entry_tuple_add
abbrev aKx:= @PySem.wpAny_of_eq
abbrev aKy:= @List.length_eq_zero_iff
abbrev aKz:= @PySem.F.slot_tuple_add
abbrev aL0:= @PySem.wpAny_typeOf
abbrev aL1:= @PySem.Calls.callWith_builtin
abbrev aL2:= @Nat.lt_trans
abbrev aL3:= @List.pairwise_lt_range
abbrev aL4:= @PySem.wpAny_pyIter_list
abbrev aL5:= @PySem.isSubtype_stop
abbrev aL6:= @PyProof.Rows.wpS_forRange
abbrev aL7:= @PySem.wpAny_dictEntries
abbrev aL8:= @List.nodup_append
abbrev aL9:= @Nat.le_of_not_lt
abbrev aLa:= @PySem.wpAny_askSetting
abbrev aLb:= @beq_iff_eq
abbrev aLc:= @PySem.F.args_dict_setdefault_3
abbrev aLd:= @PySem.Calls.evalArgs_plain
abbrev aLe:= @Nat.le_succ
abbrev aLf:= @PySem.F.entry_dict_setdefault
abbrev aLg:= @Nat.pow_le_pow_right
abbrev aLh:= @PySem.wpAny_execs_nil
abbrev aLi:= @PySem.F.type_dict_setdefault
abbrev aLj:= @List.mem_zipIdx_iff_getElem?
abbrev aLk:= @PySem.wpAny_load
abbrev aLl:= @List.mem_filterMap
abbrev aLm:= @Nat.lt_or_eq_of_le
abbrev aLn:= @PySem.wpAny_runValue
abbrev aLo:= @PySem.wpAny_setField
abbrev aLp:= @List.map_inj_right
abbrev aLq:= @List.pairwise_map
abbrev aLr:= @PySem.wpAny_newList
abbrev aLs:= @List.getElem_mem
abbrev aLt:= @List.mem_flatMap
abbrev aLu:= @Nat.le_of_eq
abbrev aLv:= @Nat.succ.inj
abbrev aLx:=PySem.Value->PySem.Shared->Prop
abbrev aLy:=PyProof.Rows.Keyed->PyProof.Rows.Keyed->Bool
abbrev aLz:=PySem.Str->Option PySem.Value
abbrev aM0:=Array PyProof.Rows.Keyed
namespace L2
open PySem PySem.Spec PyProof.Rows
abbrev Key:=Sum Int Str
def yM:Key->Value->Bool
 | .inl k,v=>Value.isInt k v
 | .inr x,v=>Value.isStrOf x v
def aHb(w:World):Key->Int
 | .inl k=>hashInt k
 | .inr x=>hashStr w x
theorem bU:∀{k:Key} {v:Value},yM k v=true->(∃i t,k=Sum.inl i/\v=Value.int i t)\/(∃x t,k=Sum.inr x/\v=Value.str x t)
 | .inl i,v,h=>by
  obtain⟨t,e⟩:=Value.isInt_shape (k:=i) (v:=v) h;exact .inl ⟨i,t,rfl,e⟩
 | .inr x,v,h=>by
  obtain⟨t,e⟩:=Value.isStrOf_shape (x:=x) (v:=v) h;exact .inr ⟨x,t,rfl,e⟩
theorem JX(i:Int)(t:Tok):yM (.inl i) (.int i t)=true:=by simp[yM,Value.isInt]
theorem JW(x:Str)(t:Tok):yM (.inr x) (.str x t)=true:=by simp[yM,Value.isStrOf]
theorem ZW(a b:Int):decide ((Sum.inl a:Key)=Sum.inl b)=(a==b):=by
 by_cases e:a=b
 ·subst e;simp
 ·have h:¬(Sum.inl a:Key)=Sum.inl b:=λq=>e (Sum.inl.inj q);rw[decide_eq_false h];exact(aKm.mpr e).symm
theorem ZT(a b:Str):decide ((Sum.inr a:Key)=Sum.inr b)=decide (a=b):=by
 by_cases e:a=b
 ·subst e;simp
 ·have h:¬(Sum.inr a:Key)=Sum.inr b:=λq=>e (Sum.inr.inj q);rw[decide_eq_false h,decide_eq_false e]
theorem ZV(a:Int)(b:Str):decide ((Sum.inl a:Key)=Sum.inr b)=false:=aJv (λq=>nomatch q)
theorem ZU(a:Str)(b:Int):decide ((Sum.inr a:Key)=Sum.inl b)=false:=aJv (λq=>nomatch q)
def aS(prog:Program)(w:World):PySem.KeyKind prog w Key where
 is:=yM
 hash:=aHb w
 inj:=λv a b f d=>by
  rcases bU f with ⟨i,t,rfl,rfl⟩ | ⟨x,t,rfl,rfl⟩
  ·rcases bU d with ⟨j,u,rfl,e⟩ | ⟨y,u,rfl,e⟩
   ·injection e with c _;rw[c]
   ·exact nomatch e
  ·rcases bU d with ⟨j,u,rfl,e⟩ | ⟨y,u,rfl,e⟩
   ·exact nomatch e
   ·injection e with c _;rw[c]
 byValue:=λk v h=>by
  rcases bU h with ⟨i,t,rfl,rfl⟩ | ⟨x,t,rfl,rfl⟩ <;> rfl
 pyHash:=λhv h=>by
  rcases bU hv with ⟨i,t,rfl,rfl⟩ | ⟨x,t,rfl,rfl⟩
  ·exact wpAny_pyHash_int h
  ·exact wpAny_pyHash_str h
 eqBool:=λg hv h=>by
  rcases bU g with ⟨i,t,rfl,rfl⟩ | ⟨x,t,rfl,rfl⟩
  ·rcases bU hv with ⟨j,u,rfl,rfl⟩ | ⟨y,u,rfl,rfl⟩
   ·rw[ZW]at h;exact wpAny_eqBool_int h
   ·rw[ZV]at h;exact SeqAt.EqAt.int_str i t y u _ _ _ _ h
  ·rcases bU hv with ⟨j,u,rfl,rfl⟩ | ⟨y,u,rfl,rfl⟩
   ·rw[ZU]at h;exact SeqAt.EqAt.str_int x t j u _ _ _ _ h
   ·rw[ZT]at h;exact wpAny_eqBool_str h
 «strs»:=λk x t v h=>by
  rcases bU h with ⟨i,u,rfl,e⟩ | ⟨y,u,rfl,e⟩
  ·exact nomatch e
  ·injection e with c _;subst c;cases v <;> rfl
theorem C2(prog:Program)(w:World)(i:Int)(t:Tok):(aS prog w).is (.inl i) (.int i t)=true:=JX i t
theorem C1(prog:Program)(w:World)(x:Str)(t:Tok):(aS prog w).is (.inr x) (.str x t)=true:=JW x t
inductive V where
 | bT | bl (b:Bool) | int (i:Int) | str (x:Str) | byt (b:Array UInt8) | flt (b:UInt64) | ref (a:Addr) | ty (n:String)
 deriving DecidableEq
def RelV:V->Value->Prop
 | .bT,u=>u=Value.none
 | .bl b,u=>u=Value.bool b
 | .int i,u=>∃t,u=Value.int i t
 | .str x,u=>∃t,u=Value.str x t
 | .byt b,u=>∃t,u=Value.bytes b t
 | .flt b,u=>∃t,u=Value.float b t
 | .ref a,u=>u=Value.ref a
 | .ty n,u=>u=Value.type n
abbrev Vals:List V->List Value->Prop:=Paired RelV
variable{us:List Value}
theorem Vals.length{xs:List V}(r:Vals xs us):xs.length=us.length:=Paired.length r
theorem Vals.get:∀{xs:List V} {us:List Value} {i:Nat} {x:V},Vals xs us->xs[i]? =some x->∃u,us[i]? =some u/\RelV x u
 | _,_,_,_,.nil,e=>by simp at e
 | _,_,0,_,.cons r _,e=>by simp at e;subst e;exact⟨_,rfl,r⟩
 | _,_,i+1,x,.cons _ t,e=>by
  obtain⟨u,a,b⟩:=Vals.get (i:=i) (x:=x) t (by simpa using e);exact⟨u,by simpa using a,b⟩
theorem Vals.set{x:V}{u:Value}(r:RelV x u):∀{xs:List V} {us:List Value} (i:Nat),Vals xs us->Vals (xs.set i x) (us.set i u)
 | _,_,_,.nil=>.nil
 | _,_,0,.cons _ t=>.cons r t
 | _,_,i+1,.cons q t=>.cons q (Vals.set r i t)
theorem Vals.append:∀{xs a:List V} {us b:List Value},Vals xs us->Vals a b->Vals (xs++a) (us++b)
 | _,_,_,_,.nil,s=>s
 | _,_,_,_,.cons r t,s=>.cons r (Vals.append t s)
theorem Vals.take:∀{xs:List V} {us:List Value} (n:Nat),Vals xs us->Vals (xs.take n) (us.take n)
 | _,_,0,_=>.nil
 | _,_,_+1,.nil=>.nil
 | _,_,n+1,.cons r t=>.cons r (Vals.take n t)
theorem Vals.drop:∀{xs:List V} {us:List Value} (n:Nat),Vals xs us->Vals (xs.drop n) (us.drop n)
 | _,_,0,r=>r
 | _,_,_+1,.nil=>.nil
 | _,_,n+1,.cons _ t=>Vals.drop n t
def w4:Option V->Option Value->Prop
 | some v,some u=>RelV v u
 | none,none=>True
 | _,_=>False
def KV{κ:Type}:List (κ×V)->List (κ×Value)->Prop:=Paired λ(p:κ×V) (q:κ×Value)=>p.1=q.1/\RelV p.2 q.2
def kV:Key->V
 | .inl i=>.int i
 | .inr x=>.str x
inductive HO where
 | lst (xs:List V)
 | tup (xs:List V)
 | dK (kvs:List (Key×V)) | dT (kvs:List (List Key×V))
 | set (S:Int->Bool) (n:Nat)
 | ins (C dx:Addr) (fs:List (Str×V))
 | own (x:Addr)
 | xd (fs:List (Str×V))
 | met (f x:Addr)
 | rng (lo hi:Int)
 | tP (o:Obj) (u:HO)
 | tbl (ps:Array Value)
 | ext (φ:World->Heap->Prop)
abbrev Hp:=Addr->Option HO
def upd(H:Hp)(a:Addr)(o:HO):Hp:=λb=>if b=a then some o else H b
variable{H:Hp}{a:Addr}
theorem aR{o:HO}:upd H a o a=some o:=by unfold upd;rw[if_pos rfl]
variable{b:Addr}
theorem aO{o:HO}(h:b≠a):upd H a o b=H b:=by unfold upd;rw[if_neg h]
theorem WH{o u:HO}(h:H a=some o)(h' :H b=some u)(d:o≠u):a≠b:=by
 intro e;subst e;rw[h]at h';exact d (aIn h')
theorem bR{o:HO}(h:H a=some o)(h' :H b=none):a≠b:=by
 intro e;subst e;rw[h]at h';cases h'
theorem uV(h:Heap)(items:Array Value):∀o,(h.push {cls:= .type "tuple",data:= .seq items}).get? h.objs.size=some o->o.dict=none:=λo e=>by rw[Heap.get?_push_size _ rfl]at e;cases e;rfl
section
variable (P:Program)(w:World)
def cV(H:Hp)(h:Heap)(a:Addr):HO->Prop
 | .lst xs=>xs.length<=sizeLine/\∃(aL:List Value) (n:Nat),Vals xs aL/\h.get? a=some {cls:= .type "list",data:= .seq aL.toArray n}
 | .tup xs=>xs.length<=sizeLine/\∃aL:List Value,Vals xs aL/\IsTup h a aL.toArray/\∀o,h.get? a=some o->o.dict=none
 | .dK kvs=>kvs.length<=sizeLine/\(a==sysModules)=false/\∃vs,KV kvs vs/\h.DictOf (aS P w) a vs
 | .dT kvs=>kvs.length<=sizeLine/\(a==sysModules)=false/\∃xs:List (List Key×Addr×Value),
   Paired (λ(p:List Key×V) (q:List Key×Addr×Value)=>p.1=q.1/\H q.2.1=some (.tup (p.1.map kV))/\RelV p.2 q.2.2) kvs xs/\
   ∃o es ep,h.get? a=some o/\o.ExactDict/\o.data= .dict es ep/\es.toList=xs.map (entryOfKey (tupleKind (aS P w)))/\(xs.map (·.1)).Nodup
 | .set S n=>h.SetOf (intKind P w) a S n
 | .ins C dx fs=>H dx=some (.own a)/\fs.length<=1000/\dx≠a/\h.get? a=some (PySem.W.instObj C dx)/\
   ∃b,h.Ns1 dx b/\(∀f,w4 (fs.lookup f) (b f))/\PySem.Within b (fs.map (·.1))
 | .own _=>∃o,h.get? a=some o
 | .xd fs=>∃b,h.Ns1 a b/\∀f,w4 (fs.lookup f) (b f)
 | .rng lo hi=>∃t u v,h.get? a=some {cls:= .type "range",data:= .fields #[.int lo t,.int hi u,.int 1 v]}
 | .tP o u=>h.get? a=some o/\cV H h a u
 | .tbl ps=>h.get? a=some {cls:= .none,data:= .fields ps}
 | .met f x=>h.get? a=some (PySem.W.methodObj (.ref f) (.ref x))
 | .ext φ=>φ w h/\(∃o,h.get? a=some o)/\∀c d:Heap,φ w c->(∀o,c.get? a=some o->d.get? a=some o)->φ w d
def rC(H:Hp)(h:Heap):Prop:=∀a o,H a=some o->cV P w H h a o
end
section
variable {P:Program}{w:World}{H H' :Hp}{h h' :Heap}{a:Addr}{o:HO}
theorem cV.lt(x:cV P w H h a o):a<h.objs.size:=by
 cases o with
 | lst xs=>obtain⟨_,_,_,_,e⟩:=x;exact aHz e
 | tup xs=>obtain⟨_,_,_,p,_⟩:=x;exact p.lt
 | dK kvs=>obtain⟨_,_,_,_,o,_,_,e,_⟩:=x;exact aHz e
 | dT kvs=>obtain⟨_,_,_,_,o,_,_,e,_⟩:=x;exact aHz e
 | set S n=>obtain⟨o,_,_,_,e,_⟩:=x;exact aHz e
 | ins C dx fs=>obtain⟨_,_,_,e,_⟩:=x;exact aHz e
 | own y=>obtain⟨_,e⟩:=x;exact aHz e
 | xd fs=>obtain⟨_,⟨_,_,_,e,_⟩,_⟩:=x;exact aHz e
 | rng lo hi=>obtain⟨_,_,_,e⟩:=x;exact aHz e
 | tP ob u=>obtain⟨e,_⟩:=x;exact aHz e
 | tbl ps=>exact aHz (show h.get? a=some _ from x)
 | met f y=>exact aHz (show h.get? a=some _ from x)
 | ext φ=>obtain⟨_,⟨_,e⟩,_⟩:=x;exact aHz e
theorem Paired.YV{α e:Type}{F G:α->e->Prop}:∀{c:List α} {d:List e},Paired F c d->(∀a b,F a b->G a b)->Paired G c d
 | _,_,.nil,_=>.nil
 | _,_,.cons r t,f=>.cons (f _ _ r) (Paired.YV t f)
theorem cV.xE(x:cV P w H h a o)(k:∀b u,(b=a\/H b=some (.own a))->h.get? b=some u->h'.get? b=some u)
  (ho:∀b,H b=some (.own a)->H' b=some (.own a)) (ht:∀b xs,H b=some (.tup xs)->H' b=some (.tup xs)):cV P w H' h' a o:=by
 induction o with
 | lst xs=>obtain⟨z,aL,n,r,e⟩:=x;exact⟨z,aL,n,r,k _ _ (.inl rfl) e⟩
 | tup xs=>obtain⟨z,aL,r,⟨ob,e,c⟩,nd⟩:=x;exact⟨z,aL,r,⟨ob,k _ _ (.inl rfl) e,c⟩,λo' i =>by rw[k _ _ (.inl rfl) e]at i;cases i;exact nd _ e⟩
 | dK kvs=>obtain⟨z,y,vs,r,ob,es,ep,e,c⟩:=x;exact⟨z,y,vs,r,ob,es,ep,k _ _ (.inl rfl) e,c⟩
 | dT kvs=>
  obtain⟨z,y,xs,r,ob,es,ep,e,c⟩:=x;exact⟨z,y,xs,Paired.YV r λp q z=>⟨z.1,ht _ _ z.2.1,z.2.2⟩,ob,es,ep,k _ _ (.inl rfl) e,c⟩
 | set S n=>obtain⟨ob,es,ep,t,e,c⟩:=x;exact⟨ob,es,ep,t,k _ _ (.inl rfl) e,c⟩
 | ins C dx fs=>
  obtain⟨d,z,ne,e,g,⟨od,es,ep,j,c⟩,r⟩:=x;exact⟨ho _ d,z,ne,k _ _ (.inl rfl) e,g,⟨od,es,ep,k _ _ (.inr d) j,c⟩,r⟩
 | own y=>obtain⟨ob,e⟩:=x;exact⟨ob,k _ _ (.inl rfl) e⟩
 | xd fs=>obtain⟨g,⟨od,es,ep,e,c⟩,r⟩:=x;exact⟨g,⟨od,es,ep,k _ _ (.inl rfl) e,c⟩,r⟩
 | rng lo hi=>obtain⟨t,u,v,e⟩:=x;exact⟨t,u,v,k _ _ (.inl rfl) e⟩
 | tP ob u ih=>obtain⟨e,q⟩:=x;exact⟨k _ _ (.inl rfl) e,ih q⟩
 | tbl ps=>
  have e:h.get? a=some {cls:= .none,data:= .fields ps}:=x;show h'.get? a=some {cls:= .none,data:= .fields ps};exact k a _ (.inl rfl) e
 | met f y=>
  have e:h.get? a=some (PySem.W.methodObj (.ref f) (.ref y)):=x;show h'.get? a=some (PySem.W.methodObj (.ref f) (.ref y));exact k a _ (.inl rfl) e
 | ext φ=>obtain⟨p,⟨o,e⟩,st⟩:=x;exact⟨st _ _ p λo q=>k _ _ (.inl rfl) q,⟨o,k _ _ (.inl rfl) e⟩,st⟩
theorem rC.lt(x:rC P w H h)(e:H a=some o):a<h.objs.size:=(x a o e).lt
theorem rC.fresh(x:rC P w H h)(e:h.objs.size<=a):H a=none:=by
 cases q:H a with
 | none=>rfl
 | some u=>exact absurd (aIb (x.lt q) e) (aJc _)
theorem rC.kept(x:rC P w H h)(k:∀b u,h.get? b=some u->h'.get? b=some u):rC P w H h' :=λa o e=>
 (x a o e).xE (λb u _ q=>k b u q) (λ_ q=>q) λ_ _ q=>q
theorem rC.laid(x:rC P w H h)(k:∀b u,h.get? b=some u->h'.get? b=some u)(g:h.objs.size<=a)(new:cV P w (upd H a o) h' a o):rC P w (upd H a o) h' :=λb u e=>by
 have d:=x.fresh g;by_cases f:b=a
 ·subst f;rw[aR]at e;cases e;exact new
 ·rw[aO f]at e;exact(x b u e).xE (λc v _ q=>k c v q) (λc q=>by rw[aO (bR q d)];exact q) λc xs q=>by rw[aO (bR q d)];exact q
end
def Rd(H:Hp)(a:Addr)(u:HO):Prop:=H a=some u\/∃o,H a=some (.tP o u)
variable{P:Program}{w:World}{h:Heap}
theorem Rd.ok{u:HO}(r:Rd H a u)(x:rC P w H h):cV P w H h a u:=by
 rcases r with r | ⟨o,r⟩
 ·exact x a u r
 ·obtain⟨_,q⟩:=x a _ r;exact q
def GK:Option HO->Prop
 | some (.lst _)=>True
 | some (.dK _)=>True
 | some (.dT _)=>True
 | some (.set _ _)=>True
 | some (.ins _ _ _)=>True
 | some (.ext _)=>True
 | _=>False
section
variable {P:Program}{w:World}{H:Hp}{h h' :Heap}{x e:Addr}{o' :HO}
theorem rC.write(ok:rC P w H h)(g:GK (H x))(he:e=x\/H e=some (.own x))(k:∀b u,b≠e->h.get? b=some u->h'.get? b=some u)(j:∃u,h'.get? e=some u)
  (new:cV P w (upd H x o') h' x o'):rC P w (upd H x o') h' :=λb u q=>by
 have d:∀c y,H c=some (.own y)->c≠x:=λc y r z=>by subst z;rw[r]at g;exact g
 have f:∀c xs,H c=some (.tup xs)->c≠x:=λc xs r z=>by subst z;rw[r]at g;exact g
 by_cases i:b=x
 ·subst i;rw[aR]at q;cases q;exact new
 ·rw[aO i]at q;by_cases a:b=e
  ·have l :H b=some (.own x):=by
    rcases he with z | z
    ·exact absurd (a.trans z) i
    ·rw[a];exact z
   rw[q]at l;cases l;obtain⟨v,hv⟩:=j;exact⟨v,by rw[a];exact hv⟩
  ·refine(ok b u q).xE (λc v hc r=>k c v ?_ r) (λc r=>by rw[aO (d c b r)];exact r) λc xs r=>by rw[aO (f c xs r)];exact r
   rcases hc with rfl | hc
   ·exact a
   ·rintro rfl;rcases he with z | z
    ·exact d c b hc z
    ·rw[hc]at z;cases z;exact i rfl
end
structure Un(fs ex:List Addr)(H H' :Hp)(h h' :Heap):Prop where
 keep:∀b o,h.get? b=some o->H b=none->b∉fs->b∉ex->h'.get? b=some o
 slot:∀b o,h.get? b=some o->H b=none->b∈fs->b∉ex->∃sl,h'.get? b=some {o with slots:=sl}
 free:∀b o,h.get? b=some o->H b=none->b∉ex->H' b=none
 there:∀b o,h.get? b=some o->b∉ex->∃o',h'.get? b=some o'
 zM:∀b xs,H b=some (.tup xs)->H' b=some (.tup xs)
 vV:∀b o u,H b=some (.tP o u)->H' b=some (.tP o u)
 zP:∀b ps,H b=some (.tbl ps)->∃more,H' b=some (.tbl (ps++more))
section
variable {fs fs' ex ex' :List Addr}{H H1 H2:Hp}{h h1 h2 h' :Heap}{a x e:Addr}{o:HO}
theorem Un.any(u:Un fs ex H H1 h h1){ob:Obj}(q:h.get? b=some ob)(n:H b=none)(a:b∉ex):∃sl,h1.get? b=some {ob with slots:=sl}:=by
 by_cases c:b∈fs
 ·exact u.slot b ob q n c a
 ·exact⟨ob.slots,u.keep b ob q n c a⟩
theorem Un.kept(k:∀b u,h.get? b=some u->h'.get? b=some u):Un fs ex H H h h' :=
 ⟨λb ob q _ _ _=>k b ob q,λb ob q _ _ _=>⟨ob.slots,k b ob q⟩,λ_ _ _ n _=>n,λb ob q _=>⟨ob,k b ob q⟩,λ_ _ q=>q,λ_ _ _ q=>q,λ_ ps q=>⟨#[],by rw[q];simp⟩⟩
theorem Un.refl:Un fs ex H H h h:=Un.kept λ_ _ q=>q
theorem Un.laid(k:∀b u,h.get? b=some u->h'.get? b=some u)(d:h.objs.size<=a)(c:H a=none):Un fs ex H (upd H a o) h h' where
 keep:=λb u q _ _ _=>k b u q
 slot:=λb u q _ _ _=>⟨u.slots,k b u q⟩
 free:=λb u q n _=>by rw[aO (Nat.ne_of_lt (Nat.lt_of_lt_of_le (Heap.lt_size q) d))];exact n
 there:=λb u q _=>⟨u,k b u q⟩
 zM:=λb xs q=>by rw[aO (bR q c)];exact q
 vV:=λb u xs q=>by rw[aO (bR q c)];exact q
 zP:=λb ps q=>⟨#[],by rw[aO (bR q c),q];simp⟩
theorem Un.write(c:GK (H x))(he:e=x\/H e=some (.own x))(k:∀b u,b≠e->h.get? b=some u->h'.get? b=some u)(d:∃u,h'.get? e=some u):Un fs ex H (upd H x o) h h' :=by
 have g:∀b,H b=none->b≠x:=λb n z=>by subst z;rw[n]at c;exact c
 have i:∀b,H b=none->b≠e:=λb n z=>by
  subst z;rcases he with r | r
  ·exact g b n r
  ·rw[n]at r;cases r
 have f:∀b u,H b=some u->¬GK (some u)->b≠x:=λb u q j z=>by subst z;rw[q]at c;exact j c
 refine⟨λb u q n _ _=>k b u (i b n) q,λb u q n _ _=>⟨u.slots,k b u (i b n) q⟩,λb u q n _=>by rw[aO (g b n)];exact n,λb u q _=>?_,
  λb xs q=>by rw[aO (f b _ q λz=>z)];exact q,λb u xs q=>by rw[aO (f b _ q λz=>z)];exact q,λb ps q=>⟨#[],by rw[aO (f b _ q λz=>z),q];simp⟩⟩
 by_cases a:b=e
 ·subst a;exact d
 ·exact⟨u,k b u a q⟩
end
def zN(h:Heap)(H:Hp):List Addr:=(List.range h.objs.size).filter λa=>(H a).isSome
def A1(h:Heap)(H:Hp):Heap:=PySem.W.hideAll h (zN h H)
theorem JZ(h:Heap)(H:Hp):(A1 h H).objs.size=h.objs.size:=PySem.W.hideAll_size _ _
variable{o:Obj}
theorem OZ(e:h.get? b=some o)(n:H b=none):(A1 h H).get? b=some o:=
 PySem.W.hideAll_get _ e λa=>by
  have q:(H b).isSome=true:=(aIy.mp a).2;rw[n]at q;simp at q
theorem S9(e:(A1 h H).get? b=some o):h.get? b=some o/\H b=none:=by
 have a :h.get? b=some o:=PySem.W.of_hideAll (zN h H) e;refine⟨a,?_⟩
 cases q:H b with
 | none=>rfl
 | some x=>
  have c:b∈zN h H:=aIy.mpr ⟨List.mem_range.mpr (aHz a),by simp[q]⟩;have z:(A1 h H).get? b=none:=PySem.W.hideAll_none (zN h H) c;rw[z]at e;cases e
structure Mod(K:aLw)(mg:aLz)(base:Heap):Prop where
 kin:K.In base
 glob:base.Ns mainGlobals mg
 blt:∃mb,base.Ns builtinsNs mb/\∀x:Str,x≠ "__name__"->mb x=bootBuiltins x
 nolimit:base.NoLimit
structure Cx where
 prog:Program
 w:World
 K:aLw
 mg:aLz
 base:Heap
 A:Around
 N:List Str
 s₀:Shared
 H₀:Hp
 env:Env
 outer:List Env
 stack:List Env
 ex:List Addr
 fn:Str->Bool
 calm:Bool
 pn:List (Addr×Obj)
 xe:aLx
def O8(l:List Env):List Addr:=l.filterMap (·.frame)
abbrev Cx.fs(X:Cx):List Addr:=O8 X.outer
def Vis(sc:Scope)(x:Str):Prop:=sc.names.lookup x=some .local\/sc.names.lookup x=some .cell\/sc.names.lookup x=some .free
def Loc(sc:Scope)(x:Str):Prop:=sc.names.lookup x=some .local\/sc.names.lookup x=some .cell
def Look(env:Env)(h:Heap)(m:aLz)(x:Str)(u:Value):Prop:=
 (env.kindOf x=some .local/\m x=some u)\/((env.kindOf x=some .cell\/env.kindOf x=some .free)/\∃c,env.cells.lookup x=some c/\h.IsCell c (some u))
structure Cx.Ok(X:Cx):Prop where
 mod:Mod X.K X.mg X.base
 kind:X.env.scope.kind= .function
 glob:X.env.globals=mainGlobals
 blt:X.env.builtins=builtinsNs
 above:X.s₀.heap.objs.size<=X.env.locals
 inj:∀x y c,X.env.cells.lookup x=some c->X.env.cells.lookup y=some c->x=y
 has:∀x,(X.env.kindOf x=some .cell\/X.env.kindOf x=some .free)->∃c,X.env.cells.lookup x=some c
 cab:∀x c,X.fn x=true->X.env.cells.lookup x=some c->X.s₀.heap.objs.size<=c
 hd:X.calm=true->X.A.handled=none
 frames:X.A.frames=some X.stack
 stk:X.stack=X.outer\/(X.stack=X.env::X.outer/\X.env.frame=some X.env.locals)
 exf:∀b∈X.ex,b≠X.env.locals/\∀x c,X.env.cells.lookup x=some c->c≠b
 bs:∀b o,X.base.get? b=some o->X.s₀.heap.get? b=some o/\X.H₀ b=none
 VH:X.base.objs.size<=X.s₀.heap.objs.size
 NB:∀b o,X.base.get? b=some o->b∉X.ex
 PF:∀b∈X.ex,b∉X.fs
 vU:X.s₀.heap.FunFrames X.base X.outer
 frf:∀b∈X.fs,X.H₀ b=none
structure Inv(X:Cx)(pins:List (Addr×Obj))(σ:List (Option V))(H:Hp)(s:Shared):Prop where
 ok:X.Ok
 os:s.os=X.s₀.os
 bare:AllBare s.gens
 base:Un X.fs X.ex X.H₀ H X.s₀.heap s.heap
 loc:∃m,s.heap.Ns X.env.locals m/\∀(i:Nat) (x:Str) (v:V),X.N[i]? =some x->σ[i]? =some (some v)->Vis X.env.scope x->∃u,RelV v u/\Look X.env s.heap m x u
 cell:∀x c,X.env.cells.lookup x=some c->∃v,s.heap.IsCell c v
 free:H X.env.locals=none
 kO:∀x c,X.env.cells.lookup x=some c->H c=none
 pin:∀p∈X.pn++pins,s.heap.get? p.1=some p.2/\H p.1=none/\p.1≠X.env.locals/\p.1∉X.fs/\∀v,p.2.data≠ .cell v
 bJ:rC X.prog X.w H s.heap
 len:σ.length=X.N.length
section
variable {X:Cx}{pins:List (Addr×Obj)}{σ:List (Option V)}{H H' :Hp}{s:Shared}{h' :Heap}
theorem Cx.Ok.aH2(ok:X.Ok)(e:X.base.get? b=some o):b∉X.fs:=λa=>by
 have:=(ok.vU.mem a).1;rw[e]at this;cases this
theorem Inv.bs(I:Inv X pins σ H s):∀b o,X.base.get? b=some o->s.heap.get? b=some o/\H b=none:=λb o e=>
 ⟨I.base.keep b o (I.ok.bs b o e).1 (I.ok.bs b o e).2 (I.ok.aH2 e) (I.ok.NB b o e),I.base.free b o (I.ok.bs b o e).1 (I.ok.bs b o e).2 (I.ok.NB b o e)⟩
theorem Inv.bk(I:Inv X pins σ H s):∀b o,X.base.get? b=some o->s.heap.get? b=some o:=λb o e=>(I.bs b o e).1
theorem Inv.mod(I:Inv X pins σ H s):Mod X.K X.mg X.base:=I.ok.mod
theorem Inv.ZX(I:Inv X pins σ H s):X.K.In s.heap:=I.ok.mod.kin.keeps I.bk
theorem Inv.fr(I:Inv X pins σ H s):∃m,Fr X.base X.env.locals s.heap m:=
 let ⟨m,hn,_⟩:=I.loc
 ⟨m,hn,I.bk,aIa I.ok.VH I.ok.above⟩
theorem Inv.lt(I:Inv X pins σ H s):X.env.locals<s.heap.objs.size:=let ⟨_,hn,_⟩:=I.loc;hn.lt
theorem Inv.sz(I:Inv X pins σ H s):X.s₀.heap.objs.size<=s.heap.objs.size:=aIa I.ok.above (aJ6 I.lt)
theorem Inv.aH1(I:Inv X pins σ H s)(h:s.heap.objs.size<=a):a∉X.fs:=λb=>by
 obtain⟨_,o,ho,_⟩:=I.ok.vU.mem b;exact absurd (aIb (aHz ho) (aIa I.sz h)) (aJc _)
theorem Inv.cne(I:Inv X pins σ H s):∀x c,X.env.cells.lookup x=some c->c≠X.env.locals:=λx c e z=>by
 obtain⟨v,o,ho,hd⟩:=I.cell x c e;obtain⟨m,⟨o',es,ep,a,b,_⟩,_⟩:=I.loc;rw[z,a]at ho;cases ho;rw[b]at hd;cases hd
theorem Inv.vU(I:Inv X pins σ H s):s.heap.FunFrames X.base X.outer:=by
 have all:∀(l:List Env),(∀b∈O8 l,b∈X.fs)->X.s₀.heap.FunFrames X.base l->s.heap.FunFrames X.base l:=by
  intro l
  induction l with
  | nil=>intro _ _;trivial
  | cons env r ih=>
   intro f g;obtain⟨hk,⟨L,o,a,h,ho,hd⟩,i⟩:=g;have c:L∈X.fs:=f L (by unfold O8;rw[List.filterMap_cons,a];exact aHx);obtain⟨sl,e⟩:=I.base.slot L o ho (I.ok.frf L c) c λz=>I.ok.PF L z c;exact⟨hk,⟨L,_,a,h,e,hd⟩,ih (λb d=>f b (by unfold O8;rw[List.filterMap_cons,a];exact aI0 _ d)) i⟩
 exact all X.outer (λ_ d=>d) I.ok.vU
theorem Inv.stack(I:Inv X pins σ H s):s.heap.FunFrames X.base X.stack:=by
 rcases I.ok.stk with e | ⟨e,a⟩
 ·rw[e];exact I.vU
 ·rw[e];obtain⟨m,b,_⟩:=I.loc;refine .cons (by rw[I.ok.kind];decide) a b ?_ I.vU;exact Heap.get?_none_of_le (aIa I.ok.VH I.ok.above)
theorem Inv.ET(I:Inv X pins σ H s):∀b∈O8 X.stack,b∈X.env.locals::X.fs:=λb a=>by
 rcases I.ok.stk with e | ⟨e,c⟩
 ·rw[e]at a;exact aI0 _ a
 ·rw[e]at a;unfold O8 at a;rw[List.filterMap_cons,c]at a;exact a
theorem Inv.G3(I:Inv X pins σ H s):∀b∈O8 X.stack,H b=none:=λb hb=>by
 rcases aI5.mp (I.ET b hb) with e | hb
 ·rw[e];exact I.free
 ·obtain⟨_,o,ho,_⟩:=I.ok.vU.mem hb;exact I.base.free b o ho (I.ok.frf b hb) λz=>I.ok.PF b z hb
variable{g':Array GenState}{t':Nat}{ch:List Addr}
theorem Inv.step{d' :Drawn}(I:Inv X pins σ H s)
  (f:∀b∈ch,(b∈X.ex\/X.s₀.heap.objs.size<=b)/\b≠X.env.locals/\(∀x c,X.env.cells.lookup x=some c->c≠b)/\∀p∈X.pn++pins,p.1≠b)
  (keep:∀b o,b≠X.env.locals->b∉X.fs->b∉ch->s.heap.get? b=some o->H b=none->h'.get? b=some o)
  (slot:∀b o,b≠X.env.locals->b∈X.fs->b∉ch->s.heap.get? b=some o->H b=none->∃sl,h'.get? b=some {o with slots:=sl}) (free:∀b o,b∉ch->s.heap.get? b=some o->H b=none->H' b=none)
  (there:∀b o,b∉ch->s.heap.get? b=some o->∃o',h'.get? b=some o')
  (zM:∀b xs,H b=some (.tup xs)->H' b=some (.tup xs)) (vV:∀b o u,H b=some (.tP o u)->H' b=some (.tP o u)) (zP:∀b ps,H b=some (.tbl ps)->∃more,H' b=some (.tbl (ps++more)))
  (ns:∀m,s.heap.Ns X.env.locals m->h'.Ns X.env.locals m) (bJ:rC X.prog X.w H' h') (hg:AllBare g'):
  Inv X pins σ H' {s with heap:=h',gens:=g',drawn:=d',toks:=t'}:=by
 have A:∀b o,X.s₀.heap.get? b=some o->b≠X.env.locals:=λb o e=>aI4 (aIb (aHz e) I.ok.above)
 have j:∀b o,X.s₀.heap.get? b=some o->b∉X.ex->b∉ch:=λb o e a y=>by
  rcases(f b y).1 with z | z
  ·exact a z
  ·exact absurd (aIb (aHz e) z) (aJc _)
 have g:∀x c,X.env.cells.lookup x=some c->∀v,s.heap.IsCell c v->h'.IsCell c v:=λx c e v C=>by
  obtain⟨o,ho,hd⟩:=C;have h:c∉ch:=λz=>(f c z).2.2.1 x c e rfl;by_cases E:c∈X.fs
  ·obtain⟨sl,q⟩:=slot c o (I.cne x c e) E h ho (I.kO x c e);exact⟨_,q,hd⟩
  ·exact⟨o,keep c o (I.cne x c e) E h ho (I.kO x c e),hd⟩
 refine⟨I.ok,I.os,hg,⟨λb o e n y a=>?_,λb o e n y a=>?_,λb o e n a=>?_,λb o e a=>?_,λb xs e=>zM b xs (I.base.zM b xs e),λb o xs e=>vV b o xs (I.base.vV b o xs e),λb ps e=>?_⟩,?_,λx c e=>?_,?_,λx c e=>?_,λp F=>?_,bJ,I.len⟩
 ·exact keep b o (A b o e) y (j b o e a) (I.base.keep b o e n y a) (I.base.free b o e n a)
 ·obtain⟨sl,t⟩:=I.base.slot b o e n y a;obtain⟨D,B⟩:=slot b _ (A b o e) y (j b o e a) t (I.base.free b o e n a);exact⟨D,B⟩
 ·obtain⟨o',t⟩:=I.base.there b o e a;exact free b o' (j b o e a) t (I.base.free b o e n a)
 ·obtain⟨o',t⟩:=I.base.there b o e a;exact there b o' (j b o e a) t
 ·obtain⟨m1,t⟩:=I.base.zP b ps e;obtain⟨J,B⟩:=zP b _ t;exact⟨m1++J,by rw[B,Array.append_assoc]⟩
 ·obtain⟨m,K,L⟩:=I.loc;refine⟨m,ns m K,λi x v t B M=>?_⟩;obtain⟨u,r,l⟩:=L i x v t B M;refine⟨u,r,?_⟩;rcases l with l | ⟨k,c,e,z⟩
  ·exact .inl l
  ·exact .inr ⟨k,c,e,g x c e _ z⟩
 ·obtain⟨v,z⟩:=I.cell x c e;exact⟨v,g x c e v z⟩
 ·obtain⟨m,⟨o,_,_,ho,_⟩,_⟩:=I.loc;exact free _ o (λz=>(f _ z).2.1 rfl) ho I.free
 ·obtain⟨v,o,ho,hd⟩:=I.cell x c e;exact free c o (λz=>(f c z).2.2.1 x c e rfl) ho (I.kO x c e)
 ·obtain⟨e,n,ne,G,d⟩:=I.pin p F;have h:p.1∉ch:=λz=>(f p.1 z).2.2.2 p F rfl;exact⟨keep p.1 p.2 ne G h e n,free p.1 p.2 h e n,ne,G,d⟩
theorem Inv.un(I:Inv X pins σ H s)(u:Un X.fs [] H H' s.heap h')(bJ:rC X.prog X.w H' h'):Inv X pins σ H' {s with heap:=h',toks:=t'}:=by
 obtain⟨m,⟨o,es,ep,ho,r⟩,_⟩:=id I.loc;obtain⟨sl,g⟩:=u.any ho I.free (by simp)
 exact I.step (g' :=s.gens) (d' :=s.drawn) (ch:=[]) (λ_ z=>nomatch z) (λb o _ c _ e n=>u.keep b o e n c (by simp)) (λb o _ c _ e n=>u.slot b o e n c (by simp)) (λb o _ e n=>u.free b o e n (by simp)) (λb o _ e=>u.there b o e (by simp)) u.zM u.vV u.zP (λj h=>by
  obtain⟨o',d,f,a,i⟩:=h;rw[ho]at a;cases a
  exact⟨_,d,f,g,i⟩) bJ I.bare
theorem Inv.call{d' :Drawn}(I:Inv X pins σ H s)(u:Un (O8 X.stack) ch H H' s.heap h')(bJ:rC X.prog X.w H' h')(hg:AllBare g')
  (d:∀b∈ch,(b∈X.ex\/X.s₀.heap.objs.size<=b)/\b≠X.env.locals/\(∀x c,X.env.cells.lookup x=some c->c≠b)/\∀p∈X.pn++pins,p.1≠b):
  Inv X pins σ H' {s with heap:=h',gens:=g',drawn:=d',toks:=t'}:=by
 obtain⟨m,⟨o,es,ep,ho,r⟩,_⟩:=id I.loc;obtain⟨sl,g⟩:=u.any ho I.free λz=>(d _ z).2.1 rfl
 exact I.step (ch:=ch) d (λb o g j a e n=>u.keep b o e n (λz=>(aI5.mp (I.ET b z)).elim g j) a) (λb o _ _ a e n=>u.any e n a) (λb o a e n=>u.free b o e n a) (λb o a e=>u.there b o e a) u.zM u.vV u.zP (λq k=>by
  obtain⟨o',h,i,f,l⟩:=k;rw[ho]at f;cases f
  exact⟨_,h,i,g,l⟩) bJ hg
theorem Inv.turned{it:Addr}(I:Inv X pins σ H s)(k:∀b o,b≠it->s.heap.get? b=some o->h'.get? b=some o)(g:H it=none)(f:it≠X.env.locals)
  (h:it∈X.ex\/X.s₀.heap.objs.size<=it) (i:∀x c,X.env.cells.lookup x=some c->c≠it) (j:∀p∈X.pn++pins,p.1≠it):Inv X pins σ H {s with heap:=h',toks:=t'}:=by
 have d:∀b u,H b=some u->b≠it:=λb u e z=>by rw[z,g]at e;cases e
 refine I.step (g' :=s.gens) (d' :=s.drawn) (ch:=[it]) (λb l=>?_) (λb o _ _ a e _=>k b o (λz=>a (by simp[z])) e) (λb o _ _ a e _=>⟨o.slots,k b o (λz=>a (by simp[z])) e⟩) (λ_ _ _ _ n=>n)
  (λb o a e=>⟨o,k b o (λz=>a (by simp[z])) e⟩) (λ_ _ e=>e) (λ_ _ _ e=>e) (λb ps e=>⟨#[],by rw[e];simp⟩) (λm t=>?_) (λb u e=>?_) I.bare
 ·have e:b=it:=by simpa using l
  subst e;exact⟨h,f,i,j⟩
 ·obtain⟨o,es,ep,ho,r⟩:=t;exact⟨o,es,ep,k _ o (aIg f) ho,r⟩
 ·refine(I.bJ b u e).xE (λc v a q=>k c v ?_ q) (λ_ q=>q) λ_ _ q=>q;rcases a with z | z
  ·rw[z];exact d b u e
  ·exact d c _ z
theorem Inv.tok(I:Inv X pins σ H s)(t:Nat):Inv X pins σ H {s with toks:=t}:=I.un (h' :=s.heap) (t' :=t) Un.refl I.bJ
theorem Inv.kept(I:Inv X pins σ H s)(k:∀b u,s.heap.get? b=some u->h'.get? b=some u):Inv X pins σ H {s with heap:=h',toks:=t'}:=I.un (Un.kept k) (I.bJ.kept k)
theorem Inv.laid{o:HO}(I:Inv X pins σ H s)(k:∀b u,s.heap.get? b=some u->h'.get? b=some u)(c:s.heap.objs.size<=a)(new:cV X.prog X.w (upd H a o) h' a o):
  Inv X pins σ (upd H a o) {s with heap:=h',toks:=t'}:=I.un (Un.laid k c (I.bJ.fresh c)) (I.bJ.laid k c new)
theorem Inv.write{x e:Addr}{o:HO}(I:Inv X pins σ H s)(c:GK (H x))(he:e=x\/H e=some (.own x))(k:∀b u,b≠e->s.heap.get? b=some u->h'.get? b=some u)(a:∃u,h'.get? e=some u)
  (new:cV X.prog X.w (upd H x o) h' x o):Inv X pins σ (upd H x o) {s with heap:=h',toks:=t'}:=I.un (Un.write c he k a) (I.bJ.write c he k a new)
theorem Inv.weak{a :List (Option V)}(I:Inv X pins σ H s)(b:a.length=σ.length)(w:∀(i:Nat) v,a[i]? =some (some v)->σ[i]? =some (some v)):Inv X pins a H s:=
 ⟨I.ok,I.os,I.bare,I.base,let ⟨m,hn,hl'⟩:=I.loc;⟨m,hn,λi x v c d e=>hl' i x v c (w i v d) e⟩,I.cell,I.free,I.kO,I.pin,I.bJ,b.trans I.len⟩
theorem Inv.G8{a :List (Addr×Obj)}(I:Inv X pins σ H s)(h:∀p∈a,s.heap.get? p.1=some p.2/\H p.1=none/\p.1≠X.env.locals/\p.1∉X.fs/\∀v,p.2.data≠ .cell v):Inv X a σ H s:=
 ⟨I.ok,I.os,I.bare,I.base,I.loc,I.cell,I.free,I.kO,λp b=>(aI9.mp b).elim (λz=>I.pin p (aJx _ z)) (h p),I.bJ,I.len⟩
theorem CV{N:List Str}(hN:N.Nodup){i j:Nat}{x:Str}(a:N[i]? =some x)(b:N[j]? =some x):i=j:=by
 obtain⟨e,c⟩:=aHv.mp a;obtain⟨f,d⟩:=aHv.mp b;exact(List.getElem_inj hN).mp (c.trans d.symm)
variable{Q:Unit->Shared->Prop}
theorem rJ{M:Model}{A:Around}{E:aLx}{i:Nat}{x:Str}{v:V}{u:Value}(I:Inv X pins σ H s)(hN:X.N.Nodup)(hi:X.N[i]? =some x)(t:Loc X.env.scope x)(r:RelV v u)
  (h:∀S,Inv X pins (σ.set i (some v)) H S ->(∃a,Heap.SameBut a s.heap S.heap/\(a=X.env.locals\/X.env.cells.lookup x=some a))->Q () S) (hf:X.fn x=true\/X.env.scope.names.lookup x=some .local:=by first | exact .inl rfl | exact .inr rfl | assumption):wpAny M A (storeName X.env x u) Q E s:=by
 obtain⟨m,T,hl⟩:=id I.loc;have K:(X.env.scope.kind== .class || (X.env.scope.kind== .module && X.env.locals !=X.env.globals))=false:=by rw[I.ok.kind];rfl
 have D:i<σ.length:=by rw[I.len];exact(aHv.mp hi).1
 have cne:=I.cne
 have g:∀{a:Addr} {h' :Heap},(∃o,s.heap.get? a=some o/\H a=none)->Heap.SameBut a s.heap h' ->rC X.prog X.w H h' :=λ{a h'} ha f b ob e=>by
  obtain⟨_,_,B⟩:=ha;refine(I.bJ b ob e).xE (λc w' hc q=>(f.2 c ?_).trans q) (λ_ q=>q) λ_ _ q=>q;rintro rfl;rcases hc with rfl | hc
  ·rw[B]at e;cases e
  ·rw[B]at hc;cases hc
 rcases t with hk | hk
 ·refine wpAny_storeName_local hk T (λh' U f=>?_) K;obtain⟨oL,_,_,W,_⟩:=id T;refine h _ ⟨I.ok,I.os,I.bare,⟨λb o e n F t=>?_,λb o e n F t=>?_,I.base.free,λb o e t=>?_,I.base.zM,I.base.vV,I.base.zP⟩,⟨_,U,λj y Y l C Z=>?_⟩,λy c e=>?_,I.free,I.kO,λp hp=>?_,g ⟨oL,W,I.free⟩ f,by simpa using I.len⟩ ⟨_,f,.inl rfl⟩
  ·exact(f.2 b (aI4 (aIb (aHz e) I.ok.above))).trans (I.base.keep b o e n F t)
  ·obtain⟨sl,l⟩:=I.base.slot b o e n F t;exact⟨sl,(f.2 b (aI4 (aIb (aHz e) I.ok.above))).trans l⟩
  ·obtain⟨o',l⟩:=I.base.there b o e t;exact⟨o',(f.2 b (aI4 (aIb (aHz e) I.ok.above))).trans l⟩
  ·by_cases G:j=i
   ·subst G;rw[hi]at l;cases l;rw[List.getElem?_set_self D]at C;cases C;exact⟨u,r,.inl ⟨hk,by simp⟩⟩
   ·rw[List.getElem?_set_ne (Ne.symm G)]at C;obtain⟨u',r',q⟩:=hl j y Y l C Z;refine⟨u',r',?_⟩
    rcases q with ⟨k,e⟩ | ⟨k,c,e,z⟩
    ·refine .inl ⟨k,?_⟩;have:y≠x:=λe=>G (CV hN l (e▸hi));simp[this,e]
    ·exact .inr ⟨k,c,e,z.sameBut f (cne y c e)⟩
  ·obtain⟨w',z⟩:=I.cell y c e;exact⟨w',z.sameBut f (cne y c e)⟩
  ·obtain⟨e,n,ne,nf,d⟩:=I.pin p hp;exact⟨(f.2 p.1 ne).trans e,n,ne,nf,d⟩
 ·have J:X.fn x=true:=by
   rcases hf with z | z
   ·exact z
   ·rw[z]at hk;cases hk
  obtain⟨c,hc⟩:=I.ok.has x (.inl hk);obtain⟨w',z⟩:=I.cell x c hc;refine wpAny_storeName_cell I.ok.kind hk hc z (λh' L f=>?_);obtain⟨oc,O,P⟩:=id z;refine h {s with heap:=h'} ⟨I.ok,I.os,I.bare,⟨λb o e n F t=>?_,λb o e n F t=>?_,I.base.free,λb o e t=>?_,I.base.zM,I.base.vV,I.base.zP⟩,⟨m,T.sameBut f (aIg (cne x c hc)),λj y Y l C Z=>?_⟩,λy c' e=>?_,I.free,I.kO,λp hp=>?_,g ⟨oc,O,I.kO x c hc⟩ f,by simpa using I.len⟩ ⟨c,f,.inr hc⟩
  ·exact(f.2 b (aI4 (aIb (aHz e) (I.ok.cab x c J hc)))).trans (I.base.keep b o e n F t)
  ·obtain⟨sl,l⟩:=I.base.slot b o e n F t;exact⟨sl,(f.2 b (aI4 (aIb (aHz e) (I.ok.cab x c J hc)))).trans l⟩
  ·obtain⟨o',l⟩:=I.base.there b o e t;exact⟨o',(f.2 b (aI4 (aIb (aHz e) (I.ok.cab x c J hc)))).trans l⟩
  ·by_cases G:j=i
   ·subst G;rw[hi]at l;cases l;rw[List.getElem?_set_self D]at C;cases C;exact⟨u,r,.inr ⟨.inl hk,c,hc,L⟩⟩
   ·rw[List.getElem?_set_ne (Ne.symm G)]at C;obtain⟨u',r',q⟩:=hl j y Y l C Z;refine⟨u',r',?_⟩;rcases q with q | ⟨k,c',e,z'⟩
    ·exact .inl q
    ·refine .inr ⟨k,c',e,z'.sameBut f ?_⟩;rintro rfl;exact G (CV hN l (I.ok.inj _ _ _ e hc▸hi))
  ·by_cases R:c' =c
   ·subst R;exact⟨_,L⟩
   ·obtain⟨w2,z2⟩:=I.cell y c' e;exact⟨w2,z2.sameBut f R⟩
  ·obtain⟨e,n,ne,nf,d⟩:=I.pin p hp;refine⟨(f.2 p.1 ?_).trans e,n,ne,nf,d⟩;intro q;rw[q,O]at e;have q' :oc=p.2:=aIn e;exact d w' (by rw[<-q'];exact P)
theorem qF{M:Model}{A:Around}{E:aLx}{i:Nat}{x:Str}{v:V}{u:Value}(I:Inv X pins σ H s)(hN:X.N.Nodup)(hi:X.N[i]? =some x)(b:Loc X.env.scope x)(r:RelV v u)
  (h:∀a,Inv X pins (σ.set i (some v)) H a ->Q () a) (c:X.fn x=true\/X.env.scope.names.lookup x=some .local:=by first | exact .inl rfl | exact .inr rfl | assumption):wpAny M A (storeName X.env x u) Q E s:=
 rJ I hN hi b r (λa d _=>h a d) c
theorem Inv.aEf{a :Shared}(I:Inv X pins σ H s)(ho:a.os=s.os)(u:Un (O8 X.stack) ch H H' s.heap a.heap)(bJ:rC X.prog X.w H' a.heap)(hg:AllBare a.gens)
  (d:∀b∈ch,(b∈X.ex\/X.s₀.heap.objs.size<=b)/\b≠X.env.locals/\(∀x c,X.env.cells.lookup x=some c->c≠b)/\∀p∈X.pn++pins,p.1≠b):Inv X pins σ H' a :=by
 obtain⟨h',g',d',t',o'⟩:=a;have e:o' =s.os:=ho;subst e;exact I.call (g' :=g') (t' :=t') (d' :=d') u bJ hg d
end
abbrev XK:=Value->Option Addr->Hp->Prop
abbrev St:=List (Option V)
abbrev VK:=V->Hp->Prop
abbrev TE:=St->Hp->VK->Prop
abbrev TT:=St->Hp->(Bool->Hp->Prop)->Prop
abbrev TA:=St->Hp->(List V->Hp->Prop)->Prop
structure Ends where
 nx:St->Hp->Prop
 rt:VK
 bk:St->Hp->Prop:=λ_ _=>False
 ct:St->Hp->Prop:=λ_ _=>False
abbrev TS:=Ends->St->Hp->Prop
def EP(X:Cx)(pins:List (Addr×Obj))(σ:St)(Q:VK)(u:Value)(a :Shared):Prop:=∃v H',Inv X pins σ H' a /\RelV v u/\Q v H'
def TP(X:Cx)(pins:List (Addr×Obj))(σ:St)(Q:Bool->Hp->Prop)(b:Bool)(a :Shared):Prop:=∃H',Inv X pins σ H' a /\Q b H'
def AP(X:Cx)(pins:List (Addr×Obj))(σ:St)(Q:List V->Hp->Prop)(us:List Value)(a :Shared):Prop:=∃vs H',Inv X pins σ H' a /\Vals vs us/\Q vs H'
def SP(X:Cx)(pins:List (Addr×Obj))(D:Ends)(f:Flow)(b :Shared):Prop:=
 match f with
 | .next=>∃a H',Inv X pins a H' b /\D.nx a H'
 | .brk=>∃a H',Inv X pins a H' b /\D.bk a H'
 | .cont=>∃a H',Inv X pins a H' b /\D.ct a H'
 | .ret u=>∃v a H',Inv X pins a H' b /\RelV v u/\D.rt v H'
def PE(X:Cx)(e:Expr)(t:TE):Prop:=
 ∀(pins:List (Addr×Obj)) (s:Shared) (σ:St) (H:Hp) (Q:VK),Inv X pins σ H s->t σ H Q->wpAny (model X.prog X.w) X.A (eval e X.env) (EP X pins σ Q) X.xe s
def PT(X:Cx)(e:Expr)(t:TT):Prop:=
 ∀(pins:List (Addr×Obj)) (s:Shared) (σ:St) (H:Hp) (Q:Bool->Hp->Prop),Inv X pins σ H s->t σ H Q->wpAny (model X.prog X.w) X.A (isTrue e X.env (eval e X.env)) (TP X pins σ Q) X.xe s
def PW(X:Cx)(e:Expr)(t:TT):Prop:=
 ∀(a:Sem Value) (pins:List (Addr×Obj)) (s:Shared) (σ:St) (H:Hp) (Q:Bool->Hp->Prop),Inv X pins σ H s->t σ H Q->wpAny (model X.prog X.w) X.A (isTrue e X.env a) (TP X pins σ Q) X.xe s
variable{e:Expr}
theorem PW.pt{X:Cx}{t:TT}(h:PW X e t):PT X e t:=h _
def PA(X:Cx)(es:List Expr)(t:TA):Prop:=
 ∀(pos:Pos) (pins:List (Addr×Obj)) (s:Shared) (σ:St) (H:Hp) (Q:List V->Hp->Prop),Inv X pins σ H s->t σ H Q->wpAny (model X.prog X.w) X.A (spliced (backTo pos (starEach es X.env))) (AP X pins σ Q) X.xe s
def PS(X:Cx)(st:Stmt)(t:TS):Prop:=
 ∀(pins:List (Addr×Obj)) (s:Shared) (σ:St) (H:Hp) (D:Ends),Inv X pins σ H s->t D σ H->wpAny (model X.prog X.w) X.A (exec st X.env) (SP X pins D) X.xe s
def BU(X:Cx)(st:List Stmt)(t:TS):Prop:=
 ∀(pins:List (Addr×Obj)) (s:Shared) (σ:St) (H:Hp) (D:Ends),Inv X pins σ H s->t D σ H->wpAny (model X.prog X.w) X.A (execs st X.env) (SP X pins D) X.xe s
variable{A:Around}{E:aLx}{s:Shared}
theorem b6{α:Type}{t:Sem α}{Q b :α->Shared->Prop}{M:Model}(h:wpAny M A t Q E s)(c:∀a s,Q a s->b a s):wpAny M A t b E s:=aIk h c λ_ _ x=>x
section
variable {X:Cx}
def aFv(i:Nat):TE:=λσ H Q=>∃v,σ[i]? =some (some v)/\Q v H
def tC(v:V):TE:=λ_ H Q=>Q v H
variable{x:Str}
theorem XZ{i:Nat}{pos:Pos}(hN:X.N[i]? =some x)(hv:Vis X.env.scope x)(hd:(x==("__debug__":Str))=false:=by decide)(d:(x==("__classdict__":Str))=false:=by decide):PE X (.Name x pos) (aFv i):=by
 intro pins s σ H Q I h;obtain⟨v,e,h⟩:=h;obtain⟨m,g,j⟩:=I.loc;obtain⟨u,r,l⟩:=j i x v hN e hv
 have b:EP X pins σ Q u s:=⟨v,H,I,r,h⟩
 rcases l with ⟨hk,k⟩ | ⟨hk,c,f,a⟩
 ·exact wpAny_Name (wpAny_loadName_local I.ok.kind hk g k b) hd
 ·rcases hk with hk | hk
  ·exact wpAny_Name (wpAny_loadName_cell I.ok.kind hk f a b) hd
  ·exact wpAny_Name (wpAny_loadName_free I.ok.kind hk f a b d) hd
theorem X6{i j pos}:PE X (.Constant (.int i) j pos) (tC (.int i)):=λ_ _ _ H _ I h=>wpAny_Constant_int ⟨.int i,H,I.tok _,⟨_,rfl⟩,h⟩
theorem aCj{b j pos}:PE X (.Constant (.bool b) j pos) (tC (.bl b)):=λ_ _ _ H _ I h=>Constant_bool ⟨.bl b,H,I,rfl,h⟩
theorem X3{j pos}:PE X (.Constant .none j pos) (tC .bT):=λ_ _ _ H _ I h=>Constant_none ⟨.bT,H,I,rfl,h⟩
theorem X0{x j pos}:PE X (.Constant (.str x) j pos) (tC (.str x)):=λ_ _ _ H _ I h=>Calls.Constant_str ⟨.str x,H,I.tok _,⟨_,rfl⟩,h⟩
def Gl(X:Cx)(x:Str):Prop:=X.env.kindOf x=some .globalImplicit
variable{pins:List (Addr×Obj)}{u:Value}
theorem UK{σ:St}{pos:Pos}{Q:aLx}(I:Inv X pins σ H s)(hg:Gl X x)(a:X.mg x=some u)(h:Q u s)
  (hd:(x==("__debug__":Str))=false:=by decide):wpAny (model X.prog X.w) X.A (eval (.Name x pos) X.env) Q E s:=
 Calls.Name_function_global I.ok.kind hg (Calls.loadGlobal_global (by rw[I.ok.glob];exact I.mod.glob.keeps I.bk) a h) hd
theorem iQ{σ:St}{pos:Pos}{Q:aLx}(I:Inv X pins σ H s)(hg:Gl X x)(a:X.mg x=none)(hv:bootBuiltins x=some u)(h:Q u s)
  (b:x≠ "__name__":=by decide) (hd:(x==("__debug__":Str))=false:=by decide):wpAny (model X.prog X.w) X.A (eval (.Name x pos) X.env) Q E s:=by
 obtain⟨mb,c,d⟩:=I.mod.blt;exact Calls.Name_function_global I.ok.kind hg (Calls.loadGlobal_builtin (by rw[I.ok.glob];exact I.mod.glob.keeps I.bk) a (by rw[I.ok.blt];exact c.keeps I.bk) ((d x b).trans hv) h) hd
theorem SY{v:V}{pos:Pos}(hg:Gl X x)(a:X.mg x=none)(hv:bootBuiltins x=some u)(r:RelV v u)(b:x≠ "__name__":=by decide)(hd:(x==("__debug__":Str))=false:=by decide):PE X (.Name x pos) (tC v):=
 λ_ _ _ H _ I h=>iQ I hg a hv ⟨v,H,I,r,h⟩ b hd
variable {a b:Expr}{ta tb:TE}{pos:Pos}
theorem NC(b:Expr){a:CmpOp}(h:a≠ .In)(c:a≠ .NotIn):behindInMarks a b=false:=by
 have d:(a==CmpOp.In)=false:=by cases a <;> first | rfl | exact absurd rfl h
 have e:(a==CmpOp.NotIn)=false:=by cases a <;> first | rfl | exact absurd rfl c
 cases b <;> simp[behindInMarks,d,e]
variable {tA tB' :TT}{rest:List Expr}
def aG4(t u:TT):TT:=λσ H Q=>t σ H λc a=>if c=true then u σ a Q else Q false a
def tOr(t u:TT):TT:=λσ H Q=>t σ H λc a=>if c=true then Q true a else u σ a Q
def aFz(t:TT):TT:=λσ H Q=>t σ H λc a=>Q (!c) a
theorem SD(b:PT X a tA):PW X (.BoolOp .And [a] pos) tA:=by
 intro d pins s σ H Q I h;refine isTrue_and (b6 (b pins s σ H Q I h) λc s1 e=>?_)
 cases c with
 | true=>exact isTrue_and_nil e
 | false=>exact e
theorem XM(b:PT X a tA):PW X (.BoolOp .Or [a] pos) tA:=by
 intro d pins s σ H Q I h;refine isTrue_or (b6 (b pins s σ H Q I h) λc s1 e=>?_)
 cases c with
 | false=>exact isTrue_or_nil e
 | true=>exact e
theorem XN(g:PT X a tA)(i:PW X (.BoolOp .And (b::rest) pos) tB'):PW X (.BoolOp .And (a::b::rest) pos) (aG4 tA tB'):=by
 intro j pins s σ H Q I h;refine isTrue_and (b6 (g pins s σ H _ I h) λc s1 d=>?_);obtain⟨e,f,q1⟩:=d
 cases c with
 | true=>exact i j pins s1 σ e Q f q1
 | false=>exact⟨e,f,q1⟩
theorem aCa(g:PT X a tA)(i:PW X (.BoolOp .Or (b::rest) pos) tB'):PW X (.BoolOp .Or (a::b::rest) pos) (tOr tA tB'):=by
 intro j pins s σ H Q I h;refine isTrue_or (b6 (g pins s σ H _ I h) λc s1 d=>?_);obtain⟨e,f,q1⟩:=d
 cases c with
 | true=>exact⟨e,f,q1⟩
 | false=>exact i j pins s1 σ e Q f q1
theorem XO(b:PT X a tA):PT X (.UnaryOp .Not a pos) (aFz tA):=by
 intro pins s σ H Q I h;exact isTrue_not (b pins s σ H (λc d=>Q (!c) d) I h)
def aBp(ta tb:TE):TE:=λσ H Q=>ta σ H λx a=>∃c,x= .bl c/\if c=true then tb σ a Q else Q (.bl false) a
def aBj(ta:TE):TE:=λσ H Q=>ta σ H λx a=>∃c,x= .bl c/\Q (.bl (!c)) a
theorem X1{op}{t:TE}(h:PE X a t):PE X (.BoolOp op [a] pos) t:=λpins s σ H Q I b=>BoolOp_one (h pins s σ H Q I b)
theorem X7(g:PE X a ta)(i:PE X (.BoolOp .And (b::rest) pos) tb):PE X (.BoolOp .And (a::b::rest) pos) (aBp ta tb):=by
 intro pins s σ H Q I h;refine BoolOp_and (b6 (g pins s σ H _ I h) λv s1 d=>?_);obtain⟨x,e,f,r1,q1⟩:=d;obtain⟨c,rfl,q1⟩:=q1;cases r1;refine aJa ?_
 cases c with
 | true=>exact i pins s1 σ e Q f q1
 | false=>exact⟨.bl false,e,f,rfl,q1⟩
theorem X2(d:PE X a ta):PE X (.UnaryOp .Not a pos) (aBj ta):=by
 intro pins s σ H Q I h;refine UnaryOp_ (b6 (d pins s σ H _ I h) λv s1 b=>?_);obtain⟨x,e,f,r1,q1⟩:=b;obtain⟨c,rfl,q1⟩:=q1;cases r1;exact not_of (aJa ⟨.bl (!c),e,f,rfl,q1⟩)
end
def rB(K:aLw)(H:Hp)(a:Addr)(xs:List V):Prop:=
 Rd H a (.lst xs)\/
  ∃(o:Obj) (aL:Array Value) (n:Nat),K.lookup a=some o/\o.cls= .type "list"/\o.dict=none/\o.data= .seq aL n/\aL.size<=sizeLine/\Vals xs aL.toList
def uL(K:aLw)(H:Hp)(a:Addr)(xs:List V):Prop:=
 Rd H a (.tup xs)\/
  ∃(o:Obj) (aL:Array Value) (n:Nat),K.lookup a=some o/\o.cls= .type "tuple"/\o.dict=none/\o.data= .seq aL n/\aL.size<=sizeLine/\Vals xs aL.toList
def aHl:Value->Option V
 | .none=>some .bT
 | .bool b=>some (.bl b)
 | .int i _=>some (.int i)
 | .str x _=>some (.str x)
 | .bytes b _=>some (.byt b)
 | .float b _=>some (.flt b)
 | .ref a=>some (.ref a)
 | .type n=>some (.ty n)
 | _=>none
variable{u:Value}
theorem RelV.abs{x:V}(r:RelV x u):aHl u=some x:=by
 cases x with
 | bT=>cases r;rfl
 | bl _=>cases r;rfl
 | int _=>obtain⟨t,rfl⟩:=r;rfl
 | str _=>obtain⟨t,rfl⟩:=r;rfl
 | byt _=>obtain⟨t,rfl⟩:=r;rfl
 | flt _=>obtain⟨t,rfl⟩:=r;rfl
 | ref _=>cases r;rfl
 | ty _=>cases r;rfl
theorem RelV.inj{x y:V}(r:RelV x u)(q:RelV y u):x=y:=aIn (r.abs.symm.trans q.abs)
theorem Vals.inj:∀{xs a:List V} {us:List Value},Vals xs us->Vals a us->xs=a
 | _,_,_,.nil,.nil=>rfl
 | _,_,_,.cons r t,.cons r' t' =>by rw[r.inj r',Vals.inj t t']
section
variable {X:Cx}{pins:List (Addr×Obj)}{σ:St}{H:Hp}{s:Shared}{a:Addr}{xs ys:List V}
theorem rB.of{K:aLw}(h:H a=some (.lst xs)):rB K H a xs:= .inl (.inl h)
theorem Inv.list(I:Inv X pins σ H s)(h:rB X.K H a xs):∃aL:List Value,Vals xs aL/\PlainL s.heap a aL.toArray/\xs.length<=sizeLine:=by
 rcases h with h | ⟨o,aL,n,hk,b,hd,c,hz,r⟩
 ·obtain⟨z,aL,n,r,e⟩:=h.ok I.bJ;exact⟨aL,r,⟨_,n,e,rfl,rfl,rfl⟩,z⟩
 ·refine⟨aL.toList,r,⟨o,n,I.ZX a o hk,b,hd,by simpa using c⟩,?_⟩;have e:=r.length;simp only[Array.length_toList]at e
  lia
theorem Inv.tuple(I:Inv X pins σ H s)(h:uL X.K H a xs):∃aL:List Value,Vals xs aL/\IsTup s.heap a aL.toArray/\xs.length<=sizeLine:=by
 rcases h with h | ⟨o,aL,n,hk,b,_,c,hz,r⟩
 ·obtain⟨z,aL,r,p,_⟩:=h.ok I.bJ;exact⟨aL,r,p,z⟩
 ·refine⟨aL.toList,r,⟨o,I.ZX a o hk,b,n,by simpa using c⟩,?_⟩;have e:=r.length;simp only[Array.length_toList]at e
  lia
theorem Inv.W0(I:Inv X pins σ H s)(h:uL X.K H a xs):∃ob,s.heap.get? a=some ob/\ob.cls= .type "tuple"/\ob.dict=none:=by
 rcases h with h | ⟨o,aL,n,hk,b,hd,d,hz,r⟩
 ·obtain⟨z,aL,r,⟨o,e,c,_⟩,nd⟩:=h.ok I.bJ;exact⟨o,e,c,nd o e⟩
 ·exact⟨o,I.ZX a o hk,b,hd⟩
theorem Inv.C3(I:Inv X pins σ H s)(h:rB X.K H a xs)(h' :rB X.K H a ys):xs=ys:=by
 obtain⟨aL,r,⟨o,n,e,_,_,d⟩,_⟩:=I.list h;obtain⟨its',c,⟨o',g,b,_,_,d'⟩,_⟩:=I.list h';rw[e]at b;cases b;rw[d]at d';injection d' with f _;have:aL=its' :=by simpa using aJ7 Array.toList f
 subst this;exact r.inj c
theorem Inv.yB(I:Inv X pins σ H s)(h:uL X.K H a xs)(h' :uL X.K H a ys):xs=ys:=by
 obtain⟨aL,r,⟨o,e,_,n,d⟩,_⟩:=I.tuple h;obtain⟨its',c,⟨o',b,_,g,d'⟩,_⟩:=I.tuple h';rw[e]at b;cases b;rw[d]at d';injection d' with f _;have:aL=its' :=by simpa using aJ7 Array.toList f
 subst this;exact r.inj c
end
abbrev Cx.xC(X:Cx)(E:aLx):Cx:={X with xe:=E}
abbrev Cx.TH(X:Cx):Cx:=X.xC λ_ _=>False
theorem Cx.Ok.xC{X:Cx}(ok:X.Ok)(E:aLx):(X.xC E).Ok:=
 ⟨ok.mod,ok.kind,ok.glob,ok.blt,ok.above,ok.inj,ok.has,ok.cab,ok.hd,ok.frames,ok.stk,ok.exf,ok.bs,ok.VH,ok.NB,ok.PF,ok.vU,ok.frf⟩
theorem Cx.Ok.m5{X:Cx}(ok:(X.xC E).Ok):X.Ok:=
 ⟨ok.mod,ok.kind,ok.glob,ok.blt,ok.above,ok.inj,ok.has,ok.cab,ok.hd,ok.frames,ok.stk,ok.exf,ok.bs,ok.VH,ok.NB,ok.PF,ok.vU,ok.frf⟩
section
variable {X:Cx}{pins:List (Addr×Obj)}{σ:St}{H:Hp}{s:Shared}{E:aLx}
theorem Inv.xC(I:Inv X pins σ H s)(E:aLx):Inv (X.xC E) pins σ H s:=⟨I.ok.xC E,I.os,I.bare,I.base,I.loc,I.cell,I.free,I.kO,I.pin,I.bJ,I.len⟩
theorem Inv.m5(I:Inv (X.xC E) pins σ H s):Inv X pins σ H s:=⟨I.ok.m5,I.os,I.bare,I.base,I.loc,I.cell,I.free,I.kO,I.pin,I.bJ,I.len⟩
theorem SP.m5{D:Ends}{f:Flow}{b :Shared}(h:SP (X.xC E) pins D f b):SP X pins D f b :=by
 cases f with
 | next=>obtain⟨a,H',I,q⟩:=h;exact⟨a,H',I.m5,q⟩
 | brk=>obtain⟨a,H',I,q⟩:=h;exact⟨a,H',I.m5,q⟩
 | cont=>obtain⟨a,H',I,q⟩:=h;exact⟨a,H',I.m5,q⟩
 | ret u=>obtain⟨v,a,H',I,r,q⟩:=h;exact⟨v,a,H',I.m5,r,q⟩
theorem BU.TH{st:List Stmt}{t:TS}(h:BU X.TH st t):BU X st t:=λpins s σ H D I a=>
 aIk (h pins s σ H D (I.xC _) a) (λ_ _ q=>q.m5) λ_ _ z=>False.elim z
end
section
variable {X:Cx}{st:Stmt}{rest:List Stmt}{t u:TS}{e:Expr}{te:TE}{pos:Pos}
def aBl:TS:=λD σ H=>D.nx σ H
def aFw(t u:TS):TS:=λD σ H=>t {D with nx:=u D} σ H
theorem SI:BU X [] aBl:=λ_ _ σ H _ I h=>aLh ⟨σ,H,I,h⟩
theorem MK(b:PS X st t)(c:BU X rest u):BU X (st::rest) (aFw t u):=by
 intro pins s σ H D I h;refine wpAny_execs_cons (b6 (b pins s σ H {D with nx:=u D} I h) λf s1 q=>?_)
 cases f with
 | next=>
  obtain⟨a,H',d,q⟩:=q;exact c pins s1 a H' D d q
 | ret v=>exact q
 | brk=>exact q
 | cont=>exact q
theorem SH(a:PS X st t):BU X [st] t:=by
 intro pins s σ H D I h;refine wpAny_execs_cons (b6 (a pins s σ H D I h) λf s1 q=>?_)
 cases f with
 | next=>exact aLh q
 | ret v=>exact q
 | brk=>exact q
 | cont=>exact q
theorem Inv.quiet{pins:List (Addr×Obj)}{σ:St}(I:Inv X pins σ H s):interactive X.env=false:=by simp[interactive,I.ok.kind]
def aBm(te:TE):TS:=λD σ H=>te σ H λ_ a=>D.nx σ a
theorem SJ(he:PE X e te)(b:swapsWith e none pos.line X.env=pure false:=by rfl):PS X (.Expr e pos) (aBm te):=by
 intro pins s σ H D I h;exact wpAny_Expr_any (b6 (he pins s σ H _ I h) λv s1 a=>by obtain⟨x,c,d,r1,q1⟩:=a;exact⟨σ,c,d,q1⟩) I.quiet b
def aFx(te:TE):TS:=λD σ H=>te σ H D.rt
theorem XR(he:PE X e te):PS X (.Return (some e) pos) (aFx te):=by
 intro pins s σ H D I h;exact wpAny_Return_some (b6 (he pins s σ H _ I h) λv s1 a=>by obtain⟨x,b,c,r1,q1⟩:=a;exact⟨x,σ,b,c,r1,q1⟩)
def aG2(c:TT)(t u:TS):TS:=λD σ H=>c σ H λb a=>if b=true then t D σ a else u D σ a
theorem aCb{c:Expr}{a b:List Stmt}{f:TT}(j:PT X c f)(k:BU X a t)(l:BU X b u):PS X (.If c a b pos) (aG2 f t u):=by
 intro pins s σ H D I h;refine wpAny_If (b6 (j pins s σ H _ I h) λd s1 e=>?_);obtain⟨g,i,q1⟩:=e
 cases d with
 | true=>exact k pins s1 σ g D i q1
 | false=>exact l pins s1 σ g D i q1
end
abbrev TG:=V->St->Hp->(St->Hp->Prop)->Prop
abbrev IF:=List V->St->Hp->(St->Hp->Prop)->Prop
def PG(X:Cx)(a:Expr)(t:TG):Prop:=
 ∀(pins:List (Addr×Obj)) (s:Shared) (σ:St) (H:Hp) (v:V) (u:Value) (Q:St->Hp->Prop),Inv X pins σ H s->RelV v u->t v σ H Q->
  wpAny (model X.prog X.w) X.A (assign a X.env u) (λ_ c =>∃b H',Inv X pins b H' c /\Q b H') X.xe s
def PGs(X:Cx)(b:List Expr)(t:IF):Prop:=
 ∀(pins:List (Addr×Obj)) (s:Shared) (σ:St) (H:Hp) (vs:List V) (us:List Value) (Q:St->Hp->Prop),Inv X pins σ H s->Vals vs us->t vs σ H Q->
  wpAny (model X.prog X.w) X.A (assignInOrder ((assignEach b X.env).map (·.2)) us) (λ_ c =>∃a H',Inv X pins a H' c /\Q a H') X.xe s
abbrev aAw:=V->V->V->Hp->(Hp->Prop)->Prop
def aEn(X:Cx)(t:aAw):Prop:=
 ∀(pins:List (Addr×Obj)) (s:Shared) (σ:St) (H:Hp) (o i v:V) (a b u:Value) (Q:Hp->Prop),Inv X pins σ H s->RelV o a->RelV i b->RelV v u->t o i v H Q->
  wpAny (model X.prog X.w) X.A (setItem a b u) (λ_ c =>∃H',Inv X pins σ H' c /\Q H') X.xe s
section
variable {X:Cx}{pos:Pos}
def o7(i:Nat):TG:=λv σ H Q=>Q (σ.set i (some v)) H
theorem SS{i:Nat}{x:Str}(hN:X.N.Nodup)(hi:X.N[i]? =some x)(a:Loc X.env.scope x)(b:X.fn x=true\/X.env.scope.names.lookup x=some .local:=by first | exact .inl rfl | exact .inr rfl | assumption):PG X (.Name x pos) (o7 i):=by
 intro pins s σ H v u Q I r h;exact wpAny_assign_Name (qF I hN hi a r (λd c =>⟨_,H,c,h⟩) b)
def O7:IF:=λvs σ H Q=>vs=[]/\Q σ H
def DL(t:TG)(u:IF):IF:=λvs σ H Q=>∃v r,vs=v::r/\t v σ H λa H' =>u r a H' Q
theorem SR:PGs X [] O7:=by
 intro pins s σ H vs us Q I r h;obtain⟨e,h⟩:=h;subst e;cases r;exact assignInOrder_nil ⟨σ,H,I,h⟩
theorem MS{es:List Expr}{t:TG}{u:IF}(c:PG X e t)(d:PGs X es u)
  (f:(assignEach (e::es) X.env).map (·.2)=assign e X.env::(assignEach es X.env).map (·.2):=by rfl):PGs X (e::es) (DL t u):=by
 intro pins s σ H vs us Q I r h;obtain⟨v,l,g,h⟩:=h;subst g
 cases r with
 | cons r i=>
  rw[f];refine assignInOrder_cons (b6 (c pins s σ H _ _ _ I r h) λ_ s1 a=>?_);obtain⟨b,j,k,q1⟩:=a;exact d pins s1 b j _ _ Q k i q1
def aA4(K:aLw)(n:Nat)(t:IF):TG:=λv σ H Q=>∃a xs,v= .ref a/\uL K H a xs/\xs.length=n/\t xs σ H Q
theorem XX{es:List Expr}{k:Nat}{t:IF}{n:Nat}(g:X.calm=true)(h:PGs X es t)
  (i:(assignEach es X.env).length=n:=by rfl) (c:(assignEach es X.env).findIdx? (·.1)=none:=by rfl):PG X (.Tuple es k pos) (aA4 X.K n t):=by
 intro pins s σ H v u Q I r d;obtain⟨a,xs,j,l,m,d⟩:=d;subst j;cases r;obtain⟨aL,f,ht,hz⟩:=I.tuple l;refine assign_Tuple_tuple (I.ok.hd g) ht (by simp[i,<-m,f.length]) c λh' p=>?_;have q:Inv X pins σ H {s with heap:=h'}:=I.kept (t' :=s.toks) λb o e=>p b o (aI4 (aHz e)) e;exact h pins _ σ H xs _ Q q (by simpa using f) d
def aHe(to a:TE)(t:aAw):TG:=λv σ H Q=>to σ H λo b=>a σ b λi c=>t o i v c λd=>Q σ d
theorem XY{o i:Expr}{to f:TE}{t:aAw}(ho:PE X o to)(hi:PE X i f)(g:aEn X t)
  (j:∀v,assign (.Subscript o i pos) X.env v=(do
   let a<-holding [v] (eval o X.env)
   let b<-holding [v,a] (eval i X.env)
   standAt pos
   holding [v,a,b] (setItem a b v)
   release [v,a,b] []):=by intro _;rfl):PG X (.Subscript o i pos) (aHe to f t):=by
 intro pins s σ H v u Q I r h;rw[j];refine aHs (aIj (b6 (ho pins s σ H _ I h) λa s1 c=>?_));obtain⟨x,k,l,r1,q1⟩:=c;refine aHs (aIj (b6 (hi pins s1 σ k _ l q1) λb s2 d=>?_));obtain⟨y,m,n,r2,q2⟩:=d;refine aHs (aJd (aHs (aIj (b6 (g pins s2 σ m x y v a b u _ n r1 r2 r q2) λ_ w e=>?_))));obtain⟨p,q,q3⟩:=e;exact wpAny_release ⟨σ,p,q,q3⟩
def LQ(te:TE)(g:TG):TS:=λD σ H=>te σ H λx a=>g x σ a D.nx
theorem MP{tg e:Expr}{te:TE}{g:TG}(he:PE X e te)(hg:PG X tg g)(a:swapsWithSole [tg] e pos.line X.env=pure false:=by rfl)(b:swappedStores [tg] e X.env=pure none:=by rfl)
  (c:(assignEach [tg] X.env).map (·.2)=[assign tg X.env]:=by rfl):PS X (.Assign [tg] e pos) (LQ te g):=by
 intro pins s σ H D I h;refine wpAny_Assign_stores (b6 (he pins s σ H _ I h) λv s1 ⟨x,d,f,r1,q1⟩=>?_) a b;rw[c];exact b6 (hg pins s1 σ d x v _ f r1 q1) λ_ s2 q=>q
theorem XQ{i:Nat}{x:Str}{te:TE}{a :Pos}(hN:X.N.Nodup)(hi:X.N[i]? =some x)(b:Loc X.env.scope x)(he:PE X e te)(c:swapsWith e (some (.Name x a)) pos.line X.env=pure false:=by rfl)(d:X.fn x=true\/X.env.scope.names.lookup x=some .local:=by first | exact .inl rfl | exact .inr rfl | assumption):
  PS X (.Assign [.Name x a] e pos) (LQ te (o7 i)):=by
 intro pins s σ H D I h;refine wpAny_Assign_Name (b6 (he pins s σ H _ I h) λv s1 ⟨y,f,g,r1,q1⟩=>?_) c;exact qF g hN hi b r1 (λs2 j=>⟨_,f,j,q1⟩) d
def aFy(i j:Nat)(a:TA):TS:=λD σ H=>a σ H λvs b=>∃v w,vs=[v,w]/\D.nx ((σ.set i (some v)).set j (some w)) b
theorem XS{i j:Nat}{x y:Str}{a b:Expr}{r:TA}{g k pt:Pos}{kt k2 pt2}(C:X.calm=true)(hN:X.N.Nodup)(hi:X.N[i]? =some x)(E:X.N[j]? =some y)(l:i≠j)
  (t:X.env.scope.names.lookup x=some .local) (u:X.env.scope.names.lookup y=some .local) (F:PA X [a,b] r)
  (G:swappedStores [.Tuple [.Name x g,.Name y k] kt pt] (.Tuple [a,b] k2 pt2) X.env=pure (some [x,y]))
  (J:swapsWithSole [.Tuple [.Name x g,.Name y k] kt pt] (.Tuple [a,b] k2 pt2) pos.line X.env=pure false:=by rfl):
  PS X (.Assign [.Tuple [.Name x g,.Name y k] kt pt] (.Tuple [a,b] k2 pt2) pos) (aFy i j r):=by
 intro pins s σ H D I h;rw[exec_Assign_arm];refine aHs (aJd ?_);rw[J];refine aHs (aHt ?_);rw[if_neg (by decide)];refine aHs (Tuple_ (b6 (F _ pins s σ H _ I h) λus s1 f=>?_));obtain⟨vs,z,K,r1,q1⟩:=f;obtain⟨v,w,L,q1⟩:=q1;subst L
 obtain⟨c,d,rfl,M,m⟩:∃c d,us=[c,d]/\RelV v c/\RelV w d:=by
  cases r1 with
  | cons p q=>
   cases q with
   | cons O P =>
    cases P;exact⟨_,_,rfl,p,O⟩
 refine aIe ?_ (by show 2<=sizeLine;decide);have Q:Inv X pins σ z {s1 with heap:=s1.heap.push {cls:= .type "tuple",data:= .seq [c,d].toArray}}:=K.kept (t' :=s1.toks) λb o e=>aHu _ e;rw[G];refine aHs (aHt ?_);show wpAny (model X.prog X.w) X.A (do rule "assign.swapped-stores";let items<-unpackItems (.ref s1.heap.objs.size) 2 none;assignInOrder [λv=>bindName X.env y v,λv=>bindName X.env x v] items.reverse;pure Flow.next) _ _ _;refine aHs (aJ0 (aHs (unpackItems_tuple (items:= #[c,d]) (I.ok.hd C) (IsTup.new s1.heap _) λh' n =>?_)));have R:=Q.kept (h' :=h') (t' :=s1.toks) λb o e=>n b o (aI4 (aHz e)) e;show wpAny _ _ (assignInOrder [λv=>bindName X.env y v,λv=>bindName X.env x v] [d,c] >>=λ_=>pure Flow.next) _ _ _;refine aHs (assignInOrder_cons (wpAny_bindName (qF R hN E (.inl u) m (λs2 S=>?_) (.inr u))));refine assignInOrder_cons (wpAny_bindName (qF S hN hi (.inl t) M (λT B=>assignInOrder_nil (aHt ?_)) (.inr t)));rw[List.set_comm _ _ (Ne.symm l)]at B;exact⟨_,z,B,q1⟩
end
section
variable {X:Cx}{pos:Pos}
def W6(c:TT)(tb:TS):TS:=λD σ H=>∃W:Nat->St->Hp->Prop,(∃m,W m σ H)/\∀m σ H,W m σ H->
 c σ H λb d=>if b=true then ∃N:St->Hp->Prop,(∀a H',N a H' ->∃e,e<m/\W e a H')/\tb {D with nx:=N,ct:=N,bk:=D.nx} σ d else D.nx σ d
theorem ML{c:Expr}{body:List Stmt}{p:TT}{tb:TS}(q:PassesOwn (model X.prog X.w) X.A X.env X.xe)(x:PT X c p)(y:BU X body tb):PS X (.While c body [] pos) (W6 p tb):=by
 intro pins s σ H D I h;obtain⟨W,⟨m0,z⟩,e⟩:=h;refine wpAny_While (codeAny_whileLoop (λn B =>∃g H',Inv X pins g H' B /\W n g H') ?_ m0 ⟨σ,H,I,z⟩);rintro n s1 ⟨d,r,C,E⟩;refine aJw q (b6 (x pins s1 d r _ C (e n d r E)) λb s2 i=>?_);obtain⟨t,u,q2⟩:=i
 cases b with
 | true=>
  obtain⟨N,hN,q2⟩:=q2;rw[if_pos rfl];refine aJw q (b6 (y pins s2 d t _ u q2) λf F q3=>?_)
  cases f with
  | next=>
   obtain⟨a,j,k,n3⟩:=q3;obtain⟨l,m,o⟩:=hN a j n3;exact⟨l,m,a,j,k,o⟩
  | cont=>
   obtain⟨a,j,k,n3⟩:=q3;obtain⟨l,m,o⟩:=hN a j n3;exact⟨l,m,a,j,k,o⟩
  | brk=>exact q3
  | ret v=>exact q3
 | false=>
  rw[if_neg Bool.false_ne_true];exact aLh ⟨d,t,u,q2⟩
end
structure It where
 go:Nat->Hp->Prop
 QZ:Nat->Hp->V->Hp->Prop
 stop:Nat->Hp->Prop
def pO(X:Cx)(pins:List (Addr×Obj))(H:Hp)(b:Addr):Prop:=
 H b=none/\b≠X.env.locals/\b∉X.fs/\(b∈X.ex\/X.s₀.heap.objs.size<=b)/\(∀x c,X.env.cells.lookup x=some c->c≠b)/\∀p∈X.pn++pins,p.1≠b
variable{pins:List (Addr×Obj)}{σ:St}
theorem Inv.DO{X:Cx}{H H' :Hp}(I:Inv X pins σ H s)(a:s.heap.objs.size<=b)(d:H' b=none):pO X pins H' b:=by
 refine⟨d,aJ4 (aIb I.lt a),I.aH1 a,.inr (aIa I.sz a),λx c e z=>?_,λp f z=>?_⟩
 ·obtain⟨v,q⟩:=I.cell x c e;exact absurd (aIb q.lt (by rw[z];exact a)) (aJc _)
 ·exact absurd (aIb (aHz (I.pin p f).1) (by rw[z];exact a)) (aJc _)
structure Turn(P:Program)(w:World)(K:aLw)(tg:Expr)(J:It)(fp:List Addr)(it:Addr)(tn:Nat->Heap->Prop):Prop where
 mem:it∈fp
 obj:∀i h,tn i h->∀b∈fp,∃o,h.get? b=some o/\∀v,o.data≠ .cell v
 keep:∀i h h',tn i h->(∀b∈fp,∀o,h.get? b=some o->h'.get? b=some o)->tn i h'
 item:∀(X:Cx),X.prog=P->X.w=w->X.K=K->X.calm=true->∀(i:Nat) (pins:List (Addr×Obj)) (s:Shared) (σ:St) (H:Hp) (E:aLx),Inv X pins σ H s->(∀b∈fp,pO X pins H b)->tn i s.heap->J.go i H->
  wpAny (model P w) X.A (pyNext (.ref it)) (λr s1=>∃u,r=some u/\
   wpAny (model P w) X.A (letOwnedTupleGo tg (.ref it) u) (λ_ s2=>∃x H',Inv X pins σ H' s2/\RelV x u/\J.QZ i H x H' /\tn (i+1) s2.heap/\∀b∈fp,H' b=none) E s1) E s
 done:∀(X:Cx),X.prog=P->X.w=w->X.K=K->X.calm=true->∀(i:Nat) (pins:List (Addr×Obj)) (s:Shared) (σ:St) (H:Hp) (E:aLx),Inv X pins σ H s->(∀b∈fp,pO X pins H b)->tn i s.heap->J.stop i H->
  wpAny (model P w) X.A (pyNext (.ref it)) (λr s1=>r=none/\Inv X pins σ H s1) E s
 self:∀(A:Around) (i:Nat) (s:Shared) (Q:aLx) (E:aLx),tn i s.heap->Q (.ref it) s->wpAny (model P w) A (pyIter (.ref it)) Q E s
abbrev TI:=St->Hp->(It->Hp->Prop)->Prop
def PIE(X:Cx)(pins:List (Addr×Obj))(σ:St)(tg:Expr)(R:It->Hp->Prop)(a:Value)(s2:Shared):Prop:=
 ∃(it:Addr) (fp:List Addr) (tn:Nat->Heap->Prop) (J:It) (H' :Hp),a= .ref it/\Inv X pins σ H' s2/\Turn X.prog X.w X.K tg J fp it tn/\tn 0 s2.heap/\(∀b∈fp,pO X pins H' b)/\R J H'
def PI(X:Cx)(tg iter:Expr)(wi:TI):Prop:=
 ∀(pins:List (Addr×Obj)) (s:Shared) (σ:St) (H:Hp) (R:It->Hp->Prop),Inv X pins σ H s->wi σ H R->
  wpAny (model X.prog X.w) X.A (eval iter X.env) (λv s1=>wpAny (model X.prog X.w) X.A (pyIter v) (PIE X pins σ tg R) X.xe s1) X.xe s
variable{tg:Expr}
theorem HU{M:Model}{it:Addr}{n:String}{vs:Array Value}{Q:Unit->Shared->Prop}(ho:s.heap.get? it=some o)(b:o.cls= .type n)(hd:o.data= .fields vs)
    (c:["enumerate","zip","dict_itemiterator","dict_reverseitemiterator","odict_iterator","itertools.zip_longest","itertools.pairwise"].contains n=false) (a:Q () s):wpAny M A (letOwnedTupleGo tg (.ref it) u) Q E s:=by
  unfold letOwnedTupleGo
  cases tg <;> first
    | exact aHt a
    | (cases u <;> first
        | exact aHt a
        | (refine aHs (aLk ho ?_)
           rw[b,hd];show wpAny M A (if (["enumerate","zip","dict_itemiterator","dict_reverseitemiterator","odict_iterator","itertools.zip_longest","itertools.pairwise"].contains n && vs[0]? ==some (rawInt _))=true then _ else _) Q E s;rw[if_neg (by intro h;rw[c,Bool.false_and]at h;cases h)]
           exact aHt a))
def Itl(K:aLw)(a:Addr):It:=
 ⟨λi H=>∃xs x,rB K H a xs/\xs[i]? =some x,λi H x H' =>H' =H/\∀xs,rB K H a xs->xs[i]? =some x,λi H=>∃xs,rB K H a xs/\xs.length<=i⟩
def Itt(K:aLw)(a:Addr):It:=
 ⟨λi H=>∃xs x,uL K H a xs/\xs[i]? =some x,λi H x H' =>H' =H/\∀xs,uL K H a xs->xs[i]? =some x,λi H=>∃xs,uL K H a xs/\xs.length<=i⟩
def Itr(lo:Int)(n:Nat):It:=⟨λi _=>i<n,λi H x H' =>H' =H/\x= .int (lo+i),λi _=>n<=i⟩
variable{K:aLw}
theorem IM(a it:Addr):Turn P w K tg (Itl K a) [it] it (λi h=>h.IsListIter it a i) where
 mem:=by simp
 obj:=λi h st b f=>by
  have e:b=it:=by simpa using f
  subst e;obtain⟨o,e,c,d⟩:=st;exact⟨o,e,λv z=>by rw[d]at z;cases z⟩
 keep:=λi h h' st k=>st.at λo e=>k it (by simp) o e
 item:=by
  intro X m n q C i pins s σ H E I j st hg;subst m n q;obtain⟨xs,x,l,r⟩:=hg;obtain⟨aL,t,p,hz⟩:=I.list l;obtain⟨u,D,F⟩:=t.get r;obtain⟨f0,f1,G,y,A,B⟩:=j it (by simp);refine wpAny_pyNext_list_item st p.isList (x:=u) (by simpa using D) λh' g J=>?_;have L:Inv X pins σ H {s with heap:=h'}:=I.turned (t' :=s.toks) (λb o f e=>(J.2 b f).trans e) f0 f1 y A B;obtain⟨o,e,c,d⟩:=id g;exact⟨u,rfl,HU (s:={s with heap:=h'}) e c d (by decide) ⟨x,H,L,F,⟨rfl,λO M=>by rw[I.C3 M l];exact r⟩,g,λb f=>(j b f).1⟩⟩
 done:=by
  intro X m n q C i pins s σ H E I j st hg;subst m n q;obtain⟨xs,l,r⟩:=hg;obtain⟨aL,t,p,hz⟩:=I.list l;obtain⟨f0,f1,G,y,A,B⟩:=j it (by simp);have Q:=t.length
  exact wpAny_pyNext_list_end (I.ok.hd C) st p.isList (by simp;lia) λh' N=>⟨rfl,I.turned (t' :=s.toks) (λb o f e=>N b o f e) f0 f1 y A B⟩
 self:=λ_ _ _ _ _ st h=>wpAny_pyIter_listiter st h
theorem EM(a it:Addr):Turn P w K tg (Itt K a) [it] it (λi h=>h.IsTupleIter it a i) where
 mem:=by simp
 obj:=λi h st b f=>by
  have e:b=it:=by simpa using f
  subst e;obtain⟨o,e,c,d⟩:=st;exact⟨o,e,λv z=>by rw[d]at z;cases z⟩
 keep:=λi h h' st k=>st.at λo e=>k it (by simp) o e
 item:=by
  intro X m n q C i pins s σ H E I j st hg;subst m n q;obtain⟨xs,x,l,r⟩:=hg;obtain⟨aL,t,p,hz⟩:=I.tuple l;obtain⟨u,D,F⟩:=t.get r;obtain⟨f0,f1,G,y,A,B⟩:=j it (by simp);refine wpAny_pyNext_tuple_item st (show s.heap.IsTuple a aL.toArray from p) (x:=u) (by simpa using D) λh' g J=>?_;have L:Inv X pins σ H {s with heap:=h'}:=I.turned (t' :=s.toks) (λb o f e=>(J.2 b f).trans e) f0 f1 y A B;obtain⟨o,e,c,d⟩:=id g;exact⟨u,rfl,HU (s:={s with heap:=h'}) e c d (by decide) ⟨x,H,L,F,⟨rfl,λO M=>by rw[I.yB M l];exact r⟩,g,λb f=>(j b f).1⟩⟩
 done:=by
  intro X m n q C i pins s σ H E I j st hg;subst m n q;obtain⟨xs,l,r⟩:=hg;obtain⟨aL,t,p,hz⟩:=I.tuple l;obtain⟨f0,f1,G,y,A,B⟩:=j it (by simp);have Q:=t.length
  exact wpAny_pyNext_tuple_end (I.ok.hd C) st (show s.heap.IsTuple a aL.toArray from p) (by simp;lia) λh' N=>⟨rfl,I.turned (t' :=s.toks) (λb o f e=>N b o f e) f0 f1 y A B⟩
 self:=λ_ _ _ _ _ st h=>wpAny_pyIter_tupleiter st h
theorem EN(it:Addr)(lo:Int)(n:Nat):Turn P w K tg (Itr lo n) [it] it (λi h=>IsRangeIter h it (lo+(i:Nat)*1) ((n:Int)-(i:Nat)) 1) where
 mem:=by simp
 obj:=λi h st b a=>by
  have e:b=it:=by simpa using a
  subst e
  exact⟨_,st,λv z=>by
   have r :Data.fields _=Data.cell v:=z
   cases r⟩
 keep:=λi h h' st k=>k it (by simp) _ st
 item:=by
  intro X f g j l i pins s σ H E I d st hg;subst f g j;obtain⟨f0,f1,u,m,p,q⟩:=d it (by simp);have W:=Walks.range (prog:=X.prog) (w:=X.w) (I.ok.hd l) it lo 1 n;refine W.item i s _ _ hg st λv h' tk hv c kk=>?_;obtain⟨t,rfl⟩:=hv;have x:Inv X pins σ H {s with heap:=h',toks:=tk}:=I.turned (λb o a e=>kk b o (by simpa using a) e) f0 f1 m p q;refine⟨_,rfl,HU (s:={s with heap:=h',toks:=tk}) (n:= "range_iterator") c rfl rfl (by decide) ⟨.int (lo+i),H,x,⟨t,?_⟩,⟨rfl,rfl⟩,c,λb a=>(d b a).1⟩⟩;rw[Int.mul_one]
 done:=by
  intro X f g j l i pins s σ H E I d st hg;subst f g j;obtain⟨f0,f1,u,m,p,q⟩:=d it (by simp)
  exact wpAny_pyNext_range_end (I.ok.hd l) st (by have:n<=i:=hg;lia) λh' y=>⟨rfl,I.turned (t' :=s.toks) (λb o a e=>y b o a e) f0 f1 m p q⟩
 self:=λ_ _ _ _ _ st h=>wpAny_pyIter_rangeiter st h
section
variable {X:Cx}{tg:Expr}
theorem CM{R:It->Hp->Prop}{lo hi:Int}{t u v:Tok}{tk:Nat}(I:Inv X pins σ H s)(c: -(2^62)<=lo)(d:lo<2^62)(f: -(2^62)<=hi)(g:hi<2^62)
  (q:R (Itr lo (hi-lo).toNat) H):wpAny (model X.prog X.w) X.A (pyIter (.ref s.heap.objs.size)) (PIE X pins σ tg R) E {s with heap:=s.heap.push {cls:= .type "range",data:= .fields #[.int lo t,.int hi u,.int 1 v]},toks:=tk}:=by
 refine wpAny_pyIter_range (IsRange.new ..) (small_one c d f g) ?_;have a:Inv X pins σ H {s with heap:=s.heap.push {cls:= .type "range",data:= .fields #[.int lo t,.int hi u,.int 1 v]},toks:=tk}:=I.kept λb o e=>aHu _ e
 refine⟨(s.heap.push {cls:= .type "range",data:= .fields #[.int lo t,.int hi u,.int 1 v]}).objs.size,[(s.heap.push {cls:= .type "range",data:= .fields #[.int lo t,.int hi u,.int 1 v]}).objs.size],_,_,H,rfl,
  a.kept (t' :=tk) λb o e=>aHu _ e,EN _ lo (hi-lo).toNat,?_,λb h=>?_,q⟩
 ·have i:lo+((0:Nat):Int)*1=lo:=by simp
  have j:(((hi-lo).toNat:Nat):Int)-((0:Nat):Int)=Builtin.Range.rangeSize lo hi 1:=by rw[rangeSize_one];split <;> lia
  show IsRangeIter _ _ (lo+((0:Nat):Int)*1) ((((hi-lo).toNat:Nat):Int)-((0:Nat):Int)) 1;rw[i,j];exact aHy _ rfl
 ·have e:b=(s.heap.push {cls:= .type "range",data:= .fields #[.int lo t,.int hi u,.int 1 v]}).objs.size:=by simpa using h
  subst e;exact a.DO (aHw _) (a.bJ.fresh (aHw _))
def aDn(a:TA):TI:=λσ H R=>a σ H λvs b=>∃j:Int,vs=[.int j]/\ -(2^62)<=j/\j<2^62/\R (Itr 0 j.toNat) b
def aDm(a:TA):TI:=λσ H R=>a σ H λvs b=>∃i j:Int,vs=[.int i,.int j]/\(-(2^62)<=i/\i<2^62/\ -(2^62)<=j/\j<2^62)/\R (Itr i (j-i).toNat) b
theorem JC{a:Expr}{b:TA}{p pos:Pos}(hg:Gl X "range")(c:X.mg "range"=none)(d:PA X [a] b)(f:starEach [a] X.env=[(false,eval a X.env)]:=by rfl):PI X tg (.Call (.Name "range" p) [a] [] pos) (aDn b):=by
 intro pins s σ H R I h;refine Call_ (iQ I hg c boot_range (aIt (b6 (d pos pins s σ H _ I h) λus s1 ⟨vs,k,g,r1,q1⟩=>?_) f rfl));obtain⟨j,e,q1,q2,q⟩:=q1;subst e
 cases r1 with
 | cons r i=>
  cases i;obtain⟨t,rfl⟩:=r;exact call_range_1 (CM g (by lia) (by lia) q1 q2 (by simpa using q))
theorem JB{a b:Expr}{f:TA}{p pos:Pos}(hg:Gl X "range")(g:X.mg "range"=none)(k:PA X [a,b] f)(l:starEach [a,b] X.env=[(false,eval a X.env),(false,eval b X.env)]:=by rfl)(c:starEach [b] X.env=[(false,eval b X.env)]:=by rfl):
  PI X tg (.Call (.Name "range" p) [a,b] [] pos) (aDm f):=by
 intro pins s σ H R I h;refine Call_ (iQ I hg g boot_range (aIt (b6 (k pos pins s σ H _ I h) λus s1 ⟨vs,u,m,r1,q1⟩=>?_) (by rw[l,c]) (by rw[c];rfl)));obtain⟨i,j,e,⟨q1,q2,q3,n⟩,q⟩:=q1;subst e
 cases r1 with
 | cons r d=>
  cases d with
  | cons o d=>
   cases d;obtain⟨t,rfl⟩:=r;obtain⟨t',rfl⟩:=o;exact call_range_2 (CM m q1 q2 q3 n q)
def aG3(wi:TI)(g:TG)(tb:TS):TS:=λD σ H=>wi σ H λJ d=>∃W:Nat->Nat->St->Hp->Prop,(∃m,W 0 m σ d)/\∀i m σ H,W i m σ H->
 (J.stop i H/\D.nx σ H)\/(J.go i H/\∃N:St->Hp->Prop,(∀a H',N a H' ->∃c,c<m/\W (i+1) c a H')/\∀x H',J.QZ i H x H' ->g x σ H' λb e=>tb {D with nx:=N,ct:=N,bk:=D.nx} b e)
def rO(fp:List Addr)(h:Heap):List (Addr×Obj):=fp.filterMap λb=>(h.get? b).map λo=>(b,o)
variable{fp:List Addr}
theorem fY(a:b∈fp)(e:h.get? b=some o):(b,o)∈rO fp h:=aLl.mpr ⟨b,a,by rw[e];rfl⟩
theorem JG{p:Addr×Obj}(a:p∈rO fp h):p.1∈fp/\h.get? p.1=some p.2:=by
 obtain⟨b,c,e⟩:=aLl.mp a
 cases q:h.get? b with
 | none=>rw[q]at e;cases e
 | some o=>
  rw[q]at e;have d :(b,o)=p:=aIn e;subst d;exact⟨c,q⟩
theorem Inv.pinned(I:Inv X pins σ H s)(f:∀b∈fp,pO X pins H b)(ho:∀b∈fp,∃o,s.heap.get? b=some o/\∀v,o.data≠ .cell v):Inv X (pins++rO fp s.heap) σ H s:=
 I.G8 λp g=>(aI9.mp g).elim (λz=>I.pin p (aIh _ z)) λz=>by
  obtain⟨a,e⟩:=JG z;obtain⟨f0,f1,h,_⟩:=f p.1 a;obtain⟨o,c,d⟩:=ho p.1 a;rw[e]at c;cases c;exact⟨e,f0,f1,h,d⟩
theorem Inv.m6{pins a:List (Addr×Obj)}(I:Inv X (pins++a) σ H s):Inv X pins σ H s:=I.G8 λp b=>I.pin p (aIh _ (aJx _ b))
theorem XT{iter:Expr}{body:List Stmt}{wi:TI}{g:TG}{tb:TS}{pos:Pos}(z:PassesOwn (model X.prog X.w) X.A X.env X.xe)(Y:X.calm=true)(hi:PI X tg iter wi)(hg:PG X tg g)(c:BU X body tb)
  (hs:∀x,foldedSetIterable iter X.env x=pure x:=by intro _;rfl):PS X (.For tg iter body [] pos) (aG3 wi g tb):=by
 intro pins s σ H D I h;refine wpAny_For (b6 (hi pins s σ H _ I h) λv s1 h1=>b6 h1 λitv s2 h2=>?_) hs;obtain⟨it,fp,tn,J,H2,e,I2,T,P,Z,W,⟨m0,w0⟩,B⟩:=h2;subst e
 have j:∀{H' :Hp},(∀b∈fp,H' b=none)->∀b∈fp,pO X pins H' b:=λhn b c=>⟨hn b c,(Z b c).2⟩
 refine codeAny_forLoop_any (λn s' =>∃i k H',Inv X pins k H' s' /\tn i s'.heap/\(∀b∈fp,H' b=none)/\W i n k H') ?_ m0 ⟨0,σ,H2,I2,P,λb c=>(Z b c).1,w0⟩;rintro n s3 ⟨i,l,O,I3,C,E,w3⟩
 rcases B i n l O w3 with ⟨stop,qn⟩ | ⟨go,N,hN,step⟩
 ·refine aJw z (b6 (T.done X rfl rfl rfl Y i pins s3 l O X.xe I3 (j E) C stop) λr s4 F=>?_);obtain⟨Q,I4⟩:=F;subst Q;exact aLh ⟨l,O,I4,qn⟩
 ·refine aJw z (b6 (T.item X rfl rfl rfl Y i pins s3 l O X.xe I3 (j E) C go) λr s4 G=>?_);obtain⟨u,Q,h4⟩:=G;subst Q;refine aJw z (b6 h4 λ_ s5 K=>?_);obtain⟨x,H5,I5,r5,y5,y,R⟩:=K;have S :=I5.pinned (j R) (T.obj _ _ y);refine aJw z (b6 (hg _ s5 l H5 x u _ S r5 (step x H5 y5)) λ_ s6 L=>?_);obtain⟨U,H6,I6,q6⟩:=L;refine aJw z (b6 (c _ s6 U H6 _ I6 q6) λf V t=>?_)
  have again:∀{a:St} {p:Hp},Inv X (pins++rO fp s5.heap) a p V->N a p->∃m,m<n/\∃i k H',Inv X pins k H' V/\tn i V.heap/\(∀b∈fp,H' b=none)/\W i m k H' :=λ{a p} q M=>by
   obtain⟨m',hm,w7⟩:=hN a p M;refine⟨m',hm,i+1,a,p,q.m6,T.keep _ _ _ y λb c o e=>(q.pin (b,o) (aIh _ (aIh _ (fY c e)))).1,λb c=>?_,w7⟩;obtain⟨o,e,d⟩:=T.obj _ _ y b c;exact(q.pin (b,o) (aIh _ (aIh _ (fY c e)))).2.1
  cases f with
  | next=>obtain⟨a,p,q,M⟩:=t;exact again q M
  | cont=>obtain⟨a,p,q,M⟩:=t;exact again q M
  | brk=>obtain⟨a,p,q,t⟩:=t;exact⟨a,p,q.m6,t⟩
  | ret v=>obtain⟨x7,a,p,q,r7,t⟩:=t;exact⟨x7,a,p,q.m6,r7,t⟩
end
abbrev R2:=V->V->Hp->VK->Prop
def dW(X:Cx)(f:Value->Value->Sem Value)(r:R2):Prop:=
 ∀(pins:List (Addr×Obj)) (s:Shared) (σ:St) (H:Hp) (x y:V) (v u:Value) (Q:VK),Inv X pins σ H s->RelV x v->RelV y u->r x y H Q->
  wpAny (model X.prog X.w) X.A (f v u) (EP X pins σ Q) X.xe s
def UnR(X:Cx)(f:Value->Sem Value)(r:V->Hp->VK->Prop):Prop:=
 ∀(pins:List (Addr×Obj)) (s:Shared) (σ:St) (H:Hp) (x:V) (v:Value) (Q:VK),Inv X pins σ H s->RelV x v->r x H Q->
  wpAny (model X.prog X.w) X.A (f v) (EP X pins σ Q) X.xe s
def cE(X:Cx)(f:Value)(r:List V->Hp->VK->Prop):Prop:=
 ∀(pins:List (Addr×Obj)) (s:Shared) (σ:St) (H:Hp) (xs:List V) (us:List Value) (Q:VK),Inv X pins σ H s->Vals xs us->r xs H Q->
  wpAny (model X.prog X.w) X.A (call f us) (EP X pins σ Q) X.xe s
def aHn(X:Cx)(r:V->Hp->(Bool->Hp->Prop)->Prop):Prop:=
 ∀(pins:List (Addr×Obj)) (s:Shared) (σ:St) (H:Hp) (x:V) (v:Value) (Q:Bool->Hp->Prop),Inv X pins σ H s->RelV x v->r x H Q->
  wpAny (model X.prog X.w) X.A (truthy v) (TP X pins σ Q) X.xe s
def tOp(r:R2)(a tb:TE):TE:=λσ H Q=>a σ H λx b=>tb σ b λy c=>r x y c Q
def tUn(r:V->Hp->VK->Prop)(a:TE):TE:=λσ H Q=>a σ H λx b=>r x b Q
def rI(C:Int->Int->Prop)(g:Int->Int->V):R2:=λx y H Q=>∃i j,x= .int i/\y= .int j/\C i j/\Q (g i j) H
def R0(g:Int->Int->V):R2:=λx y H Q=>∃i j,x= .int i/\y= .int j/\Q (g i j) H
def rU(g:Int->V):V->Hp->VK->Prop:=λx H Q=>∃i,x= .int i/\Q (g i) H
section
variable {X:Cx}{a b c:Expr}{ta tb tc:TE}{pos:Pos}
variable{f:Value->Value->Sem Value}
theorem VI(k:PE X a ta)(l:PE X b tb){R:V->V->Hp->Prop}(I:Inv X pins σ H s)
  (h:ta σ H λx j=>tb σ j λy c=>R x y c) {Q:aLx} 
  (m:∀v u s2 x y c,Inv X pins σ c s2->RelV x v->RelV y u->R x y c->wpAny (model X.prog X.w) X.A (f v u) Q X.xe s2):
  wpAny (model X.prog X.w) X.A (eval a X.env) (λv d=>wpAny (model X.prog X.w) X.A (eval b X.env) (λu e=>wpAny (model X.prog X.w) X.A (f v u) Q X.xe e) X.xe d) X.xe s:=by
 refine b6 (k pins s σ H _ I h) λv s1 g=>?_;obtain⟨x,j,n,r1,q1⟩:=g;refine b6 (l pins s1 σ j _ n q1) λu s2 i=>?_;obtain⟨y,c,o,r2,q2⟩:=i;exact m v u s2 x y c o r1 r2 q2
theorem aCe{c:Operator}{r:R2}(ho:dW X (binaryOp c) r)(d:PE X a ta)(e:PE X b tb):PE X (.BinOp a c b pos) (tOp r ta tb):=by
 intro pins s σ H Q I h;exact wpAny_BinOp (VI d e I h λv u s2 x y f g i j q=>ho pins s2 σ f x y v u Q g i j q)
theorem aCd{c:UnaryOp}{r:V->Hp->VK->Prop}(ho:UnR X (unaryOp c) r)(d:PE X a ta):PE X (.UnaryOp c a pos) (tUn r ta):=by
 intro pins s σ H Q I h;exact UnaryOp_ (b6 (d pins s σ H _ I h) λv s1 b=>by obtain⟨x,e,f,r1,q1⟩:=b;exact ho pins s1 σ e x v Q f r1 q1)
variable{g:Int->Int->Int}
theorem opI{C:Int->Int->Prop}
  (rule:∀(i j:Int) (t u:Tok) (s:Shared) (Q:aLx) (E:aLx),C i j->Q (.int (g i j) s.toks) {s with toks:=s.toks+1}->wpAny (model X.prog X.w) X.A (f (.int i t) (.int j u)) Q E s):
  dW X f (rI C λi j=>.int (g i j)):=by
 intro pins s σ H x y v u Q I a b h;obtain⟨i,j,rfl,rfl,c,q⟩:=h;obtain⟨t,rfl⟩:=a;obtain⟨t',rfl⟩:=b;exact rule i j t t' s _ _ c ⟨.int (g i j),H,I.tok _,⟨_,rfl⟩,q⟩
theorem aCp
  (rule:∀(i j:Int) (t u:Tok) (s:Shared) (Q:aLx) (E:aLx),Q (.int (g i j) s.toks) {s with toks:=s.toks+1}->wpAny (model X.prog X.w) X.A (f (.int i t) (.int j u)) Q E s):
  dW X f (R0 λi j=>.int (g i j)):=by
 intro pins s σ H x y v u Q I a b h;obtain⟨i,j,rfl,rfl,q⟩:=h;obtain⟨t,rfl⟩:=a;obtain⟨t',rfl⟩:=b;exact rule i j t t' s _ _ ⟨.int (g i j),H,I.tok _,⟨_,rfl⟩,q⟩
theorem S6{g:Int->Int->Bool}
  (rule:∀(i j:Int) (t u:Tok) (s:Shared) (Q:aLx) (E:aLx),Q (.bool (g i j)) s->wpAny (model X.prog X.w) X.A (f (.int i t) (.int j u)) Q E s):
  dW X f (R0 λi j=>.bl (g i j)):=by
 intro pins s σ H x y v u Q I a b h;obtain⟨i,j,rfl,rfl,q⟩:=h;obtain⟨t,rfl⟩:=a;obtain⟨t',rfl⟩:=b;exact rule i j t t' s _ _ ⟨.bl (g i j),H,I,rfl,q⟩
def aEu(i j:Int):Prop:=0<j/\j<1073741824
def aAz(i j:Int):Prop:=0<=j/\j<=1000000/\i.natAbs<2^64
def KW(i j:Int):Prop:=(-(2^64)<i/\i<2^64)\/(-(2^64)<j/\j<2^64)
theorem KW.ok{i j:Int}(h:KW i j):IntMulOk i j:=by
 rcases h with ⟨a,b⟩ | ⟨a,b⟩
 ·exact .of_left (intBits_le_64 a b)
 ·exact .of_right (intBits_le_64 a b)
theorem YD:dW X (binaryOp .Add) (R0 λi j=>.int (i+j)):=aCp λ_ _ _ _ _ _ _ q=>add_int q
theorem X8:dW X (binaryOp .Sub) (R0 λi j=>.int (i-j)):=aCp λ_ _ _ _ _ _ _ q=>sub_int q
theorem YA:dW X (binaryOp .Mult) (rI KW λi j=>.int (i*j)):=opI λ_ _ _ _ _ _ _ a q=>mul_int q a.ok
theorem S4:dW X (binaryOp .FloorDiv) (rI aEu λi j=>.int (i / j)):=opI λi j _ _ _ _ _ a q=>by
 have b:(0:Int)<j:=a.1;have c:j<1073741824:=a.2;exact floordiv_int (by lia) (by rw[Int.fdiv_eq_ediv_of_nonneg i (by lia)];exact q) (.inl (PyProof.noPylong_small (by lia)))
theorem YB:dW X (binaryOp .Mod) (rI (λ_ j=>0<j) λi j=>.int (i % j)):=opI λi j _ _ _ _ _ a q=>by
 have b:(0:Int)<j:=a;exact mod_int' (by lia) (by rw[Int.fmod_eq_emod_of_nonneg i (by lia)];exact q)
theorem X9:dW X (binaryOp .Pow) (rI aAz λi j=>.int (i^j.toNat)):=opI λ_ _ _ _ _ _ _ a q=>pow_int_small a.1 a.2.1 a.2.2 q
theorem unI{f:Value->Sem Value}{g:Int->Int}
  (rule:∀(i:Int) (t:Tok) (s:Shared) (Q:aLx) (E:aLx),Q (.int (g i) s.toks) {s with toks:=s.toks+1}->wpAny (model X.prog X.w) X.A (f (.int i t)) Q E s):
  UnR X f (rU λi=>.int (g i)):=by
 intro pins s σ H x v Q I a h;obtain⟨i,rfl,q⟩:=h;obtain⟨t,rfl⟩:=a;exact rule i t s _ _ ⟨.int (g i),H,I.tok _,⟨_,rfl⟩,q⟩
theorem WX:UnR X (unaryOp .USub) (rU λi=>.int (-i)):=unI λ_ _ _ _ _ q=>neg_int q
end
section
variable {X:Cx}{a b c:Expr}{ta tb tc:TE}{pos:Pos}
theorem FW{Q:VK}{k a :Bool}(I:Inv X pins σ H s)(q:Q (.bl k) H)(e:k=a):EP X pins σ Q (.bool a) s:=by
 subst e;exact⟨.bl k,H,I,rfl,q⟩
theorem aCl:dW X (compareOp .Lt) (R0 λi j=>.bl (decide (i<j))):=S6 λ_ _ _ _ _ _ _ q=>lt_int q
theorem aCm:dW X (compareOp .LtE) (R0 λi j=>.bl (decide (i<=j))):=S6 λ_ _ _ _ _ _ _ q=>le_int q
theorem aCn:dW X (compareOp .Gt) (R0 λi j=>.bl (decide (j<i))):=S6 λ_ _ _ _ _ _ _ q=>gt_int q
theorem aCo:dW X (compareOp .GtE) (R0 λi j=>.bl (decide (j<=i))):=S6 λ_ _ _ _ _ _ _ q=>ge_int q
theorem JD:dW X (compareOp .Lt) (λx y H Q=>∃i j,x= .str i/\y= .str j/\Q (.bl (decide (i.cps.toList<j.cps.toList))) H):=by
 intro pins s σ H x y v u Q I a b h;obtain⟨i,j,rfl,rfl,q⟩:=h;obtain⟨t,rfl⟩:=a;obtain⟨t',rfl⟩:=b;exact lt_str (FW I q rfl)
theorem JE:dW X (compareOp .In) (λx y H Q=>∃i j,x= .str i/\y= .str j/\Q (.bl (!(Builtin.Str.occurrences j i 0 j.length 1).isEmpty)) H):=by
 intro pins s σ H x y v u Q I a b h;obtain⟨i,j,rfl,rfl,q⟩:=h;obtain⟨t,rfl⟩:=a;obtain⟨t',rfl⟩:=b;exact in_str (FW I q rfl)
theorem S3:dW X (compareOp .IsNot) (λx y H Q=>y= .bT/\Q (.bl (!decide (x= .bT))) H):=by
 intro pins s σ H x y v u Q I a b h;obtain⟨rfl,q⟩:=h;cases b;refine isnot_none_gen (FW I q ?_)
 cases x <;> first
  | (cases a;rfl)
  | (obtain⟨t,rfl⟩:=a;rfl)
variable{op:CmpOp}
theorem SW{r:R2}(ho:dW X (compareOp op) r)(c:PE X a ta)(d:PE X b tb)(e:behindInMarks op b=false):PE X (.Compare a [op] [b] pos) (tOp r ta tb):=by
 intro pins s σ H Q I h;exact wpAny_Compare1 (VI c d I h λv u s2 x y f g i j q=>ho pins s2 σ f x y v u Q g i j q) e
def LJ(t:TE):TT:=λσ H Q=>t σ H λx H' =>∃k,x= .bl k/\Q k H'
theorem SG{r:R2}(ho:dW X (compareOp op) r)(d:PE X a ta)(f:PE X b tb)(g:behindInMarks op b=false):PT X (.Compare a [op] [b] pos) (LJ (tOp r ta tb)):=by
 intro pins s σ H Q I h
 refine wpAny_isTrue_Compare1 (b6 (d pins s σ H _ I h) λv s1 ⟨x,i,j,r1,q1⟩=>b6 (f pins s1 σ i _ j q1) λu s2 ⟨y,l,m,r2,q2⟩=>
  b6 (ho pins s2 σ l x y v u _ m r1 r2 q2) λc p ⟨z,n,o,r3,k,e,q3⟩=>?_) g
 subst e;cases r3;exact aJa ⟨n,o,q3⟩
def LP(r b :R2)(ta tb tc:TE):TE:=λσ H Q=>ta σ H λx c=>tb σ c λy d=>r x y d λz a=>∃k,z= .bl k/\
 (if k=true then tc σ a λw' e=>b y w' e Q else Q (.bl false) a)
theorem MJ{op f :CmpOp}{r j :R2}(ho:dW X (compareOp op) r)(i :dW X (compareOp f) j)(n:PE X a ta)(o:PE X b tb)(p:PE X c tc)
  (q:lastMarks [op,f] [b,c]=false:=by with_unfolding_all rfl):PT X (.Compare a [op,f] [b,c] pos) (LJ (LP r j ta tb tc)):=by
 intro pins s σ H Q I h
 refine isTrue_chain (b6 (n pins s σ H _ I h) λv s1 ⟨x,t,w,r1,q1⟩=>test_link (b6 (o pins s1 σ t _ w q1) λu s2 ⟨y,A,B,r2,q2⟩=>
  b6 (ho pins s2 σ A x y v u _ B r1 r2 q2) λd C ⟨z,l,m,r3,k,e,q3⟩=>?_)) q
 subst e;cases r3;refine aJa ?_
 cases k with
 | false=>
  obtain⟨T,D,E⟩:=q3;cases D;exact ite_ff ⟨l,m,E⟩
 | true=>
  refine ite_tt (test_last (b6 (p pins C σ l _ m q3) λw' F ⟨G,J,K,L,M⟩=>b6 (i pins F σ J y G u w' _ K r2 L M) λd' U g=>?_));obtain⟨V,N,O,P,W,R,S⟩:=g;subst R;cases P;exact aJa ⟨N,O,S⟩
def aAv(K:aLw)(x:V)(H:Hp)(k:Bool):Prop:=
 match x with
 | .bT=>k=false
 | .bl b=>k=b
 | .int i=>k=(i !=0)
 | .str y=>y.length<=sizeLine/\k=((y.length:Int) !=0)
 | .byt y=>y.size<=sizeLine/\k=((y.size:Int) !=0)
 | .ref p=>(∃xs,rB K H p xs/\k= !xs.isEmpty)\/(∃xs,uL K H p xs/\k= !xs.isEmpty)\/∃kvs,H p=some (.dK kvs)/\k= !kvs.isEmpty
 | _=>False
theorem FR{κ:Type}{kvs:List (κ×V)}{vs:List (κ×Value)}(r:KV kvs vs):(!vs.isEmpty)= !kvs.isEmpty:=by
 cases r <;> rfl
theorem vR{xs:List V}{aL:List Value}(r:Vals xs aL):(!aL.toArray.isEmpty)= !xs.isEmpty:=by
 cases r <;> simp
theorem nG:(sizeLine:Nat)<2^63:=by rw[sizeLine_eq];decide
theorem W3:aHn X (λx H Q=>∃k,aAv X.K x H k/\Q k H):=by
 intro pins s σ H x v Q I d h;obtain⟨k,e,q⟩:=h;have n:=nG;have o:sizeLine=16777216:=aIf
 cases x with
 | bT=>
  cases d;have a :k=false:=e;subst a;exact truthy_none ⟨H,I,q⟩
 | bl b=>
  cases d;have a :k=b:=e;subst a;exact aJa ⟨H,I,q⟩
 | int i=>
  obtain⟨t,rfl⟩:=d;have a :k=(i !=0):=e;subst a;exact PySem.P.truthy_int ⟨H,I,q⟩
 | str y=>
  obtain⟨t,rfl⟩:=d;obtain⟨j,a⟩:y.length<=sizeLine/\k=((y.length:Int) !=0):=e;subst a;exact PySem.P.truthy_str (by lia) ⟨H,I.tok _,q⟩
 | byt y=>
  obtain⟨t,rfl⟩:=d;obtain⟨j,a⟩:y.size<=sizeLine/\k=((y.size:Int) !=0):=e;subst a;exact PySem.W.truthy_bytes (by lia) ⟨H,I.tok _,q⟩
 | ref p=>
  cases d;have a :(∃xs,rB X.K H p xs/\k= !xs.isEmpty)\/(∃xs,uL X.K H p xs/\k= !xs.isEmpty)\/∃kvs,H p=some (.dK kvs)/\k= !kvs.isEmpty:=e
  rcases a with ⟨xs,f,a⟩ | ⟨xs,f,a⟩ | ⟨kvs,f,a⟩
  ·subst a;obtain⟨aL,r,g,hz⟩:=I.list f;have c:=r.length;exact wpAny_truthy_list g.isList (by simp only[List.size_toArray];lia) ⟨H,I.tok _,by rw[vR r];exact q⟩
  ·subst a;obtain⟨aL,r,g,hz⟩:=I.tuple f;have c:=r.length;exact truthy_tuple g (by simp only[List.size_toArray];lia) ⟨H,I.tok _,by rw[vR r];exact q⟩
  ·subst a;obtain⟨hz,l,vs,r,m⟩:kvs.length<=sizeLine/\(p==sysModules)=false/\∃vs,KV kvs vs/\s.heap.DictOf (aS X.prog X.w) p vs:=I.bJ p _ f;have c:kvs.length=vs.length:=Paired.length r;exact wpAny_truthy_dict l m (by lia) ⟨H,I.tok _,by rw[FR r];exact q⟩
 | _=>exact(show False from e).elim
theorem MI(d:PE X a ta)(he:∀b,isTrue a X.env b=(do let v<-b;standAt a.pos;holding [v] (truthy v))):
  PT X a (λσ H Q=>ta σ H λx H' =>∃k,aAv X.K x H' k/\Q k H'):=by
 intro pins s σ H Q I h;exact isTrue_plain (b6 (d pins s σ H _ I h) λv s1 c=>by obtain⟨x,e,f,r1,q1⟩:=c;exact W3 pins s1 σ e x v Q f r1 q1) (he _)
theorem FA:dW X (binaryOp .Add) (λx y H Q=>∃i j,x= .str i/\y= .str j/\i.length+j.length<=sizeLine/\Q (.str (i++j)) H):=by
 intro pins s σ H x y v u Q I a b h;obtain⟨i,j,rfl,rfl,hz,q⟩:=h;obtain⟨t,rfl⟩:=a;obtain⟨t',rfl⟩:=b;exact add_str (λt' tk=>⟨.str (i++j),H,I.tok _,⟨_,rfl⟩,q⟩) hz
theorem vals1{x:V}(r:Vals [x] us):∃u,us=[u]/\RelV x u:=by
 cases r with
 | cons r1 r2=>cases r2;exact⟨_,rfl,r1⟩
theorem vals2{x y:V}(r:Vals [x,y] us):∃u w',us=[u,w']/\RelV x u/\RelV y w' :=by
 cases r with
 | cons r1 r2=>
  cases r2 with
  | cons r3 a=>cases a;exact⟨_,_,rfl,r1,r3⟩
theorem QA:cE X (.builtin "abs") (λxs H Q=>∃i,xs=[.int i]/\Q (.int (if i<0 then -i else i)) H):=by
 intro pins s σ H xs us Q I r h;obtain⟨i,rfl,q⟩:=h;obtain⟨u,rfl,t,rfl⟩:=vals1 r
 exact call_abs_int λu tk=>⟨.int (if i<0 then -i else i),H,I.tok _,⟨_,rfl⟩,q⟩
theorem KO(b:X.calm=true):cE X (.builtin "max") (λxs H Q=>∃i j,xs=[.int i,.int j]/\Q (.int (if j > i then j else i)) H):=by
 intro pins s σ H xs us Q I r h;obtain⟨i,j,rfl,q⟩:=h;obtain⟨u,w',rfl,⟨t,rfl⟩,⟨t',rfl⟩⟩:=vals2 r
 refine max_two_ints (I.ok.hd b) λh' tk k=>⟨_,H,I.kept k,?_,q⟩
 by_cases a:j > i
 ·rw[if_pos a,if_pos a];exact⟨_,rfl⟩
 ·rw[if_neg a,if_neg a];exact⟨_,rfl⟩
theorem KN(b:X.calm=true):cE X (.builtin "min") (λxs H Q=>∃i j,xs=[.int i,.int j]/\Q (.int (if j<i then j else i)) H):=by
 intro pins s σ H xs us Q I r h;obtain⟨i,j,rfl,q⟩:=h;obtain⟨u,w',rfl,⟨t,rfl⟩,⟨t',rfl⟩⟩:=vals2 r
 refine min_two_ints (I.ok.hd b) λh' tk k=>⟨_,H,I.kept k,?_,q⟩
 by_cases a:j<i
 ·rw[if_pos a,if_pos a];exact⟨_,rfl⟩
 ·rw[if_neg a,if_neg a];exact⟨_,rfl⟩
end
theorem w4.some_of{v:V}{o:Option Value}(r:w4 (some v) o):∃u,o=some u/\RelV v u:=by
 cases o with
 | none=>exact(show False from r).elim
 | some u=>exact⟨u,rfl,r⟩
structure gX(k:Nat)(A:Around):Prop where
 hd:A.handled=none
 dp:A.depth+3*k+5<recursionLimit
 un:A.units+16*k+200<cLine
theorem gX.mono{j k:Nat}(r:gX k A)(h:j<=k):gX j A:=⟨r.hd,by have:=r.dp;lia,by have:=r.un;lia⟩
theorem gX.deeper{k:Nat}(r:gX (k+1) A)(env:Env):gX k (A.deeper env):=
 ⟨r.hd,by have:=r.dp;show A.depth+1+3*k+5<_;lia,by have:=r.un;show A.units+3+16*k+200<_;lia⟩
theorem gX.depth{k:Nat}(r:gX k A):A.depth<recursionLimit:=by have:=r.dp;lia
theorem gX.units{k:Nat}(r:gX k A):A.units+64<cLine:=by have:=r.un;lia
def aBk:TA:=λ_ H Q=>Q [] H
def V4(a:TE)(tr:TA):TA:=λσ H Q=>a σ H λx b=>tr σ b λxs c=>Q (x::xs) c
section
variable {X:Cx}{e:Expr}{es:List Expr}{te:TE}{t:TA}{pos:Pos}
theorem vB:PA X [] aBk:=λ_ _ _ _ H Q I h=>aKe ⟨[],H,I,.nil,h⟩
theorem uB(c:PE X e te)(d:PA X es t)(f:starEach (e::es) X.env=(false,eval e X.env)::starEach es X.env:=by rfl):PA X (e::es) (V4 te t):=by
 intro pos pins s σ H Q I h;rw[f];show wpAny _ _ (spliced ((false,eval e X.env)::backTo pos (starEach es X.env))) _ _ s;refine aJk (b6 (c pins s σ H _ I h) λu s1 a=>?_);obtain⟨x,g,i,r1,q1⟩:=a;exact b6 (d pos pins s1 σ g _ i q1) λus s2 b=>by obtain⟨xs,j,k,r2,q2⟩:=b;exact⟨x::xs,j,k,.cons r1 r2,q2⟩
def aBh(t:TA):TE:=λσ H Q=>t σ H λxs a=>xs.length<=sizeLine/\∀p,a p=none->Q (.ref p) (upd a p (.tup xs))
def aG0(t:TA):TE:=λσ H Q=>t σ H λxs a=>xs.length<=sizeLine/\∀p,a p=none->Q (.ref p) (upd a p (.lst xs))
theorem MT{x1}(h:PA X es t):PE X (.Tuple es x1 pos) (aBh t):=by
 intro pins s σ H Q I d;refine wpAny_Tuple_spliced (b6 (h pos pins s σ H _ I d) λus s1 ⟨xs,a,c,r,z,q⟩=>⟨by rw[<-r.length];exact z,?_⟩);have f:a s1.heap.objs.size=none:=c.bJ.fresh (aHw _);refine⟨.ref s1.heap.objs.size,upd a s1.heap.objs.size (.tup xs),c.laid (t' :=s1.toks) (λb u e=>aHu _ e) (aHw _) ?_,rfl,q _ f⟩;exact⟨z,us,r,⟨_,aHy _ rfl,rfl,_,rfl⟩,uV _ _⟩
theorem X4(h:PA X es t):PE X (.List es pos) (aG0 t):=by
 intro pins s σ H Q I d;refine wpAny_List_spliced (b6 (h pos pins s σ H _ I d) λus s1 ⟨xs,a,c,r,z,q⟩=>⟨by rw[<-r.length];exact z,?_⟩);have f:a s1.heap.objs.size=none:=c.bJ.fresh (aHw _);refine⟨.ref s1.heap.objs.size,upd a s1.heap.objs.size (.lst xs),c.laid (t' :=s1.toks) (λb u e=>aHu _ e) (aHw _) ?_,rfl,q _ f⟩;exact⟨z,us,0,r,aHy _ rfl⟩
end
abbrev Sp:=List V->Hp->VK->XK->Prop
abbrev KY:=List Env->Hp->Shared->XK->aLx
structure VU(P:Program)(w:World)(K:aLw)(mg:aLz)(base:Heap)(A:Around)(outer:List Env)(s:Shared)(H:Hp):Prop where
 frames:A.frames=some outer
 mod:Mod K mg base
 bs:∀b o,base.get? b=some o->s.heap.get? b=some o/\H b=none
 VH:base.objs.size<=s.heap.objs.size
 vU:s.heap.FunFrames base outer
 frf:∀b∈O8 outer,H b=none
 bJ:rC P w H s.heap
 bare:AllBare s.gens
def CE(outer:List Env)(P:Program)(w:World)(H:Hp)(s:Shared)(Q:VK)(u:Value)(a :Shared):Prop:=
 ∃v H',a.os=s.os/\AllBare a.gens/\Un (O8 outer) [] H H' s.heap a.heap/\rC P w H' a.heap/\RelV v u/\Q v H'
def CR(CX:KY)(outer:List Env)(P:Program)(w:World)(H:Hp)(s:Shared)(Q:VK)(E:XK)(r:Result)(a :Shared):Prop:=
 match r with
 | .ok (.ret u)=>CE outer P w H s Q u a
 | .ok _=>False
 | .error e=>CX outer H s E e a
structure kX(P:Program)(w:World)(K:aLw)(mg:aLz)(base:Heap)(CX:KY)(k:Nat)(f:Addr)(fd:FuncData)(ps:List Str)(sp:Sp):Prop where
 len:∀vs H Q E,sp vs H Q E->vs.length=ps.length
 run:∀(A:Around) (outer:List Env) (s:Shared) (H:Hp) (args:Args) (us:List Value) (vs:List V) (Q:VK) (E:XK),gX k A->VU P w K mg base A outer s H->BindsTo s fd args (ps.zip us)->Vals vs us->sp vs H Q E->
  codeAny (model P w) A (.call (.ref f) args) (CR CX outer P w H s Q E) s
variable{mg:aLz}{base:Heap}{f:Addr}{fd:FuncData}{ps:List Str}
theorem kX.mono{CX:KY}{j k:Nat}{sp:Sp}(F:kX P w K mg base CX j f fd ps sp)(h:j<=k):
  kX P w K mg base CX k f fd ps sp:=⟨F.len,λA outer s H args us vs Q E a=>F.run A outer s H args us vs Q E (a.mono h)⟩
theorem kX.imp{CX:KY}{k:Nat}{sp a :Sp}(F:kX P w K mg base CX k f fd ps sp)
  (h:∀vs H Q E,a vs H Q E->sp vs H Q E):kX P w K mg base CX k f fd ps a :=
 ⟨λvs H Q E q=>F.len vs H Q E (h _ _ _ _ q),λA outer s H args us vs Q E b he c hv d=>F.run A outer s H args us vs Q E b he c hv (h _ _ _ _ d)⟩
section
variable {X:Cx}{pins:List (Addr×Obj)}{σ:St}{H:Hp}{s s' :Shared}
theorem Inv.aHg(I:Inv X pins σ H s):VU X.prog X.w X.K X.mg X.base X.A X.stack s H:=
 ⟨I.ok.frames,I.ok.mod,I.bs,aIa I.ok.VH I.sz,I.stack,I.G3,I.bJ,I.bare⟩
theorem Inv.after{Q:VK}(I:Inv X pins σ H s)(h:CE X.stack X.prog X.w H s Q u s'):EP X pins σ Q u s' :=by
 obtain⟨v,H',os,bare,un,bJ,r,q⟩:=h;obtain⟨c,g,d,t,a⟩:=s';obtain rfl:a =s.os:=os;exact⟨v,H',I.call (h' :=c) (g' :=g) (d' :=d) (t' :=t) (ch:=[]) un bJ bare (λb z=>absurd z (by simp)),r,q⟩
end
def aBo(sp:Sp)(a:List V)(E:XK)(t:TA):TE:=λσ H Q=>t σ H λvs b=>sp (vs++a) b Q E
def Binds(K:aLw)(fd:FuncData)(ps:List Str)(ds:List Value):Prop:=
 ∀(s:Shared) (us:List Value),K.In s.heap->(us++ds).length=ps.length->BindsTo s fd ⟨us,[]⟩ (ps.zip (us++ds))
theorem Binds.all(h:∀us:List Value,us.length=ps.length->bindArgs fd ⟨us,[]⟩=pure (ps.zip us)):Binds K fd ps []:=λs us _ a=>by
 rw[List.append_nil]at a⊢;exact .of_eq (h us a)
def Passes(CX:KY)(X:Cx)(E:XK):Prop:=∀(pins:List (Addr×Obj)) (σ:St) (H:Hp) (s:Shared) (e:Value) (a :Shared),Inv X pins σ H s->CX X.stack H s E e a ->X.xe e a
section
variable {X:Cx}{CX:KY}{k:Nat}{f C:Addr}{fd:FuncData}{ps:List Str}{sp:Sp}{dvs:List V}{ds:List Value}{E:XK}{x m:Str}{p pos apos:Pos}{e o:Expr}{es:List Expr}{ta:TE}{t:TA}
theorem XG{Q:VK}{vs:List V}(F:kX X.prog X.w X.K X.mg X.base CX k f fd ps sp)(b:gX k X.A)(c:Binds X.K fd ps ds)(hd:Vals dvs ds)(d:Passes CX X E)
  (I:Inv X pins σ H s) (r:Vals vs us) (h:sp (vs++dvs) H Q E):wpAny (model X.prog X.w) X.A (call (.ref f) us) (EP X pins σ Q) X.xe s:=by
 have r2:Vals (vs++dvs) (us++ds):=r.append hd;have g:(us++ds).length=ps.length:=by rw[<-r2.length];exact F.len _ _ _ _ h
 refine wpAny_call (aJy (F.run X.A X.stack s H ⟨us,[]⟩ (us++ds) (vs++dvs) Q E b I.aHg (c s us I.ZX g) r2 h) λr i a=>?_)
 cases r with
 | error e=>exact d pins σ H s e i I a
 | ok fl=>
  cases fl with
  | ret u=>exact I.after a
  | next=>exact False.elim a
  | brk=>exact False.elim a
  | cont=>exact False.elim a
theorem SX(F:kX X.prog X.w X.K X.mg X.base CX k f fd ps sp)(d:gX k X.A)(hg:Gl X x)(g:X.mg x=some (.ref f))(hk:PySem.W.keepIn X.K (.ref f)=true)(i:Binds X.K fd ps ds)(hd:Vals dvs ds)(j:Passes CX X E)
  (l:PA X (e::es) t) (a:(x==("__debug__":Str))=false:=by decide) (he:starEach (e::es) X.env=(false,eval e X.env)::starEach es X.env:=by rfl) (b:(backTo pos (starEach es X.env)).any (·.1)=false:=by rfl):
  PE X (.Call (.Name x p) (e::es) [] pos) (aBo sp dvs E t):=by
 intro pins s σ H Q I h;refine aJ8 (UK I hg g ?_ a);refine PySem.W.callWith_K (h₀:=X.base) I.ok.mod.kin hk (b6 (l pos pins s σ H _ I h) λus s1 ⟨vs,m,c,r,q⟩=>⟨c.ZX,?_⟩) he b;exact XG F d i hd j c r q
end
structure aY(N P:List Str)(sc:Scope):Prop where
 kind:sc.kind= .function
 co:sc.isCoroutine=false
 gen:sc.isGenerator=false
 nd:N.Nodup
 pre:N.take P.length=P
 par:∀x∈P,sc.names.lookup x=some .local\/sc.names.lookup x=some .cell
 YR:∀y∈sc.names,y.2≠ .free
theorem y8{kindOf:Str->Option NameKind}{x:Str}:∀{binds:List (Str×Value)} {m:aLz},(∀v,(x,v)∉binds)->bindL kindOf binds m x=m x
 | [],_,_=>rfl
 | (n,v)::r,m,h=>by
  unfold bindL;rw[y8 λw a=>h w (List.mem_cons_of_mem _ a)];split
  ·have:x≠n:=by rintro rfl;exact h v aHx
   simp[this]
  ·rfl
theorem zA{kindOf:Str->Option NameKind}{x:Str}:∀{binds:List (Str×Value)} {m:aLz},(∀v,(x,v)∉binds)->bindC kindOf binds m x=m x
 | [],_,_=>rfl
 | (n,v)::r,m,h=>by
  unfold bindC;rw[zA λw a=>h w (List.mem_cons_of_mem _ a)];split
  ·rfl
  ·have:x≠n:=by rintro rfl;exact h v aHx
   simp[this]
theorem y9{kindOf:Str->Option NameKind}{x:Str}{v:Value}:∀{P:List Str} {vs:List Value} {i:Nat} {m:aLz},P.Nodup->P[i]? =some x->vs[i]? =some v->kindOf x=some .local->
  bindL kindOf (P.zip vs) m x=some v
 | [],_,_,_,_,h,_,_=>by simp at h
 | _::_,[],_,_,_,_,h,_=>by simp at h
 | p::P,w::vs,0,m,nd,h1,h2,hk=>by
  simp at h1 h2;subst h1;subst h2;show bindL kindOf ((p,w)::P.zip vs) m p=_;unfold bindL;rw[y8 λv hv=>(List.nodup_cons.mp nd).1 (List.of_mem_zip hv).1,if_pos hk];simp
 | p::P,w::vs,i+1,m,nd,h1,h2,hk=>by
  show bindL kindOf ((p,w)::P.zip vs) m x=_;unfold bindL;exact y9 (i:=i) (aKs.mp nd).2 (by simpa using h1) (by simpa using h2) hk
theorem zB{kindOf:Str->Option NameKind}{x:Str}{v:Value}:∀{P:List Str} {vs:List Value} {i:Nat} {m:aLz},P.Nodup->P[i]? =some x->vs[i]? =some v->kindOf x≠some .local->
  bindC kindOf (P.zip vs) m x=some v
 | [],_,_,_,_,h,_,_=>by simp at h
 | _::_,[],_,_,_,_,h,_=>by simp at h
 | p::P,w::vs,0,m,nd,h1,h2,hk=>by
  simp at h1 h2;subst h1;subst h2;show bindC kindOf ((p,w)::P.zip vs) m p=_;unfold bindC;rw[zA λv hv=>(List.nodup_cons.mp nd).1 (List.of_mem_zip hv).1,if_neg hk];simp
 | p::P,w::vs,i+1,m,nd,h1,h2,hk=>by
  show bindC kindOf ((p,w)::P.zip vs) m x=_;unfold bindC;exact zB (i:=i) (aKs.mp nd).2 (by simpa using h1) (by simpa using h2) hk
def start(N:List Str)(vs:List V):St:=vs.map some++List.replicate (N.length-vs.length) none
def wJ(CX:KY)(P:Program)(w:World)(K:aLw)(mg:aLz)(base:Heap)(N:List Str)(qual:Str)(scope:Scope)(f:Addr)(b:Value)(A:Around)(outer:List Env)(s:Shared)(H:Hp)(E:XK):Cx where
 prog:=P
 w:=w
 K:=K
 mg:=mg
 base:=base
 A:=A.deeper (envOfC qual scope s.heap.objs.size f b)
 N:=N
 s₀:=s
 H₀:=H
 env:=envOfC qual scope s.heap.objs.size f b
 outer:=outer
 stack:=envOfC qual scope s.heap.objs.size f b::outer
 ex:=[]
 calm:=true
 fn:=λ_=>true
 pn:=[]
 xe:=λe c =>wpAny (model P w) (A.deeper (envOfC qual scope s.heap.objs.size f b)) (leaving (envOfC qual scope s.heap.objs.size f b) e) (λ_ a =>CX outer H s E e a) (λd a =>CX outer H s E d a) c
theorem D4{sc:Scope}{n:Nat}{x:Str}(h:sc.names.lookup x=some .cell):∃c,(cellsFrom n sc.names []).lookup x=some c:=by
 have q:=PySem.W.cellsFrom_some sc.names n [] (.inl h);exact aKp.mp q
theorem JY{CX:KY}{N ps:List Str}{qual:Str}{scope:Scope}{o:Value}{outer:List Env}{s s1:Shared}{E:XK}{vs:List V}
  (S:aY N ps scope) (hd:A.handled=none) (g:VU P w K mg base A outer s H) (G:vs.length=ps.length) (r:Vals vs us)
  (x:InCallC s s.heap.objs.size (bindL (envOfC qual scope s.heap.objs.size f o).kindOf (ps.zip us) λ_=>none) (cellsFrom (s.heap.objs.size+1) scope.names []) (bindC (envOfC qual scope s.heap.objs.size f o).kindOf (ps.zip us) λ_=>none) s1):
  Inv (wJ CX P w K mg base N qual scope f o A outer s H E) [] (start N vs) H s1:=by
 have C:ps.length<=N.length:=by have:=aJ7 List.length S.pre;rw[List.length_take]at this;lia
 obtain⟨t,tk,rfl,hk⟩:=x.done;have j:∀b:Addr,b∉(wJ CX P w K mg base N qual scope f o A outer s H E).ex:=λb z=>absurd (show b∈([]:List Addr) from z) (by simp)
 refine⟨⟨g.mod,S.kind,rfl,rfl,aHw _,λy z c t d=>?_,λy hy=>?_,λy c _ h=>?_,λ_=>hd,Around.frames_deeper g.frames,.inr ⟨rfl,rfl⟩,λb z=>absurd z (j b),g.bs,g.VH,λb _ _=>j b,λb z=>absurd z (j b),g.vU,g.frf⟩,
  rfl,g.bare,Un.kept hk,⟨_,x.toInCall.ns,λi y v t d I=>?_⟩,λy c h=>⟨_,x.cell y c h⟩,g.bJ.fresh (aHw _),λy c h=>?_,λp l=>absurd (show p∈([]:List (Addr×Obj)) from l) (by simp),g.bJ.kept hk,?_⟩
 ·exact name_of_addr x.apart (aIp t) (aIp d)
 ·have hy:scope.names.lookup y=some .cell\/scope.names.lookup y=some .free:=hy;rcases hy with hy | hy
  ·exact D4 hy
  ·exact absurd rfl (S.YR _ (aIp hy))
 ·exact aJ6 (x.above y c (aIp h))
 ·have hi:i<vs.length:=by
   unfold start at d;by_cases hi:i<vs.length
   ·exact hi
   ·rw[List.getElem?_append_right (by simpa using hi)]at d;rw[List.getElem?_replicate]at d;split at d <;> cases d
  have D:vs[i]? =some v:=by
   unfold start at d;rw[List.getElem?_append_left (by simpa using hi),List.getElem?_map]at d
   cases e:vs[i]? with
   | none=>rw[e]at d;cases d
   | some a=>rw[e]at d;cases d;rfl
  obtain⟨u,B,F⟩:=r.get D
  have l:ps[i]? =some y:=by
   rw[<-S.pre,List.getElem?_take_of_lt (by lia)];exact t
  have m:ps.Nodup:=by rw[<-S.pre];exact S.nd.sublist (aJz _ _)
  refine⟨u,F,?_⟩;rcases S.par y (aI2 l) with k | k
  ·exact .inl ⟨k,y9 m l B k⟩
  ·obtain⟨c,e⟩:=D4 (n:=s.heap.objs.size+1) k;refine .inr ⟨.inl k,c,e,?_⟩;have q:=x.cell y c e;rw[zB m l B (by show scope.names.lookup y≠_;rw[k];decide)]at q;exact q
 ·exact g.bJ.fresh (aJ6 (x.above y c (aIp h)))
 ·unfold start;show _=N.length;rw[List.length_append,List.length_map,List.length_replicate]
  lia
theorem aEb{CX:KY}{k:Nat}{name qual:Str}{a:Arguments}{body:List Stmt}{scope:Scope}{F kV doc pm cdv ct oc:Value}{an od:Option Addr}
  {osl:Array (Option Value)} {N ps:List Str} {sp:Sp} (G:K.lookup f=some ⟨oc,od,.func (PySem.W.fnOf name qual a body scope F kV doc pm an cdv ct),osl⟩) (p:PySem.W.codeIn K cdv qual=true) (S:aY N ps scope)
  (len:∀vs H Q E,sp vs H Q E->vs.length=ps.length)
  (d:∀(A:Around) (outer:List Env) (s:Shared) (H:Hp) (vs:List V) (Q:VK) (E:XK),gX k (A.deeper (envOfC qual scope s.heap.objs.size f cdv))->sp vs H Q E->
   ∃t,BU (wJ CX P w K mg base N qual scope f cdv A outer s H E) body t/\t {nx:=λ_ H' =>Q .bT H',rt:=Q} (start N vs) H):
  kX P w K mg base CX (k+1) f (PySem.W.fnOf name qual a body scope F kV doc pm an cdv ct) ps sp:=by
 refine⟨len,λA outer s H args us vs Q E z i L r j=>?_⟩;have M:=len _ _ _ _ j;have KX:K.In s.heap:=i.mod.kin.keeps λb o e=>(i.bs b o e).1;have B:s.heap.NoLimit:=i.mod.nolimit.keeps λb o e=>(i.bs b o e).1
 have g:∀y∈ps.zip us,scope.names.lookup y.1=some .local\/(scope.names.lookup y.1=some .cell/\((cellsFrom (s.heap.objs.size+1) scope.names []).lookup y.1).isSome=true):=λl O=>by
  obtain⟨n,v⟩:=l;rcases S.par n (List.of_mem_zip O).1 with q | q
  ·exact .inl q
  ·exact .inr ⟨q,PySem.W.cellsFrom_some _ _ _ (.inl q)⟩
 refine codeAny_call_function z.depth (KX _ _ G) rfl S.co S.gen rfl (PySem.W.codeRec_of KX p) (L _ _ _ _ ?_);refine wpAny_newFunctionEnv_cells S.kind g λenv he s1 x=>?_;subst he;refine⟨B.keeps x.toInCall.keep,codeAny_func ?_⟩;obtain⟨t,ht,R⟩:=d A outer s H vs Q E (z.deeper _) j;have I:Inv (wJ CX P w K mg base N qual scope f cdv A outer s H E) [] (start N vs) H s1:=JY S z.hd i M r x;refine aIk (ht [] s1 (start N vs) H _ I R) (λfl C h=>?_) λe C h=>h
 have m:∀{c :St} {H' :Hp} {v:V} {u:Value},Inv (wJ CX P w K mg base N qual scope f cdv A outer s H E) [] c H' C ->RelV v u->Q v H' ->CE outer P w H s Q u C :=
  λ{c H' v u} J D q=>⟨v,H',J.os,J.bare,J.base,J.bJ,D,q⟩
 cases fl with
 | ret u=>
  obtain⟨v,c,H',J,D,q⟩:=h;exact m J D q
 | next=>
  obtain⟨c,H',J,q⟩:=h;exact m (v:=V.bT) (u:=Value.none) J rfl q
 | brk=>
  obtain⟨_,_,_,q⟩:=h;exact False.elim q
 | cont=>
  obtain⟨_,_,_,q⟩:=h;exact False.elim q
section
variable {X:Cx}{x:Str}{p pos:Pos}{e:Expr}{es:List Expr}{t:TA}{id T:String}{r:List V->Hp->VK->Prop}
def tCB(r:List V->Hp->VK->Prop)(t:TA):TE:=λσ H Q=>t σ H λvs a=>r vs a Q
theorem vA(d:cE X (.builtin id) r)(hg:Gl X x)(f:X.mg x=none)(hv:bootBuiltins x=some (.builtin id))(g:PA X (e::es) t)(i:x≠ "__name__":=by decide)(b:(x==("__debug__":Str))=false:=by decide)
  (he:starEach (e::es) X.env=(false,eval e X.env)::starEach es X.env:=by rfl) (c:(backTo pos (starEach es X.env)).any (·.1)=false:=by rfl):PE X (.Call (.Name x p) (e::es) [] pos) (tCB r t):=by
 intro pins s σ H Q I h;refine aJ8 (iQ I hg f hv ?_ i b);exact PyProof.Rows.callWith_builtin1 (b6 (g pos pins s σ H _ I h) λus s1 a=>by obtain⟨vs,j,k,r1,q1⟩:=a;exact d pins s1 σ j vs us Q k r1 q1) he c
theorem yK(d:cE X (.type T) r)(hg:Gl X x)(f:X.mg x=none)(hv:bootBuiltins x=some (.type T))(g:PA X (e::es) t)(i:x≠ "__name__":=by decide)(b:(x==("__debug__":Str))=false:=by decide)
  (he:starEach (e::es) X.env=(false,eval e X.env)::starEach es X.env:=by rfl) (c:(backTo pos (starEach es X.env)).any (·.1)=false:=by rfl):PE X (.Call (.Name x p) (e::es) [] pos) (tCB r t):=by
 intro pins s σ H Q I h;refine aJ8 (iQ I hg f hv ?_ i b);exact aIt (b6 (g pos pins s σ H _ I h) λus s1 a=>by obtain⟨vs,j,k,r1,q1⟩:=a;exact d pins s1 σ j vs us Q k r1 q1) he c
end
end L2
namespace HT
open PySem PyProof.Rows
section
open PySem.SeqAt
open PySem.AutoSeq1 (wpAny_loadPart')
open PySem.MeetsSeq PySem.MeetsSeq2 PySem.MeetsSeq3
end
section
variable {prog:Program}{w:World}{A:Around}{E:aLx}{s:Shared}
theorem VB{t b:Addr}{vs a:List Value}{Q:aLx}(ht:IsTup s.heap t vs.toArray)(m:IsTup s.heap b a.toArray)(hv:vs≠[])
  (o:a=[]->Q (.ref t) s) (p:a≠[]->Q (.ref s.heap.objs.size) {s with heap:=s.heap.push {cls:= .type "tuple",data:= .seq (vs++a).toArray}})
  (hsz:vs.length+a.length<=sizeLine):wpAny (model prog w) A (binaryOp .Add (.ref t) (.ref b)) Q E s:=by
 obtain⟨⟨cls,j,data,sl⟩,ho,k,n,hd⟩:=id ht;obtain⟨⟨l,d,data2,f⟩,c,g,n2,h⟩:=id m;simp only at k hd g h;subst k hd g h;have e:vs.toArray++a.toArray=(vs++a).toArray:=by simp
 by_cases i:a=[]
 ·exact concat_meets ⟨_,ho,rfl⟩ ⟨_,c,rfl⟩ noFill_tuple_add seq_tuple_add aKz aKw (aKq _ _)
   (tuple_addW1 t b vs.toArray a.toArray n n2 j d sl f (by simpa using hv) (by simp[i])) ⟨ho,c,o i⟩
 ·refine concat_meets ⟨_,ho,rfl⟩ ⟨_,c,rfl⟩ noFill_tuple_add seq_tuple_add aKz aKw (aKq _ _)
   (tuple_addW2 t b vs.toArray a.toArray n n2 j d sl f (by simpa using hv) (by simpa using i) (by rw[List.size_toArray,List.size_toArray];exact hsz)) ⟨ho,c,?_⟩
  rw[e];exact p i
def dX(n d:Nat):Option Int->Nat
 | none=>d
 | some v=>if v<0 then (v+(n:Int)).toNat else min v.toNat n
theorem XF(n d:Nat)(hd:d<=n)(o:Option Int):dX n d o<=n:=by
 cases o with
 | none=>exact hd
 | some v=>
  show (if v<0 then (v+(n:Int)).toNat else min v.toNat n)<=n;by_cases hv:v<0
  ·rw[if_pos hv];lia
  ·rw[if_neg hv];exact Nat.min_le_right _ _
theorem ID(v:Int)(n d:Nat):(if v<0 then max (v+(n:Int)) 0 else min v (n:Int))=((dX n d (some v):Nat):Int):=by
 show (if v<0 then max (v+(n:Int)) 0 else min v (n:Int))=(((if v<0 then (v+(n:Int)).toNat else min v.toNat n):Nat):Int);by_cases hv:v<0
 ·simp only[if_pos hv];lia
 ·simp only[if_neg hv];lia
theorem GD(lo hi:Option Int)(n:Nat):Builtin.Slice.sliceAdjust lo hi 1 (n:Int)=(((dX n 0 lo:Nat):Int),((dX n n hi:Nat):Int)):=by
 have a:¬((1:Int)<0):=by lia
 unfold Builtin.Slice.sliceAdjust;simp only[a,if_false];refine Prod.ext ?_ ?_
 ·cases lo with
  | none=>rfl
  | some v=>exact ID v n 0
 ·cases hi with
  | none=>rfl
  | some v=>exact ID v n n
theorem E8(i j:Nat):Builtin.Slice.slicePlaces (i:Int) (j:Int) 1=j-i:=by
 unfold Builtin.Slice.slicePlaces;have a:(1:Int) > 0:=by lia
 simp only[a,if_true,Int.ediv_one];split <;> lia
theorem u3{v:Value}{o:Option Int}{Q:Option Int->Shared->Prop}(p:IsPart v o)(h:Q o s):wpAny (model prog w) A (Builtin.Slice.slicePartIndex v) Q E s:=by
 cases p with
 | none=>exact slicePart_none h
 | int i t=>exact slicePart_int h
theorem kH{sl:Addr}{c d:Value}{lo hi:Option Int}{n:Nat}{Q:Int×Int×Nat->Shared->Prop}(e:s.heap.IsSliceOf sl c d .none)(f:IsPart c lo)(g:IsPart d hi)
  (h:Q (((dX n 0 lo:Nat):Int),1,dX n n hi-dX n 0 lo) s):wpAny (model prog w) A (Builtin.Slice.sliceApplied (.ref sl) (pure (n:Int))) Q E s:=by
 obtain⟨os,a,i,b⟩:=id e;unfold Builtin.Slice.sliceApplied Builtin.Slice.sliceFields;refine aHs (aHs (aIc a b (x:=c) rfl (aHs (aIc a b (x:=d) rfl (aHs (aIc a b (x:= .none) rfl (aHt ?_)))))));refine aHs (slicePart_none ?_);show wpAny _ _ (if ((1:Int)==0)=true then _ else _) _ _ s;rw[if_neg (by decide)];refine aHs (u3 f (aHs (u3 g (aHs (aHt ?_)))));show wpAny _ _ (match Builtin.Slice.sliceAdjust lo hi 1 (n:Int) with | (lo,hi)=>pure (lo,(1:Int),Builtin.Slice.slicePlaces lo hi 1)) _ _ s;rw[GD lo hi n];show wpAny _ _ (pure (((dX n 0 lo:Nat):Int),(1:Int),Builtin.Slice.slicePlaces ((dX n 0 lo:Nat):Int) ((dX n n hi:Nat):Int) 1)) _ _ s;rw[E8];exact aHt h
theorem MR(xs:Array Value)(i k:Nat):((List.range k).filterMap λ(m:Nat)=>xs[((i:Int)+(m:Int)*1).toNat]?).toArray=((xs.toList.drop i).take k).toArray:=by
 have e:(λ(m:Nat)=>xs[((i:Int)+(m:Int)*1).toNat]?)=λm=>xs[i+m]? :=by
  funext m;have:((i:Int)+(m:Int)*1).toNat=i+m:=by lia
  rw[this]
 rw[e];have:=pick_run xs i k;rw[List.filterMap_map]at this;have a:((λx=>xs[x]?) ∘ λx=>i+x)=λm=>xs[i+m]? :=rfl;rw[a]at this;rw[this]
theorem qS{t sl:Addr}{items:Array Value}{f g:Value}{lo hi:Option Int}{Q:aLx}(ht:IsTup s.heap t items)(i:s.heap.IsSliceOf sl f g .none)(j:IsPart f lo)(k:IsPart g hi)
  (l:¬(dX items.size 0 lo=0/\dX items.size items.size hi=items.size))
  (h:Q (.ref s.heap.objs.size) {s with heap:=s.heap.push {cls:= .type "tuple",data:= .seq ((items.toList.drop (dX items.size 0 lo)).take (dX items.size items.size hi-dX items.size 0 lo)).toArray}})
  (hsz:items.size<=sizeLine):wpAny (model prog w) A (getItem (.ref t) (.ref sl)) Q E s:=by
 have a:sizeOk (.seq ((items.toList.drop (dX items.size 0 lo)).take (dX items.size items.size hi-dX items.size 0 lo)).toArray):=by
  show ((items.toList.drop (dX items.size 0 lo)).take (dX items.size items.size hi-dX items.size 0 lo)).toArray.size<=sizeLine;rw[List.size_toArray,List.length_take,List.length_drop,Array.length_toList]
  lia
 have o:dX items.size items.size hi<=items.size:=XF _ _ (aHw _) hi;obtain⟨os,b,c,n⟩:=id i
 have d:s.TypeIs (.ref sl) "slice":=⟨os,b,c⟩
 unfold getItem
 try with_reducible refine aIj ?_
 first | refine aHs (aHt ?_) | skip
 refine aHs (wpAny_sequenceKey ht.typeIs (by decide) ?_)
 refine aHs (aI8 (name:=Str.ofString "__getitem__") ht.typeIs aJ1
  (aI7 aJ1 ht.typeIs entry_tuple_getitem ?_ (args_tuple_getitem _ _)))
 show wpAny _ _ (Builtin.Tuple.tupleItemsOf (.ref t) >>=_) _ _ s;refine aHs (tupleItemsOf_ ht ?_);refine aHs (aL0 d ?_);rw[if_pos (by decide)];refine aHs (kH i j k ?_)
 have e:¬((((dX items.size 0 lo:Nat):Int)==0 && (1:Int)==1 && (dX items.size items.size hi-dX items.size 0 lo)==items.size)=true):=by
  intro q;rw[Bool.and_eq_true,Bool.and_eq_true]at q;have q1:((dX items.size 0 lo:Nat):Int)=0:=eq_of_beq q.1.1;have q2:dX items.size items.size hi-dX items.size 0 lo=items.size:=eq_of_beq q.2;exact l ⟨by lia,by lia⟩
 show wpAny _ _ (if (((dX items.size 0 lo:Nat):Int)==0 && (1:Int)==1 && (dX items.size items.size hi-dX items.size 0 lo)==items.size)=true then _ else _) _ _ s;rw[if_neg e,MR]
 first
  | exact aHs (m:=Builtin.Tuple.tupleExact _) (aIe (aHt ⟨_,rfl,aHt h⟩) a)
  | exact aHs (m:=Builtin.Tuple.tupleExact _) (aIe (aHs (aHt (aHt ⟨_,rfl,aHt h⟩))) a)
  | exact aHs (aHs (m:=Builtin.Tuple.tupleExact _) (aIe (aHt (aHt ⟨_,rfl,aHt h⟩)) a))
  | exact aHs (aHs (m:=Builtin.Tuple.tupleExact _) (aIe (aHt ⟨_,rfl,aHt h⟩) a))
end
end HT
namespace L2
open PySem PySem.Spec PyProof.Rows
abbrev TO:=St->Hp->(Option Int->Hp->Prop)->Prop
def PO(X:Cx)(e:Option Expr)(t:TO):Prop:=
 ∀(pins:List (Addr×Obj)) (s:Shared) (σ:St) (H:Hp) (Q:Option Int->Hp->Prop),Inv X pins σ H s->t σ H Q->
  wpAny (model X.prog X.w) X.A (evalPart e X.env) (λu a =>∃o H',Inv X pins σ H' a /\IsPart u o/\Q o H') X.xe s
def RD:TO:=λ_ H Q=>Q none H
def aBi(t:TE):TO:=λσ H Q=>t σ H λx a=>∃i,x= .int i/\Q (some i) a
section
variable {X:Cx}{e:Expr}{te:TE}{lo hi:Option Expr}{tl th:TO}{pos p2:Pos}
theorem SO:PO X none RD:=by
 intro pins s σ H Q I h;rw[evalPart_none];exact aHt ⟨none,H,I,.none,h⟩
theorem SN(h:PE X e te):PO X (some e) (aBi te):=by
 intro pins s σ H Q I b;rw[evalPart_some];refine b6 (h pins s σ H _ I b) λu s1 a=>?_;obtain⟨x,c,d,r1,q1⟩:=a;obtain⟨i,rfl,q⟩:=q1;obtain⟨t,rfl⟩:=r1;exact⟨some i,c,d,.int i t,q⟩
def SlR(X:Cx)(r:V->Option Int->Option Int->Hp->VK->Prop):Prop:=
 ∀(pins:List (Addr×Obj)) (s:Shared) (σ:St) (H:Hp) (x:V) (v a b:Value) (lo hi:Option Int) (sl:Addr) (Q:VK),Inv X pins σ H s->RelV x v->s.heap.IsSliceOf sl a b .none->IsPart a lo->IsPart b hi->r x lo hi H Q->
  ∃T id,typeLookup (.type T) "__getitem__"=pure (some (.builtin id))/\s.TypeIs v T/\wpAny (model X.prog X.w) X.A (getItem v (.ref sl)) (EP X pins σ Q) X.xe s
def tSl(r:V->Option Int->Option Int->Hp->VK->Prop)(te:TE)(tl th:TO):TE:=λσ H Q=>te σ H λx a=>tl σ a λl b=>th σ b λu c=>r x l u c Q
theorem MU{r:V->Option Int->Option Int->Hp->VK->Prop}(j:SlR X r)(he:PE X e te)(k:PO X lo tl)(m:PO X hi th):PE X (.Subscript e (.Slice lo hi none p2) pos) (tSl r te tl th):=by
 intro pins s σ H Q I h;refine Subscript_ (b6 (he pins s σ H _ I h) λv s1 c=>?_);obtain⟨x,n,o,r1,q1⟩:=c;refine wpAny_Slice (b6 (k pins s1 σ n _ o q1) λf s2 ⟨l,p,t,y,q2⟩=>b6 (m pins s2 σ p _ t q2) λg a d=>?_);obtain⟨u,i,z,B,q3⟩:=d;rw[evalPart_none];refine aHt ?_;have C:Inv X pins σ i {a with heap:=a.heap.push {cls:= .type "slice",data:= .fields #[f,g,.none]}}:=z.kept (t' :=a.toks) λb ob q=>aHu _ q;obtain⟨T,id,D,ht,hg⟩:=j pins {a with heap:=a.heap.push {cls:= .type "slice",data:= .fields #[f,g,.none]}} σ i x v f g l u a.heap.objs.size Q C r1 (Heap.IsSliceOf.new ..) y B q3;show wpAny (model X.prog X.w) X.A (subscriptTail e (.Slice lo hi none p2) v (.ref a.heap.objs.size)) (EP X pins σ Q) X.xe {a with heap:=a.heap.push {cls:= .type "slice",data:= .fields #[f,g,.none]}};exact tail_any (ops:=[.ref a.heap.objs.size,v]) ht D hg (by with_unfolding_all rfl)
def BC(xs:List V)(lo hi:Option Int):List V:=(xs.drop (HT.dX xs.length 0 lo)).take (HT.dX xs.length xs.length hi-HT.dX xs.length 0 lo)
theorem tD(xs:List V)(lo hi:Option Int):(BC xs lo hi).length<=xs.length:=by
 unfold BC;rw[List.length_take,List.length_drop]
 lia
def aGu(K:aLw):V->Option Int->Option Int->Hp->VK->Prop:=λx lo hi H Q=>∃a xs,x= .ref a/\uL K H a xs/\
 ¬(HT.dX xs.length 0 lo=0/\HT.dX xs.length xs.length hi=xs.length)/\∀p,H p=none->Q (.ref p) (upd H p (.tup (BC xs lo hi)))
theorem XB:SlR X (aGu X.K):=by
 intro pins s σ H x v k l lo hi sl Q I d e f g h;obtain⟨a,xs,rfl,i,j,q⟩:=h;cases d;obtain⟨aL,r,ht,hz⟩:=I.tuple i;have c:aL.toArray.size=xs.length:=by rw[List.size_toArray];exact r.length.symm
 refine⟨"tuple",_,aJ1.lookup,ht.typeIs,?_⟩;refine HT.qS ht e f g (by rw[c];exact j) ?_ (by rw[c];exact hz);rw[c];refine⟨.ref s.heap.objs.size,_,I.laid (t' :=s.toks) (o:= .tup (BC xs lo hi)) (λb ob q=>aHu _ q) (aHw _) ?_,rfl,q _ (I.bJ.fresh (aHw _))⟩;exact⟨aIa (tD xs lo hi) hz,_,(r.drop (HT.dX xs.length 0 lo)).take (HT.dX xs.length xs.length hi-HT.dX xs.length 0 lo),IsTup.new _ _,uV _ _⟩
def aC9(K:aLw):R2:=λx y H Q=>∃a b xs c,x= .ref a/\y= .ref b/\uL K H a xs/\uL K H b c/\xs≠[]/\xs.length+c.length<=sizeLine/\
 (c=[]->Q (.ref a) H)/\(c≠[]->∀p,H p=none->Q (.ref p) (upd H p (.tup (xs++c))))
theorem Vals.AB{xs:List V}{us:List Value}(r:Vals xs us):us=[]↔xs=[]:=by
 cases r with
 | nil=>simp
 | cons _ _=>simp
theorem S5:dW X (binaryOp .Add) (aC9 X.K):=by
 intro pins s σ H x y v u Q I d e h;obtain⟨a,b,xs,f,rfl,rfl,g,i,j,hz,q1,q2⟩:=h;cases d;cases e;obtain⟨aL,r1,k,_⟩:=I.tuple g;obtain⟨c,r2,p2,_⟩:=I.tuple i;refine HT.VB k p2 (λz=>j (r1.AB.mp z)) (λz=>⟨.ref a,H,I,rfl,q1 (r2.AB.mp z)⟩) (λz=>?_) (by rw[<-r1.length,<-r2.length];exact hz);refine⟨.ref s.heap.objs.size,_,I.laid (t' :=s.toks) (o:= .tup (xs++f)) (λb ob q=>aHu _ q) (aHw _) ?_,rfl,q2 (λw=>z (r2.AB.mpr w)) _ (I.bJ.fresh (aHw _))⟩;exact⟨by rw[List.length_append];exact hz,_,r1.append r2,IsTup.new _ _,uV _ _⟩
end
def FP(n:Nat)(i:Int):Option Nat:=if 0<=i then (if i<n then some i.toNat else none) else if -(n:Int)<=i then some (i+n).toNat else none
def pP{α:Type}(xs:List α)(i:Int):Option α:=(FP xs.length i).bind λj=>xs[j]?
variable{n:Nat}
theorem HN{i:Int}{j:Nat}(h:FP n i=some j):seqIndex? i n=some j/\j<n/\ -(n:Int)<=i/\i<n:=by
 unfold FP at h;by_cases h0:0<=i
 ·rw[if_pos h0]at h;by_cases a:i<n
  ·rw[if_pos a]at h;have e:i.toNat=j:=aIn h;exact⟨by rw[seqIndex_of h0 a,e],by lia,by lia,a⟩
  ·rw[if_neg a]at h;cases h
 ·rw[if_neg h0]at h;by_cases a: -(n:Int)<=i
  ·rw[if_pos a]at h;have e:(i+n).toNat=j:=aIn h;exact⟨by rw[seqIndex_neg (by lia) a,e],by lia,a,by lia⟩
  ·rw[if_neg a]at h;cases h
theorem BM{α:Type}{xs:List α}{i:Int}{v:α}(h:pP xs i=some v):∃j,seqIndex? i xs.length=some j/\xs[j]? =some v/\j<xs.length/\ -(xs.length:Int)<=i/\i<xs.length:=by
 unfold pP at h
 cases e:FP xs.length i with
 | none=>rw[e]at h;cases h
 | some j=>
  rw[e]at h;obtain⟨a,b,c,d⟩:=HN e;exact⟨j,a,h,b,c,d⟩
theorem uK{α:Type}{xs:List α}{j:Nat}{v:α}(h:xs[j]? =some v):pP xs (j:Int)=some v:=by
 have a:j<xs.length:=(aHv.mp h).1
 have e:FP xs.length (j:Int)=some j:=by
  unfold FP;rw[if_pos (by lia),if_pos (by lia)];simp
 unfold pP;rw[e];exact h
def IG(b:Expr):Prop:=∀o i,subscripted b false o i=operate [o,i] (getItem o i)
def QX(X:Cx)(r:R2):Prop:=
 ∀(b a:Expr) (pins:List (Addr×Obj)) (s:Shared) (σ:St) (H:Hp) (x y:V) (v u:Value) (Q:VK),Inv X pins σ H s->RelV x v->RelV y u->r x y H Q->
  subscripted a false v u=operate [v,u] (getItem v u)->wpAny (model X.prog X.w) X.A (subscriptTail b a v u) (EP X pins σ Q) X.xe s
def MtR(X:Cx)(id:String)(r:V->List V->Hp->VK->Prop):Prop:=
 ∀(pins:List (Addr×Obj)) (s:Shared) (σ:St) (H:Hp) (x:V) (xs:List V) (v:Value) (us:List Value) (Q:VK),Inv X pins σ H s->RelV x v->Vals xs us->r x xs H Q->
  wpAny (model X.prog X.w) X.A (call (.builtin id) (v::us)) (EP X pins σ Q) X.xe s
section
variable {X:Cx}{a b:Expr}{ta tb:TE}{pos:Pos}
theorem aCg{r:R2}(c:QX X r)(d:PE X a ta)(e:PE X b tb)(f:IG b):PE X (.Subscript a b pos) (tOp r ta tb):=by
 intro pins s σ H Q I h;exact Subscript_ (VI d e I h λv u s2 x y g i j k q=>c a b pins s2 σ g x y v u Q i j k q (f _ _))
def aGy(K:aLw):R2:=λx y H Q=>∃p xs i v,x= .ref p/\y= .int i/\rB K H p xs/\pP xs i=some v/\Q v H
def aGw(K:aLw):R2:=λx y H Q=>∃p xs i v,x= .ref p/\y= .int i/\uL K H p xs/\pP xs i=some v/\Q v H
def aGx:R2:=λx y H Q=>∃z i c,x= .str z/\y= .int i/\z.length<=sizeLine/\pP z.cps.toList i=some c/\Q (.str ⟨#[c]⟩) H
theorem UO:QX X (aGy X.K):=by
 intro c d pins s σ H x y v u Q I m n h k;obtain⟨p,xs,i,z,rfl,rfl,o,he,q⟩:=h;cases m;obtain⟨t,rfl⟩:=n;obtain⟨aL,r,e,hz⟩:=I.list o;obtain⟨j,b,A,F,B,C⟩:=BM he;obtain⟨w,l,f⟩:=r.get A;have D:=r.length;have G:=nG
 have a:EP X pins σ Q w s:=⟨z,H,I,f,q⟩
 by_cases h0:0<=i
 ·have g:i.toNat=j:=by
   rw[seqIndex_of h0 C]at b;exact aIn b
  exact item_listR e.isList h0 (by lia) (by rw[g];simpa using l) a k
 ·have g:(i+(aL.toArray.size:Int)).toNat=j:=by
   rw[seqIndex_neg (by lia) B]at b;rw[List.size_toArray,<-D];exact aIn b
  exact subscriptTail_builtinR (x:=w) e.isList.typeIs slot_list_getitem.lookup
   (wpAny_getItem_list_neg (Q:=λr E =>r=w/\EP X pins σ Q r E) e.isList (by lia) (by rw[List.size_toArray] <;> lia) (by lia) (by rw[g];simpa using l) ⟨rfl,a⟩) k
theorem ZY:QX X (aGw X.K):=by
 intro a b pins s σ H x y v u Q I f g h k;obtain⟨p,xs,i,z,rfl,rfl,l,he,q⟩:=h;cases f;obtain⟨t,rfl⟩:=g;obtain⟨aL,r,e,hz⟩:=I.tuple l;obtain⟨j,m,n,C,D,E⟩:=BM he;obtain⟨w,o,c⟩:=r.get n;have A:=r.length;have F:=nG
 have d:EP X pins σ Q w s:=⟨z,H,I,c,q⟩
 exact subscriptTail_builtinR (x:=w) e.typeIs slot_tuple_getitem.lookup
  (getItem_tuple (j:=j) (Q:=λr B =>r=w/\EP X pins σ Q r B) e (by lia) (by lia) (by rw[List.size_toArray,<-A];exact m) (by simpa using o) ⟨rfl,d⟩) k
theorem ZZ:QX X aGx:=by
 intro a b pins s σ H x y v u Q I e f h g;obtain⟨z,i,c,rfl,rfl,hz,he,q⟩:=h;obtain⟨t,rfl⟩:=e;obtain⟨t',rfl⟩:=f;obtain⟨j,d,k,r,l,m⟩:=BM he;have n:z.cps.toList.length=z.length:=by simp[Str.length]
 rw[n]at d l m;have w:=nG
 exact tail_any (typeIs_str s z t) slot_str_getitem.lookup (getItem_str (c:=c) (by
  have o:decide (i < -(2^63:Int))=false:=aJv (by lia);have p:decide (i>=2^63)=false:=aJv (by lia)
  rw[o,p,Bool.or_false]) (by rw[d];simpa using k) ⟨.str ⟨#[c]⟩,H,I.tok _,⟨_,rfl⟩,q⟩) g
theorem FH(aL:List Value)(n j:Nat)(u:Value):Obj.mapSeq (·.setIfInBounds j u) {cls:= .type "list",data:= .seq aL.toArray n}={cls:= .type "list",data:= .seq (aL.set j u).toArray n}:=by
 simp[Obj.mapSeq]
variable{pins:List (Addr×Obj)}{s:Shared}
theorem Inv.lst{σ:St}{H:Hp}{p:Addr}{xs:List V}(I:Inv X pins σ H s)(h:H p=some (.lst xs)):
  ∃(aL:List Value) (n:Nat),Vals xs aL/\s.heap.get? p=some {cls:= .type "list",data:= .seq aL.toArray n}/\xs.length<=sizeLine:=by
 obtain⟨z,aL,n,r,e⟩:=I.bJ p _ h;exact⟨aL,n,r,e,z⟩
theorem Inv.YY{σ:St}{H:Hp}{p:Addr}{xs a:List V}{aL its' :List Value}{n c :Nat}{f:Obj->Obj}(I:Inv X pins σ H s)(h:H p=some (.lst xs))
  (ho:s.heap.get? p=some {cls:= .type "list",data:= .seq aL.toArray n}) (d:f {cls:= .type "list",data:= .seq aL.toArray n}={cls:= .type "list",data:= .seq its'.toArray c}) (r:Vals a its') (hz:a.length<=sizeLine) (t:Nat):
  Inv X pins σ (upd H p (.lst a)) {s with heap:=s.heap.update p f,toks:=t}:=by
 have e:(s.heap.update p f).get? p=some {cls:= .type "list",data:= .seq its'.toArray c}:=by
  rw[Heap.get?_update_self f ho (by rw[d] <;> rfl),d]
 refine I.write (x:=p) (e:=p) (by rw[h];trivial) (.inl rfl) (λb u g q=>(aIz _ _ (aIg g)).trans q) ⟨_,e⟩ ?_;exact⟨hz,its',c,r,e⟩
def aC7:V->V->V->Hp->(Hp->Prop)->Prop:=λo i v H Q=>∃p xs k j,o= .ref p/\i= .int k/\H p=some (.lst xs)/\FP xs.length k=some j/\Q (upd H p (.lst (xs.set j v)))
theorem set_list:aEn X aC7:=by
 intro pins s σ H o i v x y u Q I g l m h;obtain⟨p,xs,k,j,rfl,rfl,c,w,q⟩:=h;cases g;obtain⟨t,rfl⟩:=l;obtain⟨aL,n,r,ho,hz⟩:=I.lst c;obtain⟨a,z,d,e⟩:=HN w;have b:=r.length;have A:=nG
 have f :Inv X pins σ (upd H p (.lst (xs.set j v))) {s with heap:=s.heap.update p (Obj.mapSeq (·.setIfInBounds j u))}:=
  I.YY c ho (FH aL n j u) (r.set m j) (by rw[List.length_set];exact hz) s.toks
 by_cases h0:0<=k
 ·have hk:k.toNat=j:=by
   rw[seqIndex_of h0 e]at a;exact aIn a
  exact PySem.W.ki_setAt ho h0 (by lia) (by rw[List.size_toArray,<-b];exact e) (by rw[hk];exact⟨_,f,q⟩)
 ·have hk:(k+(aL.toArray.size:Int)).toNat=j:=by
   rw[seqIndex_neg (by lia) d]at a;rw[List.size_toArray,<-b];exact aIn a
  exact PySem.W.ki_setBack ho (by lia) (by rw[List.size_toArray,<-b];exact d) (by lia) (by rw[hk];exact⟨_,f,q⟩)
theorem zQ(lo hi:Option Int)(n:Nat):(sliceBounds lo hi none n).1=((HT.dX n 0 lo:Nat):Int)/\(sliceBounds lo hi none n).2.1=((HT.dX n n hi:Nat):Int)/\(sliceBounds lo hi none n).2.2=1:=by
 refine⟨?_,?_,rfl⟩
 ·cases lo with
  | none=>simp[sliceBounds,HT.dX]
  | some i=>
   simp only[sliceBounds,HT.dX,Option.getD_none,show (1:Int) > 0 by decide,if_true];by_cases h:i<0
   ·simp only[h,if_true] <;> lia
   ·simp only[h,if_false] <;> lia
 ·cases hi with
  | none=>simp[sliceBounds,HT.dX]
  | some i=>
   simp only[sliceBounds,HT.dX,Option.getD_none,show (1:Int) > 0 by decide,if_true];by_cases h:i<0
   ·simp only[h,if_true] <;> lia
   ·simp only[h,if_false] <;> lia
theorem xF(aL:List Value)(lo hi:Option Int):slicePick aL.toArray lo hi none=((aL.drop (HT.dX aL.length 0 lo)).take (HT.dX aL.length aL.length hi-HT.dX aL.length 0 lo)).toArray:=by
 obtain⟨a,b,c⟩:=zQ lo hi aL.toArray.size;unfold slicePick;rw[a,b,c];simp only[sliceRange_one,pick_run,List.size_toArray] <;> rfl
def aGv(K:aLw):V->Option Int->Option Int->Hp->VK->Prop:=λx lo hi H Q=>∃a xs,x= .ref a/\rB K H a xs/\∀p,H p=none->Q (.ref p) (upd H p (.lst (BC xs lo hi)))
theorem RG:SlR X (aGv X.K):=by
 intro pins s σ H x v j k lo hi sl Q I d e f g h;obtain⟨a,xs,rfl,i,q⟩:=h;cases d;obtain⟨aL,r,ht,hz⟩:=I.list i;have c:=r.length;refine⟨"list",_,slot_list_getitem.lookup,ht.isList.typeIs,?_⟩;refine wpAny_getItem_list_slice ht.isList e f g .none (by simp) ?_ (by rw[List.size_toArray] <;> lia);rw[xF,<-c];refine⟨.ref s.heap.objs.size,_,I.laid (t' :=s.toks) (o:= .lst (BC xs lo hi)) (λb ob q=>aHu _ q) (aHw _) ?_,rfl,q _ (I.bJ.fresh (aHw _))⟩;exact⟨aIa (tD xs lo hi) hz,_,0,(r.drop (HT.dX xs.length 0 lo)).take (HT.dX xs.length xs.length hi-HT.dX xs.length 0 lo),aHy _ rfl⟩
theorem zY:dW X (compareOp .NotIn) (λx y H Q=>∃i j,x= .str i/\y= .str j/\Q (.bl (!(!(Builtin.Str.occurrences j i 0 j.length 1).isEmpty))) H):=by
 intro pins s σ H x y v u Q I a b h;obtain⟨i,j,rfl,rfl,q⟩:=h;obtain⟨t,rfl⟩:=a;obtain⟨t',rfl⟩:=b;exact notIn_str ⟨.bl _,H,I,rfl,q⟩
theorem BI:cE X (.builtin "len") (λxs H Q=>∃p b,xs=[.ref p]/\(rB X.K H p b\/uL X.K H p b)/\Q (.int b.length) H):=by
 intro pins s σ H xs us Q I r h;obtain⟨p,b,rfl,hq,q⟩:=h;obtain⟨u,rfl,e⟩:=vals1 r;cases e;have f:=nG;rcases hq with hq | hq
 ·obtain⟨aL,c,d,hz⟩:=I.list hq;have a:=c.length;exact Calls.call_len_list d.isList (by simp only[List.size_toArray] <;> lia) ⟨.int b.length,H,I.tok _,⟨s.toks+1,by rw[List.size_toArray,a]⟩,q⟩
 ·obtain⟨aL,c,d,hz⟩:=I.tuple hq;have a:=c.length;exact len_tuple d (by simp only[List.size_toArray] <;> lia) ⟨.int b.length,H,I.tok _,⟨s.toks+1,by rw[List.size_toArray,a]⟩,q⟩
theorem BH:cE X (.builtin "len") (λxs H Q=>∃z,xs=[.str z]/\z.length<=sizeLine/\Q (.int z.length) H):=by
 intro pins s σ H xs us Q I r h;obtain⟨z,rfl,hz,q⟩:=h;obtain⟨u,rfl,t,rfl⟩:=vals1 r;have a:=nG;exact len_str (by lia) ⟨.int z.length,H,I.tok _,⟨_,rfl⟩,q⟩
theorem jX:cE X (.type "tuple") (λxs H Q=>∃p a,xs=[.ref p]/\((rB X.K H p a/\∀l,H l=none->Q (.ref l) (upd H l (.tup a)))\/(uL X.K H p a/\Q (.ref p) H))):=by
 intro pins s σ H xs us Q I r h;obtain⟨p,a,rfl,h⟩:=h;obtain⟨u,rfl,j⟩:=vals1 r;cases j
 rcases h with ⟨c,q⟩ | ⟨c,q⟩
 ·obtain⟨aL,d,f,hz⟩:=I.list c;have g:=d.length;refine call_tuple_list f.isList (λh' kp=>?_) (by simp only[List.size_toArray] <;> lia);have i:Inv X pins σ H {s with heap:=h'}:=I.kept (t' :=s.toks) kp
  have k:Inv X pins σ (upd H h'.objs.size (.tup a)) {s with heap:=h'.push {cls:= .type "tuple",data:= .seq aL.toArray}}:=
   i.laid (t' :=s.toks) (λb o e=>aHu _ e) (aHw _) (show cV X.prog X.w _ _ _ (.tup a) from ⟨hz,aL,d,IsTup.new _ _,uV _ _⟩)
  exact⟨.ref h'.objs.size,_,k,rfl,q _ (i.bJ.fresh (aHw _))⟩
 ·obtain⟨aL,d,f,hz⟩:=I.tuple c;exact call_tuple_same f ⟨.ref p,H,I,rfl,q⟩
def tyV(K:aLw)(T:String)(x:V)(H:Hp):Prop:=match x with
 | .str _=>T= "str"
 | .int _=>T= "int"
 | .ref p=>(T= "list"/\∃xs,rB K H p xs)\/(T= "tuple"/\∃xs,uL K H p xs)\/
   (T= "dict"/\((∃kvs,H p=some (.dK kvs))\/∃kvs,H p=some (.dT kvs)))\/(T= "set"/\∃S n,H p=some (.set S n))
 | _=>False
theorem WZ{σ:St}{H:Hp}{T:String}{x:V}{v:Value}(I:Inv X pins σ H s)(r:RelV x v)(ty:tyV X.K T x H):
  s.TypeIs v T/\∀a,v= .ref a->∃ob,s.heap.get? a=some ob/\ob.dict=none:=by
 cases x with
 | str z=>
  obtain⟨t,rfl⟩:=r;cases (show T= "str" from ty);exact⟨typeIs_str s z t,λ_ e=>nomatch e⟩
 | int i=>
  obtain⟨t,rfl⟩:=r;cases (show T= "int" from ty);exact⟨typeIs_int s i t,λ_ e=>nomatch e⟩
 | ref p=>
  cases r
  rcases ty with ⟨rfl,xs,d⟩ | ⟨rfl,xs,d⟩ | ⟨rfl,hk⟩ | ⟨rfl,S,n,hk⟩
  ·obtain⟨aL,_,f,_⟩:=I.list d;refine⟨f.isList.typeIs,λa e=>?_⟩;cases e;obtain⟨o,n,e,c,hd,_⟩:=f;exact⟨o,e,hd⟩
  ·obtain⟨o,g,b,h⟩:=I.W0 d;refine⟨⟨o,g,b⟩,λa e=>?_⟩;cases e;exact⟨o,g,h⟩
  ·have z:∃o,s.heap.get? p=some o/\o.ExactDict:=by
    rcases hk with ⟨kvs,hk⟩ | ⟨kvs,hk⟩
    ·obtain⟨_,_,_,_,o,_,_,e,ex,_⟩:=I.bJ p _ hk;exact⟨o,e,ex⟩
    ·obtain⟨_,_,_,_,o,_,_,e,ex,_⟩:=I.bJ p _ hk;exact⟨o,e,ex⟩
   obtain⟨o,e,ex⟩:=z;refine⟨⟨o,e,ex.1⟩,λa b=>?_⟩;cases b;exact⟨o,e,ex.2.1⟩
  ·obtain⟨o,_,_,_,e,ex,_⟩:=I.bJ p _ hk;refine⟨⟨o,e,ex.1⟩,λa b=>?_⟩;cases b;exact⟨o,e,ex.2.1⟩
 | _=>exact False.elim ty
def tBM(K:aLw)(T:String)(r:V->List V->Hp->VK->Prop)(to:TE)(t:TA):TE:=λσ H Q=>to σ H λx a=>tyV K T x a/\t σ a λxs b=>r x xs b Q
variable {o e:Expr}{es:List Expr}{to:TE}{t:TA}{name:Str}{apos dP:Pos}{T id:String}{r:V->List V->Hp->VK->Prop}
theorem aCi(l:PlainAttrs T)(slot:Slot T name id)(i:typeOf (.builtin id)=pure (.type "method_descriptor"))(m:MtR X id r)(ho:PE X o to)(n:PA X (e::es) t)
  (b:attributeBase o name X.env (eval o X.env)=eval o X.env:=by rfl)
  (d:((backTo dP (starEach (e::es) X.env)).all (λx=>!x.1) && (backToKw dP (keywordEach [] X.env)).all (λx=>x.1.isSome)
   && decide ((e::es).length+([]:List Keyword).length+(if ([]:List Keyword).isEmpty then 0 else 1)<30))=true:=by rfl)
  (c:(apos.endLine==dP.line)=true:=by rfl) (p:starEach (e::es) X.env=(false,eval e X.env)::starEach es X.env:=by rfl) (a:(backTo dP (starEach es X.env)).any (·.1)=false:=by rfl):
  PE X (.Call (.Attribute o name apos) (e::es) [] dP) (tBM X.K T r to t):=by
 intro pins s σ H Q I h;refine wpAny_Call_method_late b d c rfl (b6 (ho pins s σ H _ I h) λv s1 f=>?_);obtain⟨x,q,j,r1,ty,q1⟩:=f;obtain⟨u,w⟩:=WZ j r1 ty;refine⟨T,id,l,slot,i,u,w,?_⟩;have k:=n dP pins s1 σ q _ j q1;rw[p]at k⊢;refine aL1 (by show (false || (backTo dP (starEach es X.env)).any (·.1))=false;rw[a] <;> rfl) (aLd ?_);exact b6 k λus s2 g=>by obtain⟨vs,y,z,r2,q2⟩:=g;exact m pins s2 σ y x vs v us Q z r1 r2 q2
end
def MtM(X:Cx)(id:String)(r:V->List V->Hp->VK->Prop):Prop:=
 ∀(pins:List (Addr×Obj)) (s:Shared) (σ:St) (H:Hp) (x:V) (xs:List V) (v:Value) (us:List Value) (Q:VK),Inv X pins σ H s->RelV x v->Vals xs us->r x xs H Q->
  wpAny (model X.prog X.w) X.A (call (.builtin id) (v::us)) (EP X pins σ Q) X.xe s
theorem Vals.one:∀{x:V} {us:List Value},Vals [x] us->∃u,us=[u]/\RelV x u
 | _,_,.cons r .nil=>⟨_,rfl,r⟩
section
variable {X:Cx}{pins:List (Addr×Obj)}{σ:St}{H:Hp}{s:Shared}{l b:Addr}{xs ys zs:List V}
theorem Inv.aD3{aL its' :List Value}{f:Array Value->Array Value}{t' :Nat}(I:Inv X pins σ H s)(a:H l=some (.lst xs))
  (e:s.heap.get? l=some {cls:= .type "list",data:= .seq aL.toArray n}) (b:f aL.toArray=its'.toArray) (hv:Vals ys its') (hz:ys.length<=sizeLine):
  Inv X pins σ (upd H l (.lst ys)) {s with heap:=s.heap.update l (Obj.mapSeq f),toks:=t'}:=by
 have q:=PySem.IsL.update e f;rw[b]at q;refine I.write (x:=l) (e:=l) (by rw[a];exact trivial) (.inl rfl) (λg u c d=>(aIz s.heap (Obj.mapSeq f) (aIg c)).trans d) ⟨_,q⟩ ?_;exact⟨hz,its',_,hv,q⟩
theorem Inv.aH8{aL:List Value}{t' :Nat}(I:Inv X pins σ H s)(hv:Vals ys aL)(hz:ys.length<=sizeLine):
  Inv X pins σ (upd H s.heap.objs.size (.lst ys)) {s with heap:=s.heap.push {cls:= .type "list",data:= .seq aL.toArray},toks:=t'}:=
 I.laid (λ_ _ q=>aHu _ q) (aHw _) ⟨hz,aL,0,hv,aHy _ rfl⟩
theorem Inv.fresh(I:Inv X pins σ H s):H s.heap.objs.size=none:=I.bJ.fresh (aHw _)
theorem Inv.NQ(I:Inv X pins σ H s)(a:H l=some (.lst xs)):xs.length<=sizeLine/\∃(aL:List Value) (n:Nat),Vals xs aL/\xs.length=aL.length/\s.heap.get? l=some {cls:= .type "list",data:= .seq aL.toArray n}:=by
 obtain⟨z,aL,n,r,e⟩:=I.bJ l _ a;exact⟨z,aL,n,r,r.length,e⟩
theorem NA(h:n<=sizeLine):Builtin.List.listTooLong n=false:=by
 unfold Builtin.List.listTooLong;exact aJv (by lia)
end
section
variable {X:Cx}
def SA:V->List V->Hp->VK->Prop:=λx vs H Q=>∃l xs y,x= .ref l/\vs=[y]/\H l=some (.lst xs)/\xs.length<sizeLine/\Q .bT (upd H l (.lst (xs++[y])))
theorem rP:MtM X "list.append" SA:=by
 intro pins s σ H x vs v us Q I b c h;obtain⟨l,xs,y,rfl,rfl,a,hz,q⟩:=h;cases b;obtain⟨u,rfl,d⟩:=c.one;obtain⟨z,aL,n,r,f,e⟩:=I.NQ a;refine call_meets F.slot_list_append ⟨_,e,rfl⟩ F.entry_list_append (F.args_list_append_2 _ _) (PySem.list_append l aL.toArray n u (by rw[List.size_toArray];lia)) ⟨e,?_⟩;refine⟨.bT,_,I.aD3 (its' :=aL++[u]) a e (by simp) (r.append (.cons d .nil)) ?_,rfl,q⟩;rw[List.length_append,List.length_singleton]
 lia
def R7:V->List V->Hp->VK->Prop:=λx vs H Q=>∃l b xs a,x= .ref l/\vs=[.ref b]/\H l=some (.lst xs)/\H b=some (.lst a)/\xs.length+a.length<=sizeLine/\Q .bT (upd H l (.lst (xs++a)))
theorem aB4:MtM X "list.extend" R7:=by
 intro pins s σ H x vs v us Q I f g h;obtain⟨l,b,xs,o,rfl,rfl,d,i,hz,q⟩:=h;cases f;obtain⟨u,rfl,j⟩:=g.one;cases j;obtain⟨z,aL,n,r,p,e⟩:=I.NQ d;obtain⟨t,a,n2,r2,k,m⟩:=I.NQ i;have hsz:aL.toArray.size+a.toArray.size<=sizeLine:=by rw[List.size_toArray,List.size_toArray];lia
 have c:¬(!aL.toArray.isEmpty && Builtin.List.listTooLong (aL.toArray.size+a.toArray.size))=true:=by
  rw[NA hsz,Bool.and_false];exact Bool.false_ne_true
 refine call_meets F.slot_list_extend ⟨_,e,rfl⟩ F.entry_list_extend (F.args_list_extend_2 _ _)
  (AutoSeq1.list_extend_list_list_0 l aL.toArray n b a.toArray n2 c (by rw[List.size_toArray];lia) (by lia)) ⟨e,m,?_⟩
 refine⟨.bT,_,I.aD3 (its' :=aL++a) d e (by simp) (r.append r2) ?_,rfl,q⟩;rw[List.length_append]
 lia
def aGz:R2:=λx y H Q=>∃l b xs a,x= .ref l/\y= .ref b/\H l=some (.lst xs)/\H b=some (.lst a)/\xs.length+a.length<=sizeLine/\∀p,H p=none->Q (.ref p) (upd H p (.lst (xs++a)))
theorem YC:dW X (binaryOp .Add) aGz:=by
 intro pins s σ H x y v u Q I c d h;obtain⟨l,b,xs,m,rfl,rfl,f,g,hz,q⟩:=h;cases c;cases d;obtain⟨z,aL,n,r,o,e⟩:=I.NQ f;obtain⟨p,a,n2,r2,i,j⟩:=I.NQ g;refine PySem.P.add_list e j ?_ (by rw[List.size_toArray,List.size_toArray];lia);have k:aL.toArray++a.toArray=(aL++a).toArray:=by simp
 rw[k];exact⟨.ref _,_,I.aH8 (t' :=s.toks) (r.append r2) (by rw[List.length_append];lia),rfl,q _ I.fresh⟩
end
end L2
namespace Att
open PySem PySem.W PySem.Calls PyProof.Rows
theorem tO{P:Params}{h:Heap}:∀(ns:List Int) (vs:List Value),WellAll P h vs (ns.map WData.int)->IntsAre vs ns:=by
 intro ns
 induction ns with
 | nil=>
  intro vs w;rw[List.map_nil]at w;cases w;exact .nil
 | cons n ns ih=>
  intro vs w;rw[List.map_cons]at w
  cases w with
  | cons a b=>
   cases a;exact .cons _ _ (ih _ b)
theorem IT{l:OpenLaw}{n:Nat}(m:l.most=some n){P:Params}{h:Heap}{args:List WData}{vals:List Value}
  (b:l.row.toRowW.claim.pre args=true) (i:WellAll P h vals args):
  ∃a vs ns,vals=[Value.ref a]/\args=[WData.list (ns.map WData.int)]/\h.get? a=some {cls:= .type "list",data:= .seq vs.toArray}/\IntsAre vs ns/\ns.length<=n:=by
 have j:WShape.hasAll [] args [.list .int]=true:=(pre_splitW b).1;have k:l.pre.holds [] {args:=args}=true:=(pre_splitW b).2;obtain⟨d,r,rfl,o,p⟩:=hasAllW_cons j;obtain rfl:=hasAllW_nil p;obtain⟨xs,rfl,s⟩:=hasW_list o;obtain⟨ns,rfl⟩:=items_int s
 have c:ns.length<=n:=by
  unfold OpenLaw.pre at k
  have f:(WTm.not (.lt (.lit (.int (n:Int))) (.len (.arg 0)))).holds [] {args:=[.list (ns.map .int)]}=true:=by
   have f:=(holds_andW k).1;rw[m]at f;exact f
  have g:=condW_of f (w_not (w_lt w_lit (w_len_list (w_arg rfl))));rw[List.length_map]at g;refine aL9 λq=>?_;have t :(n:Int)<((ns.length:Nat):Int):=by lia
  first
   | (rw[decide_eq_true t]at g;exact absurd g (by decide))
   | (simp at g;lia)
 cases i with
 | cons u v=>
  cases v
  cases u with
  | list ho e=>exact⟨_,_,ns,rfl,rfl,ho,tO ns _ e,c⟩
theorem JA(l:OpenLaw)(args:List WData):l.row.toRowW.claim.post args (.bool true) args=true:=
 postW_of (r:=l.row.toRowW) (X:=(true==true))
  (show WShape.has [] (.bool true) .bool=true by first | rfl | decide | simp[WShape.has,WShape.arms,WShape.armsAll])
  (show (WTm.eq .res (.lit (.bool true))).value [] {args:=args,res:=some (.bool true),after:=args}=some (.bool (true==true)) from w_eq_bool (w_res rfl) w_lit) rfl
theorem EA{l:OpenLaw}{n:Nat}{q:Program}{loose:List Str}{XP:(aLz)->Heap->Prop}{u:World->Heap->Prop}{d:DefRec}
  (y:l.most=some n) (m:d.params.defaults=[])
  (call:∀(w:World) (s₀ b:Shared) (mg mb:aLz) (e:Addr) (o:Obj) (pm j doc:Value) (a:Addr) (vs:List Value) (ns:List Int),
   Ground q loose [] XP w s₀ mg mb b.heap->u w b.heap->
   b.heap.get? e=some o->o.data= .func (docDef d.name d.params d.body d.scope pm j doc)->b.heap.CodeRec j d.name->mg d.name=some (.ref e)->
   b.heap.get? a=some {cls:= .type "list",data:= .seq vs.toArray}->IntsAre vs ns->ns.length<=n->b.gens= #[]->
   codeAny (model l.prog w) callerA (.call (.ref e) ⟨[.ref a],[]⟩) (λr k =>r= .ok (.ret (.bool true))/\OldK b.heap k.heap/\k.os=b.os/\AllBare k.gens) b):
  WalkO q loose XP u l.row.toRowW d [] (λf vs=>PySem.call f vs):=by
 intro w s₀ b mg mb G Y e o pm j doc z kV ho hd p v s hg args vals as g x A t B;obtain rfl:z= .none:=Dflts.none v m;obtain rfl:kV= .none:=Dflts.noKw v;obtain⟨a,vs,ns,rfl,rfl,h,c,i⟩:=IT y g t;refine enter_call (aJy (call w s₀ b mg mb e o pm j doc a vs ns G Y ho (fd_plain hd) p s h c i hg) λr k C=>?_);obtain⟨rfl,D,E,F⟩:=C;exact⟨.inl ⟨.bool true,.bool true,[],rfl,λ_=>rfl,.bool true,JA l _,λ_=>⟨List.Pairwise.nil,λ_ H=>(nomatch H)⟩⟩,D,E,F⟩
end Att
namespace L2
open PySem PySem.Spec PyProof.Rows
theorem yA:∀{vs:List Value} {ns:List Int},IntsAre vs ns->Vals (ns.map V.int) vs
 | _,_,.nil=>.nil
 | _,_,.cons n t h=>.cons ⟨t,rfl⟩ (yA h)
def VS(H:Hp):Prop:=∀b,H b=none\/∃o xs,H b=some (.tP o (.lst xs))
variable{fd:FuncData}{x:Str}
theorem OB{P:Program}{w:World}{K:aLw}{mg mb:aLz}{CX:KY}{k:Nat}{G a:Addr}{sp:Sp}{c:Shared}{vs:List Value}{ns:List Int}
  (KX:K.In c.heap) (t:c.heap.Ns mainGlobals mg) (g:c.heap.Ns builtinsNs mb) (I:∀x:Str,x≠ "__name__"->mb x=bootBuiltins x) (y:c.heap.NoLimit) (hg:c.gens= #[])
  (E:c.heap.get? a=some {cls:= .type "list",data:= .seq vs.toArray}) (hi:IntsAre vs ns) (O:ns.length<=sizeLine) (U:gX k callerA)
  (F:∀base:Heap,K.In base->base.Ns mainGlobals mg->kX P w K mg base CX k G fd [x] sp) (p:∀(s:Shared) (u:Value),BindsTo s fd ⟨[u],[]⟩ [(x,u)])
  (J:∀H:Hp,VS H->rB K H a (ns.map V.int)->sp [.ref a] H (λv _=>v= .bl true) λ_ _ _=>False)
  (L:∀H e i,CX [] H c (λ_ _ _=>False) e i ->False):
  codeAny (model P w) callerA (.call (.ref G) ⟨[.ref a],[]⟩) (λr i =>r= .ok (.ret (.bool true))/\OldK c.heap i.heap/\i.os=c.os/\AllBare i.gens) c:=by
 have Q:=yA hi;have A:=hi.length
 have l:∀H:Hp,VS H->rB K H a (ns.map V.int)->rC P w H c.heap->(∀b,H b≠none->b=a)->(H a≠none->K.lookup a=none)->
   codeAny (model P w) callerA (.call (.ref G) ⟨[.ref a],[]⟩) (λr i =>r= .ok (.ret (.bool true))/\OldK c.heap i.heap/\i.os=c.os/\AllBare i.gens) c:=by
  intro H R W bJ S X;have f:∀{b:Addr} {o:Obj},c.heap.get? b=some o->H b=none->(A1 c.heap H).get? b=some o:=λe n=>OZ e n
  have M:∀{b:Addr} {o:Obj} {es:Array DictEntry} {ep:Nat},c.heap.get? b=some o->o.data= .dict es ep->H b=none:=λ{b o es ep} e d=>by
   cases q:H b with
   | none=>rfl
   | some u=>
    have N :b=a:=S b (by rw[q];simp);subst N;rw[E]at e;cases e;have d' :Data.seq vs.toArray _=Data.dict es ep:=d;cases d'
  have j:∀{b:Addr} {m:aLz},c.heap.Ns b m->(A1 c.heap H).Ns b m:=λ{b m} ⟨o,es,ep,e,d,r⟩=>⟨o,es,ep,f e (M e d),d,r⟩
  have B:K.In (A1 c.heap H):=λb o e=>f (KX b o e) (by
   cases q:H b with
   | none=>rfl
   | some u=>
    have N :b=a:=S b (by rw[q];simp);subst N
    rw[X (by rw[q];simp)]at e;cases e)
  have Y:Mod K mg (A1 c.heap H):=⟨B,j t,⟨mb,j g,I⟩,let ⟨mc,h1,h2⟩:=y;⟨mc,j h1,h2⟩⟩
  have Z:VU P w K mg (A1 c.heap H) callerA [] c H:=⟨rfl,Y,λb o e=>S9 e,aLu (JZ _ _),trivial,λb g=>absurd (show b∈([]:List Addr) from g) (by simp),bJ,.of_eq hg⟩
  refine aJy ((F _ B (j t)).run callerA [] c H ⟨[.ref a],[]⟩ [.ref a] [.ref a] _ _ U Z (p c (.ref a)) (.cons rfl .nil) (J H R W)) λr i h=>?_
  cases r with
  | error e=>exact(L H e i h).elim
  | ok fl=>
   cases fl with
   | next=>exact False.elim h
   | brk=>exact False.elim h
   | cont=>exact False.elim h
   | ret u=>
    obtain⟨v,H',os,bare,un,C,r',q⟩:=h;have q' :v= .bl true:=q;subst q';obtain rfl:u=Value.bool true:=r';refine⟨rfl,OldK.of_keep λb o e=>?_,os,bare⟩
    cases q:H b with
    | none=>exact un.keep b o e q (by intro z;exact absurd (show b∈([]:List Addr) from z) (by simp)) (by simp)
    | some u=>
     rcases R b with z | ⟨ob,xs,z⟩
     ·rw[q]at z;cases z
     ·have z2:=un.vV b ob _ z;obtain⟨T,_⟩:=bJ b _ z;obtain⟨e2,_⟩:=C b _ z2;rw[e]at T;cases T;exact e2
 cases hk:K.lookup a with
 | some o=>
  have e:=KX a o hk;rw[E]at e;cases e;refine l (λ_=>none) (λ_=>.inl rfl) (.inr ⟨_,vs.toArray,_,hk,rfl,rfl,rfl,by rw[List.size_toArray,A];exact O,by simpa using Q⟩) (λb u z=>by have D :(none:Option HO)=some u:=z;cases D) (λb z=>absurd rfl z) λz=>absurd rfl z
 | none=>
  refine l (λb=>if b=a then some (.tP {cls:= .type "list",data:= .seq vs.toArray} (.lst (ns.map V.int))) else none) (λb=>?_) (.inl (.inr ⟨{cls:= .type "list",data:= .seq vs.toArray},if_pos rfl⟩)) (λb u z=>?_) (λb z=>?_) λ_=>hk
  ·by_cases g:b=a
   ·exact .inr ⟨_,_,if_pos g⟩
   ·exact .inl (if_neg g)
  ·by_cases g:b=a
   ·have D :=(if_pos g).symm.trans z;cases D;subst g;exact⟨E,by rw[List.length_map];exact O,vs,_,Q,E⟩
   ·have D :=(if_neg g).symm.trans z;cases D
  ·by_cases g:b=a
   ·exact g
   ·exact absurd (if_neg g) z
theorem Q4{l:PySem.W.OpenLaw}{n k:Nat}{q:Program}{loose:List Str}{XP:(aLz)->Heap->Prop}{C:World->Heap->Prop}{d:DefRec}{K:Params->aLw}{CX:World->KY}{sp:World->Sp}
  (D:l.most=some n) (r:n<=sizeLine) (t:d.params.defaults=[]) (E:gX k callerA)
  (I:∀(w:World) (h:Heap),C w h->(K w.params).In h)
  (F:∀(w:World) (mg:aLz) (p:Addr) (h:Heap),(K w.params).In h->h.Ns mainGlobals mg->mg d.name=some (.ref p)->
   ∃fd:FuncData,(∀(s:Shared) (u:Value),BindsTo s fd ⟨[u],[]⟩ [(x,u)])/\
    ∀base:Heap,(K w.params).In base->base.Ns mainGlobals mg->kX l.prog w (K w.params) mg base (CX w) k p fd [x] (sp w))
  (y:∀(w:World) (H:Hp) (a:Addr) (ns:List Int),ns.length<=n->VS H->rB (K w.params) H a (ns.map V.int)->sp w [.ref a] H (λv _=>v= .bl true) λ_ _ _=>False)
  (z:∀(w:World) (H:Hp) (s:Shared) (e:Value) (A :Shared),CX w [] H s (λ_ _ _=>False) e A ->False):
  PySem.W.WalkO q loose XP C l.row.toRowW d [] (λf vs=>PySem.call f vs):=by
 refine Att.EA D t λw s₀ j mg mb p o pm P doc a vs ns G Y ho hd J B m i c hg=>?_;have KX:=I w _ Y;obtain⟨fd,L,M⟩:=F w mg p _ KX G.T.g B;exact OB KX G.T.g G.T.b G.T.builtins G.T.nolimit hg m i (aIa c r) E M L (λH N O=>y w H a ns c N O) λH e A =>z w H j e A
def eQ(s:Stmt):Arguments:=match s with
 | .FunctionDef _ a _ _ _ _ _ _ _ _=>a
 | _=>{posonlyargs:=[],args:=[],vararg:=none,kwonlyargs:=[],kw_defaults:=[],kwarg:=none,defaults:=[]}
def cU(s:Stmt):List Stmt:=match s with
 | .FunctionDef _ _ b _ _ _ _ _ _ _=>b
 | _=>[]
def aF(s:Stmt):Scope:=match s with
 | .FunctionDef _ _ _ _ _ _ sc _ _ _=>sc
 | _=>{kind:= .function,names:=[],isGenerator:=false,isCoroutine:=false}
abbrev EF:KY:=λ_ _ _ _ _ _=>False
abbrev E0:XK:=λ_ _ _=>False
theorem aCk{X:Cx}:Passes EF X E0:=λ_ _ _ _ _ _ _ h=>h.elim
structure Fun(K:aLw)(x qual:Str)(st:Stmt)(f:Addr)(fd:FuncData):Prop where
 ex:∃(oc:Value) (od:Option Addr) (kV doc pm:Value) (an:Option Addr) (cdv ct:Value) (osl:Array (Option Value)),
  fd=PySem.W.fnOf x qual (eQ st) (cU st) (aF st) .none kV doc pm an cdv ct/\K.lookup f=some ⟨oc,od,.func fd,osl⟩/\PySem.W.codeIn K cdv qual=true
 kp:PySem.W.keepIn K (.ref f)=true
section
variable {P:Program}{w:World}{K:aLw}{mg:aLz}{base:Heap}
theorem Fun.ok{x qual:Str}{st:Stmt}{f:Addr}{N ps:List Str}{k:Nat}{sp:Sp}(F:Fun K x qual st f fd)(S:aY N ps (aF st))(len:∀vs H Q E,sp vs H Q E->vs.length=ps.length)
  (a:∀(cdv:Value) (A:Around) (outer:List Env) (s:Shared) (H:Hp) (vs:List V) (Q:VK) (E:XK),gX k (A.deeper (envOfC qual (aF st) s.heap.objs.size f cdv))->sp vs H Q E->
   ∃t,BU (wJ EF P w K mg base N qual (aF st) f cdv A outer s H E).TH (cU st) t/\t {nx:=λ_ H' =>Q .bT H',rt:=Q} (start N vs) H):kX P w K mg base EF (k+1) f fd ps sp:=by
 obtain⟨oc,od,kV,doc,pm,an,cdv,ct,osl,rfl,d,b⟩:=F.ex;refine aEb d b S len λA outer s H vs Q E e c=>?_;obtain⟨t,h,q⟩:=a cdv A outer s H vs Q E e c;exact⟨t,h.TH,q⟩
theorem Fun.binds{x qual:Str}{st:Stmt}{f:Addr}{ps:List Str}(F:Fun K x qual st f fd)
  (h:∀(kV doc pm:Value) (an:Option Addr) (cdv ct:Value) (us:List Value),us.length=ps.length->bindArgs (PySem.W.fnOf x qual (eQ st) (cU st) (aF st) .none kV doc pm an cdv ct) ⟨us,[]⟩=pure (ps.zip us)):Binds K fd ps []:=by
 obtain⟨oc,od,kV,doc,pm,an,cdv,ct,osl,rfl,b,a⟩:=F.ex;exact .all (h kV doc pm an cdv ct)
theorem FV{x qual:Str}{st:Stmt}{f:Addr}{oc:Value}{od an:Option Addr}{osl:Array (Option Value)}{kV doc pm cdv ct:Value}(l:K.lookup f=some ⟨oc,od,.func (PySem.W.fnOf x qual (eQ st) (cU st) (aF st) .none kV doc pm an cdv ct),osl⟩)
  (c:PySem.W.codeIn K cdv qual=true) (k:PySem.W.keepIn K (.ref f)=true):Fun K x qual st f (PySem.W.fnOf x qual (eQ st) (cU st) (aF st) .none kV doc pm an cdv ct):=⟨⟨oc,od,kV,doc,pm,an,cdv,ct,osl,rfl,l,c⟩,k⟩
end
theorem rM{n:Nat}(h:n<=1000):n<sizeLine:=Nat.lt_of_le_of_lt h (by decide)
end L2
namespace D3
open PySem PySem.Spec PyProof.Rows L2 PySem.Calls
noncomputable def kE(P:Params)(x:Str)(t:Tok)(v:Value):DictEntry:=⟨PyData.keyHash P x,.str x t,v⟩
noncomputable def kF(x:Str)(st:Stmt)(m:Value)(c:Addr)(d:Value:= .none):Obj:=⟨.type "function",none,.func (PySem.W.fnOf x x (eQ st) (cU st) (aF st) d .none .none m none (.ref c) .none),#[]⟩
noncomputable def kC(x:Str)(t:Nat)(l n:Int)(T c:Nat)(u v:Value:= .none)(k:Nat:=3):Obj:=
 ⟨.type "code",none,.fields #[.str x t,.str x (t+1),.str "/claim/cut.py" (t+2),.int l 0,.int n 0,.int 0 0,.int 0 0,.int 3 0,.ref (c-k),.bool true,.int 181 0,.ref (c-k+1),.none,u,v,.ref (c-1),.int T 0,.int l 0,.str "/claim/cut.py" (T+1)],#[]⟩
noncomputable def kD(x:Str)(t:Nat)(l n:Int)(T c:Nat):Obj:=kC x t l n T c (.ref (c-3)) (.ref (c-2)) 5
noncomputable def kQ(p:Program)(ks:List Nat):Program:={p with main:={p.main with body:=ks.filterMap λi=>p.main.body[i]?}}
end D3
namespace K68
open PySem PySem.Spec PyProof.Rows L2 D3
def top(i:Nat):Stmt:=PySem.Challenge.pw_maskwright_k68_reasons_of_tracks.main.body.getD i (.Pass ⟨0,0,0,0⟩)
abbrev gH:Stmt:=top 4
abbrev fH:Stmt:=top 5
abbrev iN:Stmt:=top 6
abbrev qH:Stmt:=top 7
abbrev gI:Stmt:=top 8
abbrev eH:Stmt:=top 9
abbrev c6:Stmt:=top 10
abbrev dJ:Stmt:=top 11
abbrev gJ:Stmt:=top 12
abbrev eG:Stmt:=top 13
abbrev m7:Stmt:=top 14
abbrev gK:Stmt:=top 16
abbrev fI:Stmt:=top 17
abbrev c7:Stmt:=top 18
abbrev dO:Stmt:=top 20
abbrev dM:Stmt:=top 21
abbrev dN:Stmt:=top 22
abbrev eJ:Stmt:=top 23
abbrev eI:Stmt:=top 24
abbrev bP:Stmt:=top 25
abbrev c8:Stmt:=top 27
abbrev bZ:Stmt:=top 28
abbrev cQ:Stmt:=top 29
abbrev uY:Stmt:=top 30
noncomputable def m0:Value:= .str "maskwright.channels" 232
noncomputable def m1:Value:= .str "law_maskwright_k68_reasons_of_tracks" 321
noncomputable def kk:Params->W.Frag:=λP=>(nat_lit 3,⟨.type "dict",none,.dict #[kE P "__name__" 165 (.str "law_maskwright_k68_reasons_of_tracks" 321),kE P "__doc__" 166 .none,kE P "__package__" 167 .none,kE P "__loader__" 168 (.builtin "__main__.__loader__#opaque"),kE P "__spec__" 169 .none,kE P "__annotations__" 170 (.ref 6),kE P "__builtins__" 171 (.ref 4),kE P "__file__" 173 (.str "/claim/cut.py" 172),kE P "__cached__" 174 .none,kE P "MaskError" 206 (.ref 24),kE P "Ringed" 231 (.ref 44),kE P "spans_of" 239 (.ref 51),kE P "orders_of" 245 (.ref 56),kE P "ring_in" 251 (.ref 61),kE P "meet" 259 (.ref 68),kE P "fillings" 265 (.ref 73),kE P "free_wires" 271 (.ref 78),kE P "fewest_tracks" 284 (.ref 85),kE P "thick_column" 290 (.ref 90),kE P "chain_to" 301 (.ref 97),kE P "reason_for" 314 (.ref 104),kE P "wired" 320 (.ref 109),kE P "_law_bag" 333 (.ref 116),kE P "_law_take" 344 (.ref 123),kE P "_law_is_whole" 351 (.ref 130),kE P "_law_alike" 357 (.ref 135),kE P "_law_columns" 372 (.ref 142),kE P "_law_spanned" 378 (.ref 147),kE P "_law_ordered" 384 (.ref 152),kE P "_law_rings" 390 (.ref 157),kE P "_law_thick" 396 (.ref 162),kE P "_law_chain_lengths" 402 (.ref 167),kE P "_law_are_tracks" 408 (.ref 172),kE P "_law_is_chain" 414 (.ref 177),kE P "_law_first_thick" 424 (.ref 184),kE P "_law_is_reason" 430 (.ref 189),kE P "law" 436 (.ref 194)] 37,#[]⟩)::(nat_lit 50,kC "spans_of" 234 9 2 237 50)::(nat_lit 51,kF "spans_of" gH m0 50)::(nat_lit 55,kC "orders_of" 240 16 3 243 55)::(nat_lit 56,kF "orders_of" fH m0 55)::(nat_lit 60,kC "ring_in" 246 22 1 249 60)::(nat_lit 61,kF "ring_in" iN m0 60)::(nat_lit 67,kD "meet" 252 36 2 257 67)::(nat_lit 68,kF "meet" qH m0 67)::(nat_lit 72,kC "fillings" 260 38 2 263 72)::(nat_lit 73,kF "fillings" gI m0 72)::(nat_lit 77,kC "free_wires" 266 44 2 269 77)::(nat_lit 78,kF "free_wires" eH m0 77)::(nat_lit 84,kD "fewest_tracks" 272 46 2 282 84)::(nat_lit 85,kF "fewest_tracks" c6 m0 84)::(nat_lit 89,kC "thick_column" 285 56 3 288 89)::(nat_lit 90,kF "thick_column" dJ m0 89)::(nat_lit 96,kD "chain_to" 291 61 3 299 96)::(nat_lit 97,kF "chain_to" gJ m0 96)::(nat_lit 103,kD "reason_for" 302 69 4 312 103)::(nat_lit 104,kF "reason_for" eG m0 103)::(nat_lit 108,kC "wired" 315 78 2 318 108)::(nat_lit 109,kF "wired" m7 m0 108)::(nat_lit 115,kD "_law_bag" 323 88 2 331 115)::(nat_lit 116,kF "_law_bag" gK m1 115)::(nat_lit 122,kD "_law_take" 334 98 2 342 122)::(nat_lit 123,kF "_law_take" fI m1 122)::(nat_lit 129,kD "_law_is_whole" 345 110 1 349 129)::(nat_lit 130,kF "_law_is_whole" c7 m1 129)::(nat_lit 134,kC "_law_alike" 352 112 2 355 134)::(nat_lit 141,kD "_law_columns" 358 120 1 370 141)::(nat_lit 142,kF "_law_columns" dO m1 141)::(nat_lit 146,kC "_law_spanned" 373 134 2 376 146)::(nat_lit 147,kF "_law_spanned" dM m1 146)::(nat_lit 151,kC "_law_ordered" 379 141 2 382 151)::(nat_lit 152,kF "_law_ordered" dN m1 151)::(nat_lit 156,kC "_law_rings" 385 148 2 388 156)::(nat_lit 157,kF "_law_rings" eJ m1 156)::(nat_lit 161,kC "_law_thick" 391 154 3 394 161)::(nat_lit 162,kF "_law_thick" eI m1 161)::(nat_lit 166,kC "_law_chain_lengths" 397 156 2 400 166)::(nat_lit 167,kF "_law_chain_lengths" bP m1 166)::(nat_lit 171,kC "_law_are_tracks" 403 162 4 406 171)::(nat_lit 176,kC "_law_is_chain" 409 181 4 412 176)::(nat_lit 177,kF "_law_is_chain" c8 m1 176)::(nat_lit 183,kD "_law_first_thick" 415 187 3 422 183)::(nat_lit 184,kF "_law_first_thick" bZ m1 183)::(nat_lit 188,kC "_law_is_reason" 425 192 4 428 188)::(nat_lit 189,kF "_law_is_reason" cQ m1 188)::(nat_lit 193,kC "law" 431 208 1 434 193)::(nat_lit 194,kF "law" uY m1 193)::[]
theorem kl:PySem.W.LeftO PySem.Challenge.rw_maskwright_k68_reasons_of_tracks.prog (D3.kQ PySem.Challenge.pw_maskwright_k68_reasons_of_tracks [1,2,4,5,6,7,8,9,10,11,12,13,14,16,17,18,19,20,21,22,23,24,25,26,27,28,29,30]) [] (λ_=>true) (λs=>List.map s.heap.get? [3,50,51,55,56,60,61,67,68,72,73,77,78,84,85,89,90,96,97,103,104,108,109,115,116,122,123,129,130,134,141,142,146,147,151,152,156,157,161,162,166,167,171,176,177,183,184,188,189,193,194]) (λw=>(kk w.params).map λp=>some p.2) 2520:=λ_=>by kernel_rfl
end K68
namespace L2
open PySem PySem.Spec PyProof.Rows
section
variable {κ:Type}[DecidableEq κ]
def gS(kvs:List (κ×V))(k:κ):Option V:=(kvs.find? λa=>decide (a.1=k)).map (·.2)
def putK(kvs:List (κ×V))(k:κ)(v:V):List (κ×V):=
 if (kvs.any λa=>decide (a.1=k))=true then kvs.map (λa=>if a.1=k then (a.1,v) else a) else kvs++[(k,v)]
def hV(kvs:List (κ×V))(k:κ):List (κ×V):=kvs.filter λa=>decide (a.1≠k)
variable{r:List (κ×V)}
theorem m3{p:κ×V}{k:κ}(e:p.1=k):gS (p::r) k=some p.2:=by simp[gS,List.find?_cons,e]
theorem m4{p:κ×V}{k:κ}(e:¬p.1=k):gS (p::r) k=gS r k:=by simp[gS,List.find?_cons,e]
theorem B9(k:κ):∀kvs:List (κ×V),(kvs.any λa=>decide (a.1=k))=(gS kvs k).isSome
 | []=>rfl
 | p::r=>by
  rw[List.any_cons];by_cases e:p.1=k
  ·simp only[m3 e,decide_eq_true e,Bool.true_or,Option.isSome_some]
  ·rw[m4 e,decide_eq_false e,Bool.false_or];exact B9 k r
theorem nH(kvs:List (κ×V))(k:κ)(v:V):(putK kvs k v).length<=kvs.length+1:=by
 unfold putK;split
 ·rw[List.length_map];lia
 ·rw[List.length_append,List.length_cons,List.length_nil];lia
theorem w4.eW{o:Option V}{u:Option Value}(r:w4 o u):o.isSome=u.isSome:=by
 cases o with
 | none=>cases u with
  | none=>rfl
  | some _=>exact(show False from r).elim
 | some _=>cases u with
  | none=>exact(show False from r).elim
  | some _=>rfl
variable{kvs:List (κ×V)}{vs:List (κ×Value)}
theorem KV.val(r:KV kvs vs)(k:κ):w4 (gS kvs k) (valueAt vs k):=by
 unfold KV at r
 induction r with
 | nil=>exact True.intro
 | @cons p q ps qs h t ih=>
  obtain⟨c,d⟩:=h;by_cases e:p.1=k
  ·have a :q.1=k:=c.symm.trans e;have b:valueAt (q::qs) k=some q.2:=by simp[valueAt,List.find?_cons,a]
   rw[m3 e,b];exact d
  ·have a :¬q.1=k:=λz=>e (c.trans z);have b:valueAt (q::qs) k=valueAt qs k:=by simp[valueAt,List.find?_cons,a]
   rw[m4 e,b];exact ih
theorem KV.any(r:KV kvs vs)(k:κ):(kvs.any λa=>decide (a.1=k))=vs.any λa=>decide (a.1=k):=by
 unfold KV at r
 induction r with
 | nil=>rfl
 | cons h t ih=>rw[List.any_cons,List.any_cons,ih,h.1]
theorem KV.XH(r:KV kvs vs)(k:κ){y:V}{u:Value}(c:RelV y u):
  KV (kvs.map λa=>if a.1=k then (a.1,y) else a) (vs.map λa=>if a.1=k then (a.1,u) else a):=by
 unfold KV at r⊢
 induction r with
 | nil=>exact .nil
 | @cons p q ps qs h t ih=>
  rw[List.map_cons,List.map_cons];refine .cons ?_ ih;obtain⟨b,d⟩:=h;by_cases e:p.1=k
  ·rw[if_pos e,if_pos (b.symm.trans e)];exact⟨b,c⟩
  ·rw[if_neg e,if_neg (λz=>e (b.trans z))];exact⟨b,d⟩
theorem KV.put(r:KV kvs vs)(k:κ){y:V}{u:Value}(a:RelV y u):KV (putK kvs k y) (stored vs k u):=by
 unfold putK stored;rw[r.any k];by_cases e:(vs.any λb=>decide (b.1=k))=true
 ·rw[if_pos e,if_pos e];exact r.XH k a
 ·rw[if_neg e,if_neg e];exact Paired.snoc r ⟨rfl,a⟩
theorem KV.drop(r:KV kvs vs)(k:κ):KV (hV kvs k) (without vs k):=by
 unfold KV at r⊢;unfold hV without
 induction r with
 | nil=>exact .nil
 | @cons p q ps qs h t ih=>
  obtain⟨c,d⟩:=h;rw[List.filter_cons,List.filter_cons];by_cases e:p.1=k
  ·have a:¬decide (p.1≠k)=true:=by simp[e]
   have b:¬decide (q.1≠k)=true:=by simp[c.symm.trans e]
   rw[if_neg a,if_neg b];exact ih
  ·have f :¬q.1=k:=λz=>e (c.trans z);have a:decide (p.1≠k)=true:=by simp[e]
   have b:decide (q.1≠k)=true:=by simp[f]
   rw[if_pos a,if_pos b];exact .cons ⟨c,d⟩ ih
theorem KV.length(r:KV kvs vs):kvs.length=vs.length:=Paired.length r
theorem PM(kvs:List (κ×V))(k:κ):(hV kvs k).length<=kvs.length:=aJ2 _ _
end
variable{P:Program}{w:World}{u:Value}
theorem qQ{k:Key}(r:RelV (kV k) u):(aS P w).is k u=true:=by
 cases k with
 | inl i=>obtain⟨t,e⟩:=(show ∃t,u=Value.int i t from r);subst e;exact C2 P w i t
 | inr x=>obtain⟨t,e⟩:=(show ∃t,u=Value.str x t from r);subst e;exact C1 P w x t
theorem rX{P:Program}{w:World}:∀{ks:List Key} {us:List Value},Vals (ks.map kV) us->ItemsAre (aS P w) ks us
 | [],_,r=>by rw[List.map_nil]at r;cases r;exact .nil
 | k::ks,_,r=>by
  rw[List.map_cons]at r
  cases r with
  | cons h t=>exact .cons (qQ h) (rX t)
abbrev KT(H:Hp):List (List Key×V)->List (List Key×Addr×Value)->Prop:=Paired λp q=>p.1=q.1/\H q.2.1=some (.tup (p.1.map kV))/\RelV p.2 q.2.2
variable{H:Hp}{kvs:List (List Key×V)}{xs:List (List Key×Addr×Value)}
theorem KT.val(r:KT H kvs xs)(k:List Key):w4 (gS kvs k) ((atKey xs k).map (·.2)):=by
 induction r with
 | nil=>exact True.intro
 | @cons p q ps qs h t ih=>
  obtain⟨c,_,d⟩:=h;by_cases e:p.1=k
  ·have a :q.1=k:=c.symm.trans e;have b:atKey (q::qs) k=some q.2:=by simp[atKey,List.find?_cons,a]
   rw[m3 e,b];exact d
  ·have a :¬q.1=k:=λz=>e (c.trans z);have b:atKey (q::qs) k=atKey qs k:=by simp[atKey,List.find?_cons,a]
   rw[m4 e,b];exact ih
theorem KT.XH(r:KT H kvs xs)(k:List Key){y:V}(d:RelV y u):
  KT H (kvs.map λb=>if b.1=k then (b.1,y) else b) (xs.map (putAt k u)):=by
 induction r with
 | nil=>exact .nil
 | @cons p q ps qs h t ih=>
  rw[List.map_cons,List.map_cons];refine .cons ?_ ih;obtain⟨a,c,f⟩:=h;unfold putAt;by_cases e:p.1=k
  ·rw[if_pos e,if_pos (a.symm.trans e)];exact⟨a,c,d⟩
  ·rw[if_neg e,if_neg (λz=>e (a.trans z))];exact⟨a,c,f⟩
theorem KT.put(r:KT H kvs xs)(k:List Key){b:Addr}{y:V}(c:H b=some (.tup (k.map kV)))(a:RelV y u):
  KT H (putK kvs k y) (storedH xs k b u):=by
 have e:(kvs.any λd=>decide (d.1=k))=(atKey xs k).isSome:=by
  rw[B9,(r.val k).eW,Option.isSome_map]
 unfold putK storedH;rw[e];by_cases q:(atKey xs k).isSome=true
 ·rw[if_pos q,if_pos q];exact r.XH k a
 ·rw[if_neg q,if_neg q];exact Paired.snoc r ⟨rfl,c,a⟩
theorem KT.keeps{H H' :Hp}(r:KT H kvs xs)(ht:∀b a,H b=some (.tup a)->H' b=some (.tup a)):KT H' kvs xs:=
 Paired.YV r λ_ _ z=>⟨z.1,ht _ _ z.2.1,z.2.2⟩
section
variable {P:Program}{w:World}{H:Hp}{h:Heap}{a:Addr}
theorem V8{u:HO}(ok:rC P w H h)(e:Rd H a u):cV P w H h a u:=e.ok ok
variable{kvs:List (Key×V)}
theorem qX(ok:rC P w H h)(e:Rd H a (.dK kvs)):kvs.length<=sizeLine/\(a==sysModules)=false/\∃vs,KV kvs vs/\h.DictOf (aS P w) a vs:=
 show cV P w H h a (.dK kvs) from V8 ok e
theorem IA(ok:rC P w H h)(e:H a=some (.dK kvs)):kvs.length<=sizeLine/\(a==sysModules)=false/\∃vs,KV kvs vs/\h.DictOf (aS P w) a vs:=qX ok (.inl e)
theorem rV{ks:List Key}(ok:rC P w H h)(e:H a=some (.tup (ks.map kV))):(tupleKind (aS P w)).is h ks a:=by
 obtain⟨_,aL,r,⟨o,b,c,n,d⟩,_⟩:=(show cV P w H h a (.tup (ks.map kV)) from ok a _ e)
 exact⟨o,aL.toArray,n,b,c,d,by simpa using rX r⟩
variable{kvs:List (List Key×V)}
theorem qW(ok:rC P w H h)(e:Rd H a (.dT kvs)):kvs.length<=sizeLine/\(a==sysModules)=false/\
  ∃xs,KT H kvs xs/\h.DictOfH (tupleKind (aS P w)) a xs:=by
 obtain⟨z,y,xs,r,o,es,ep,b,c,d,f,g⟩:=(show cV P w H h a (.dT kvs) from V8 ok e)
 refine⟨z,y,xs,r,o,es,ep,b,c,d,f,λx hx=>?_,g⟩
 have all:∀{l:List (List Key×V)} {m:List (List Key×Addr×Value)},KT H l m->∀x∈m,(tupleKind (aS P w)).is h x.1 x.2.1:=by
  intro l m q
  induction q with
  | nil=>intro x hx;exact nomatch hx
  | @cons p q ps qs hq t ih=>
   intro x hx;rcases aI5.mp hx with e | hx
   ·subst e;exact rV ok (by rw[<-hq.1];exact hq.2.1)
   ·exact ih x hx
 exact all r x hx
theorem PL(ok:rC P w H h)(e:H a=some (.dT kvs)):kvs.length<=sizeLine/\(a==sysModules)=false/\
  ∃xs,KT H kvs xs/\h.DictOfH (tupleKind (aS P w)) a xs:=qW ok (.inl e)
end
def GO(H:Hp)(a:Addr)(y:V)(r:Option V):Prop:=
 (∃kvs k,Rd H a (.dK kvs)/\y=kV k/\r=gS kvs k)\/∃kvs k b,Rd H a (.dT kvs)/\y= .ref b/\H b=some (.tup (k.map kV))/\r=gS kvs k
variable{kvs:List (Key×V)}
theorem GO.k{a:Addr}{k:Key}(e:H a=some (.dK kvs)):GO H a (kV k) (gS kvs k):= .inl ⟨kvs,k,.inl e,rfl,rfl⟩
section
variable {X:Cx}{pins:List (Addr×Obj)}{σ:St}{H:Hp}{s:Shared}{a:Addr}{y v:V}{u r:Value}{o:Option V}{A:Around}{E:aLx}
theorem Inv.big(I:Inv X pins σ H s):sysModules<s.heap.objs.size:=by
 have h:mainGlobals<s.heap.objs.size:=(I.mod.glob.keeps I.bk).lt;exact aL2 (by decide) h
theorem KD{Q:aLx}(r:A.units+1<cLine)(I:Inv X pins σ H s)(g:GO H a y (some v))(n:RelV y u)(h:∀w' q,Inv X pins σ H q ->RelV v w' ->Q w' q):
  wpAny (model X.prog X.w) A (getItem (.ref a) u) Q E s:=by
 rcases g with ⟨kvs,k,e,f,l⟩ | ⟨kvs,k,b,e,f,t,l⟩
 ·subst f;obtain⟨z,hd,vs,c,i⟩:=qX I.bJ e;obtain⟨w',j,d⟩:=w4.some_of (v:=v) (o:=valueAt vs k) (by rw[l];exact c.val k);exact wpAny_getItem_of (qQ n) i.mapOf j (h w' _ (I.tok _) d)
 ·subst f;cases (show u=Value.ref b from n);obtain⟨z,hd,xs,c,i⟩:=qW I.bJ e;obtain⟨w',j,d⟩:=w4.some_of (v:=v) (o:=(atKey xs k).map (·.2)) (by rw[l];exact c.val k);obtain⟨p,x,m⟩:=aI3.mp j;refine wpAny_getItem_heap (aJl r) (rV I.bJ t) i x ?_;rw[m];exact h w' _ (I.tok _) d
theorem aHj{Q:aLx}(m:A.units+1<cLine)(I:Inv X pins σ H s)(g:GO H a y o)(i:RelV y u)(h:∀j,Inv X pins σ H j ->Q (.bool o.isSome) j):
  wpAny (model X.prog X.w) A (compareOp .In u (.ref a)) Q E s:=by
 rcases g with ⟨kvs,k,e,d,l⟩ | ⟨kvs,k,b,e,d,n,l⟩
 ·subst d;obtain⟨z,hd,vs,c,f⟩:=qX I.bJ e;refine wpAny_in_of (qQ i) hd f.mapOf ?_;rw[<-(c.val k).eW,<-l];exact h _ (I.tok _)
 ·subst d;cases (show u=Value.ref b from i);obtain⟨z,hd,xs,c,f⟩:=qW I.bJ e;refine wpAny_in_heap (aJl m) (rV I.bJ n) hd f ?_;have q:=(c.val k).eW;rw[Option.isSome_map]at q;rw[<-q,<-l];exact h _ (I.tok _)
theorem U4{Q:aLx}(m:A.units+1<cLine)(I:Inv X pins σ H s)(g:GO H a y o)(i:RelV y u)(h:∀j,Inv X pins σ H j ->Q (.bool (!o.isSome)) j):
  wpAny (model X.prog X.w) A (compareOp .NotIn u (.ref a)) Q E s:=by
 rcases g with ⟨kvs,k,e,d,l⟩ | ⟨kvs,k,b,e,d,n,l⟩
 ·subst d;obtain⟨z,hd,vs,c,f⟩:=qX I.bJ e;refine wpAny_notIn_of (qQ i) hd f.mapOf ?_;rw[<-(c.val k).eW,<-l];exact h _ (I.tok _)
 ·subst d;cases (show u=Value.ref b from i);obtain⟨z,hd,xs,c,f⟩:=qW I.bJ e;refine wpAny_notIn_heap (aJl m) (rV I.bJ n) hd f ?_;have q:=(c.val k).eW;rw[Option.isSome_map]at q;rw[<-q,<-l];exact h _ (I.tok _)
theorem oE{h' :Heap}{t' :Nat}{ob:HO}(I:Inv X pins σ H s)(c:GK (H a))(d:Heap.SameBut a s.heap h')(he:∃q,h'.get? a=some q)(new:cV X.prog X.w (upd H a ob) h' a ob):
  Inv X pins σ (upd H a ob) {s with heap:=h',toks:=t'}:=
 I.write (x:=a) (e:=a) c (.inl rfl) (λb q f z=>(d.2 b f).trans z) he new
theorem FZ{H' :Hp}{h' :Heap}{vs:List (Key×Value)}(z:kvs.length<=sizeLine)(hd:(a==sysModules)=false)(b:KV kvs vs)(c:h'.DictOf (aS P w) a vs):
  cV P w H' h' a (.dK kvs):=⟨z,hd,vs,b,c⟩
end
section
variable {X:Cx}{pins:List (Addr×Obj)}{σ:St}{H:Hp}{s:Shared}{a:Addr}{kvs:List (Key×V)}{k:Key}{u:Value}{A:Around}{E:aLx}
theorem KG{Q:Unit->Shared->Prop}(I:Inv X pins σ H s)(e:H a=some (.dK kvs))(g:RelV (kV k) u)(l:(gS kvs k).isSome=true)(h:∀f,Inv X pins σ (upd H a (.dK (hV kvs k))) f ->Q () f):
  wpAny (model X.prog X.w) A (delItem (.ref a) u) Q E s:=by
 obtain⟨z,hd,vs,b,d⟩:=IA I.bJ e
 refine wpAny_delItem_slot d.typeIs (by decide) PySem.F.slot_dict_delitem
  (call_meetsIn PySem.F.slot_dict_delitem d.typeIs PySem.F.entry_dict_delitem (PySem.F.args_dict_delitem_2 _ _) (meets_dict_delitem_pairs (aS X.prog X.w) a (qQ g)) ⟨vs,d,by rw[<-b.length];exact z,by rw[<-(b.val k).eW];exact l,λh' c i=>h _ ?_⟩)
 have he:∃q,h'.get? a=some q:=let ⟨q,_,_,hq,_⟩:=c;⟨q,hq⟩;exact oE I (by rw[e];exact True.intro) i he (FZ (aIa (PM kvs k) z) hd (b.drop k) c)
end
variable{pins:List (Addr×Obj)}
theorem DW{X:Cx}{σ:St}{s:Shared}{a:Addr}{y:V}{o:Option V}(I:Inv X pins σ H s)(g:GO H a y o):s.TypeIs (.ref a) "dict":=by
 rcases g with ⟨kvs,k,e,_,_⟩ | ⟨kvs,k,b,e,_,_,_⟩
 ·obtain⟨_,_,vs,_,c⟩:=qX I.bJ e;exact c.typeIs
 ·obtain⟨_,_,xs,_,c⟩:=qW I.bJ e;exact c.typeIs
def aC4(c ty:TE):TS:=λD σ H=>c σ H λx d=>ty σ d λy b=>∃a kvs k,x= .ref a/\b a=some (.dK kvs)/\y=kV k/\(gS kvs k).isSome=true/\D.nx σ (upd b a (.dK (hV kvs k)))
section
variable {X:Cx}{o i e value:Expr}{pos pos' lK:Pos}{td ty tv:TE}
theorem SK(ho:PE X o td)(hi:PE X i ty):PS X (.Delete [.Subscript o i lK] pos) (aC4 td ty):=by
 intro pins s σ H D I h;refine wpAny_Delete (wpAny_deleteEach_cons (wpAny_delete_Subscript (b6 (ho pins s σ H _ I h) λu s1 ⟨x,c,d,f,q1⟩=>b6 (hi pins s1 σ c _ d q1) λp s2 b=>?_)));obtain⟨y,q,g,j,a,kvs,k,ex,e,m,l,q2⟩:=b;subst ex m;obtain rfl:u=Value.ref a:=f;exact KG g e j l λr n=>wpAny_deleteEach_nil ⟨σ,_,n,q2⟩
end
theorem DV(h:Heap)(a:sysModules<h.objs.size):cV P w H (h.push {cls:= .type "dict",data:= .dict #[]}) h.objs.size (.dK []):=
 ⟨aIx _,aKm.mpr (aIg (aI4 a)),[],.nil,Heap.DictOf.new h⟩
theorem DT(h:Heap)(a:sysModules<h.objs.size):cV P w H (h.push {cls:= .type "dict",data:= .dict #[]}) h.objs.size (.dT []):=
 ⟨aIx _,aKm.mpr (aIg (aI4 a)),[],.nil,_,#[],0,aHy _ rfl,⟨rfl,rfl,rfl⟩,rfl,rfl,List.nodup_nil⟩
def W9:TE:=λ_ H Q=>∀p,H p=none->Q (.ref p) (upd H p (.dK []))
def W8:TE:=λ_ H Q=>∀p,H p=none->Q (.ref p) (upd H p (.dT []))
section
variable {X:Cx}{pos:Pos}
theorem MX:PE X (.Dict [] [] pos) W9:=λpins s σ H Q I h=>
 wpAny_Dict_empty ⟨.ref s.heap.objs.size,_,I.laid (a:=s.heap.objs.size) (o:= .dK []) (t' :=s.toks) (λ_ _ q=>aHu _ q) (aHw _) (DV s.heap I.big),rfl,h _ (I.bJ.fresh (aHw _))⟩
theorem MW:PE X (.Dict [] [] pos) W8:=λpins s σ H Q I h=>
 wpAny_Dict_empty ⟨.ref s.heap.objs.size,_,I.laid (a:=s.heap.objs.size) (o:= .dT []) (t' :=s.toks) (λ_ _ q=>aHu _ q) (aHw _) (DT s.heap I.big),rfl,h _ (I.bJ.fresh (aHw _))⟩
end
def LK:List (TE×TE)->St->Hp->(List (V×V)->Hp->Prop)->Prop
 | [],_,H,Q=>Q [] H
 | (tk,tv)::r,σ,H,Q=>tk σ H λx a=>tv σ a λy b=>LK r σ b λps c=>Q ((x,y)::ps) c
abbrev VV:List (V×V)->List (Value×Value)->Prop:=Paired λp q=>RelV p.1 q.1/\RelV p.2 q.2
def PPs(X:Cx)(pos:Pos)(keys:List (Option Expr))(a:List Expr)(b:List (TE×TE)):Prop:=
 ∀(pins:List (Addr×Obj)) (s:Shared) (σ:St) (H:Hp) (Q:List (V×V)->Hp->Prop),Inv X pins σ H s->LK b σ H Q->
  wpAny (model X.prog X.w) X.A (evalPairs (pairTrees keys a X.env pos)) (λvs c =>∃ps H',Inv X pins σ H' c /\VV ps vs/\Q ps H') X.xe s
theorem SM{X:Cx}{pos:Pos}:PPs X pos [] [] []:=λpins s σ H Q I h=>pairTrees_nil_walk ⟨[],H,I,.nil,h⟩
theorem MQ{X:Cx}{pos:Pos}{k v:Expr}{ks:List (Option Expr)}{vs:List Expr}{tk tv:TE}{a:List (TE×TE)}(hk:PE X k tk)(hv:PE X v tv)(d:PPs X pos ks vs a):
  PPs X pos (some k::ks) (v::vs) ((tk,tv)::a):=λpins s σ H Q I h=>
 pairTrees_cons_walk (b6 (hk pins s σ H _ I h) λu s1 ⟨x,e,f,g,q1⟩=>b6 (hv pins s1 σ e _ f q1) λo s2 ⟨y,i,j,l,q2⟩=>
  b6 (d pins s2 σ i _ j q2) λp q b=>by obtain⟨ps,m,n,c,q3⟩:=b;exact⟨(x,y)::ps,m,n,.cons ⟨g,l⟩ c,q3⟩)
structure M2(X:Cx)(o:Expr)(m:Str)(apos:Pos)(e f:Expr)(dP:Pos):Prop where
 base:attributeBase o m X.env (eval o X.env)=eval o X.env
 UW:((backTo dP (starEach [e,f] X.env)).all (λx=>!x.1) && (backToKw dP (keywordEach [] X.env)).all (λx=>x.1.isSome)
  && decide (([e,f]:List Expr).length+([]:List Keyword).length+(if ([]:List Keyword).isEmpty then 0 else 1)<30))=true
 line:(apos.endLine==dP.line)=true
 trees:backTo dP (starEach [e,f] X.env)=[(false,eval e X.env),(false,eval f X.env)]
def IsD(H:Hp)(a:Addr):Prop:=(∃kvs,Rd H a (.dK kvs))\/∃kvs,Rd H a (.dT kvs)
theorem OU{X:Cx}{σ:St}{s:Shared}{a:Addr}(I:Inv X pins σ H s)(d:IsD H a):
  s.TypeIs (.ref a) "dict"/\(∀b,Value.ref a= .ref b->∃ob,s.heap.get? b=some ob/\ob.dict=none)/\(a==sysModules)=false:=by
 rcases d with ⟨kvs,e⟩ | ⟨kvs,e⟩
 ·obtain⟨_,hd,vs,_,c⟩:=qX I.bJ e;refine⟨c.typeIs,λb q=>?_,hd⟩;cases q;obtain⟨ob,_,_,f,g,_⟩:=c;exact⟨ob,f,g.2.1⟩
 ·obtain⟨_,hd,xs,_,c⟩:=qW I.bJ e;refine⟨c.typeIs,λb q=>?_,hd⟩;cases q;obtain⟨ob,_,_,f,g,_⟩:=c;exact⟨ob,f,g.2.1⟩
end L2
namespace ST
open PySem PySem.SetTable
def GJ(xs:Array Nat):Prop:=xs.toList.Pairwise (· < ·)
variable{xs:Array Nat}{i j:Nat}
theorem E6(h:GJ xs)(hi:i<j)(a:j<xs.size):xs[i]'(by lia)<xs[j]:=by
 have:=aKj.mp h i j (by simp;lia) (by simpa using a) hi;simpa using this
theorem MF(h:GJ xs)(hi:i<=j)(a:j<xs.size):xs[i]'(by lia)<=xs[j]:=by
 rcases aLm hi with z | z
 ·exact aJ6 (E6 h z a)
 ·subst z;exact aHw _
theorem A2(xs:Array Nat)(j:Nat)(h:GJ xs):∀(fuel lo hi:Nat),hi-lo<=fuel->lo<=hi->hi<=xs.size->(∀k (hk:k<xs.size),k<lo->xs[k]<j)->(∀k (hk:k<xs.size),hi<=k->j<=xs[k])->
  (below.go xs j fuel lo hi<=xs.size)/\(∀k (hk:k<xs.size),k<below.go xs j fuel lo hi->xs[k]<j)/\(∀k (hk:k<xs.size),below.go xs j fuel lo hi<=k->j<=xs[k])
 | 0,lo,hi,h1,h2,h3,a,b=>by
  have:lo=hi:=by lia
  subst this;exact⟨h3,a,b⟩
 | fuel+1,lo,hi,h1,h2,h3,a,b=>by
  unfold below.go;by_cases e:lo<hi
  ·rw[if_pos e];have f:(lo+hi) / 2<xs.size:=by lia
   have g:xs.getD ((lo+hi) / 2) j=xs[(lo+hi) / 2]:=by simp[Array.getD,f]
   simp only[g];by_cases d:xs[(lo+hi) / 2]<j
   ·rw[if_pos d];exact A2 xs j h fuel _ _ (by lia) (by lia) h3 (λk hk c=>Nat.lt_of_le_of_lt (MF h (by lia) f) d) b
   ·rw[if_neg d];exact A2 xs j h fuel _ _ (by lia) (by lia) (by lia) a (λk hk c=>aIa (aL9 d) (MF h c hk))
  ·rw[if_neg e];have:lo=hi:=by lia
   subst this;exact⟨h3,a,b⟩
theorem lU(j:Nat)(h:GJ xs):(below xs j<=xs.size)/\(∀k (hk:k<xs.size),k<below xs j->xs[k]<j)/\(∀k (hk:k<xs.size),below xs j<=k->j<=xs[k]):=
 A2 xs j h xs.size 0 xs.size (by lia) (by lia) (aHw _) (λk hk z=>by lia) (λk hk z=>by lia)
theorem F8(h:GJ xs):below xs 0=0:=by
 obtain⟨a,b,_⟩:=lU 0 h;apply aIl;intro z;have:=b 0 (by lia) (by lia)
 lia
theorem GA(h:GJ xs)(hi:i<xs.size):below xs (xs[i]+1)=i+1:=by
 obtain⟨a,b,c⟩:=lU (xs[i]+1) h
 have e:i<below xs (xs[i]+1):=by
  apply aIl;intro z;have:=c i hi (by lia)
  lia
 apply aIl;intro z;have d:i+1<below xs (xs[i]+1):=by lia
 have f:=b (i+1) (by lia) d;have g:=E6 (i:=i) (j:=i+1) h (by lia) (by lia)
 lia
theorem TJ(h:GJ xs)(f:xs[below xs j]? ≠some j):j∉xs.toList:=by
 intro g;obtain⟨k,hk,e⟩:=aKf.mp g;have d :k<xs.size:=by simpa using hk
 have i :xs[k]=j:=by simpa using e
 obtain⟨a,b,c⟩:=lU j h
 have l:below xs j<=k:=by
  apply aIl;intro z;have:=b k d (by lia)
  lia
 rcases aLm l with z | z
 ·have:=E6 h z d;have:=c _ (by lia) (aHw _)
  lia
 ·apply f;rw[z];simp[d,i]
theorem DG{α:Type}(xs:Array α)(p:Nat)(x:α)(a:p<=xs.size):(insertAt xs p x).toList=xs.toList.take p++x::xs.toList.drop p:=by
 unfold insertAt;simp[Array.toList_extract];rw[List.take_of_length_le (by simp)]
theorem E7(h:GJ xs)(i:j∉xs.toList):GJ (insertAt xs (below xs j) j):=by
 obtain⟨a,b,c⟩:=lU j h;unfold GJ;rw[DG _ _ _ a,List.pairwise_append];refine⟨h.sublist (aJz _ _),?_,?_⟩
 ·rw[List.pairwise_cons];refine⟨λy f=>?_,h.sublist (List.drop_sublist _ _)⟩;obtain⟨k,hk,e⟩:=aKf.mp f;have d:below xs j+k<xs.size:=by simp at hk;lia
  have l:xs[below xs j+k]=y:=by simpa using e
  have:=c _ d (by lia);rcases aLm this with z | z
  ·lia
  ·exfalso;apply i;rw[z];simp
 ·intro x n y f;obtain⟨k,hk,e⟩:=aKf.mp n;have d:k<below xs j/\k<xs.size:=by simp at hk;lia
  have l:xs[k]=x:=by simpa using e
  have q:=b k d.2 d.1;rcases aI5.mp f with z | z
  ·lia
  ·obtain⟨m,o,p⟩:=aKf.mp z;have g:below xs j+m<xs.size:=by simp at o;lia
   have r:xs[below xs j+m]=y:=by simpa using p
   have:=c _ g (by lia)
   lia
theorem IZ(n:Nat):GJ (Array.range n):=by
 unfold GJ;rw[Array.toList_range];exact aL3
structure sL(l:Bool)(t:SetTable):Prop where
 ris:GJ t.place
 led:t.led=l
variable{l:Bool}{t:SetTable}
theorem sL.plain(h:sL l t)(b:Bool):sL l {t with plain:=b}:=⟨h.ris,h.led⟩
theorem sL.fresh(f m:Nat)(l:Bool):sL l (.fresh f m l):=⟨by unfold GJ SetTable.fresh;simp,rfl⟩
theorem sL.G4(h:sL l t)(n:Nat):sL l (t.standIn n):=⟨IZ n,h.led⟩
theorem sL.S2(h:sL l t)(n:Nat):sL l (t.orStandIn n):=by
 unfold SetTable.orStandIn;split
 ·exact h
 ·exact h.G4 n
def VY(t:SetTable)(j:Nat):Prop:=∀i,t.slot j≠ .live i
theorem u6{t:SetTable}(x:Int):∀(fuel:Nat) (p:Probe) (j:Nat) (d:Option Nat),(∀d,p.dummy=some d->VY t d)->probe.go t (λ_=>x+1) x fuel p=some (.empty j d)->VY t (d.getD j)
 | 0,p,j,d,_,e=>by simp[probe.go]at e
 | fuel+1,p,j,d,hp,e=>by
  unfold probe.go at e;have a:∀q:Probe,(t.advance q).dummy=q.dummy:=λq=>by unfold SetTable.advance;split <;> rfl
  cases hs:t.slot p.j with
  | empty=>
   rw[hs]at e;simp at e;obtain⟨rfl,rfl⟩:=e
   cases hd:p.dummy with
   | none=>intro i;simp[hs]
   | some d=>exact hp d hd
  | dummy=>
   rw[hs]at e;exact u6 x fuel _ j d (λd h=>by rw[a]at h;cases h;intro i;simp[hs]) e
  | live i=>
   rw[hs]at e;have:(x+1==x)=false:=by simp;lia
   simp only[this]at e;exact u6 x fuel _ j d (λd h=>hp d (by rw[a]at h;exact h)) e
theorem J4{x:Int}{b:Bool}(e:t.freeSlot x=some (j,b)):VY t j:=by
 unfold SetTable.freeSlot at e
 cases hp:t.probe (λ_=>x+1) x (t.probeStart x) with
 | none=>rw[hp]at e;cases e
 | some m=>
  rw[hp]at e
  cases m with
  | candidate a b c=>cases e
  | empty k d=>
   have f:=u6 x _ _ k d (λd h=>by cases h) hp;simp at e;obtain⟨rfl,_⟩:=e;exact f
theorem IQ(h:sL l t)(e:VY t j):j∉t.place.toList:=by
 apply TJ h.ris;intro z;refine e (below t.place j) ?_;unfold SetTable.slot;simp[z]
theorem sL.put(h:sL l t)(a:j∉t.place.toList):sL l (t.put j).1:=by
 unfold SetTable.put;exact⟨E7 h.ris a,h.led⟩
theorem sL.lay(h:sL l t)(es:Array (Int×Value))(x:Int)(v:Value):sL l (layNew t es x v).2.1:=by
 unfold layNew
 cases hf:t.freeSlot x with
 | none=>exact h.G4 _
 | some p=>
  obtain⟨j,b⟩:=p;have:=h.put (IQ h (J4 hf));exact this.S2 _
theorem sL.aC6(h:sL l t)(es:Array (Int×Value))(n:Nat):sL l (relayAll t es n).2.1:=by
 unfold relayAll
 cases hr:t.relaid (es.map (·.1)) n with
 | none=>exact h.G4 _
 | some p=>
  obtain⟨t',e⟩:=p;simp only;split
  ·unfold SetTable.relaid SetTable.laid at hr
   cases ho:layClean (sizeAbove n-1) (es.map (·.1)) with
   | none=>rw[ho]at hr;cases hr
   | some ow=>
    rw[ho]at hr;simp at hr;obtain⟨rfl,_⟩:=hr;refine⟨?_,h.led⟩;unfold GJ;simp only[List.map_filterMap];have:(List.range (sizeAbove n-1+1)).Pairwise (· < ·):=aL3;rw[List.pairwise_filterMap];refine this.imp_of_mem λ{a b} _ _ f x g y i=>?_;simp at g i;obtain⟨c,j,rfl⟩:=g;obtain⟨d,hd,rfl⟩:=i;exact f
  ·exact h.G4 _
theorem m9{α d:Type}(f:α->d):∀{l:List d} {m:List d},l.Perm m->∀t:List α,m=t.map f->∃t' :List α,t'.Perm t/\t'.map f=l:=by
 intro l m p
 induction p with
 | nil=>
  intro t e
  cases t with
  | nil=>exact⟨[],.refl _,rfl⟩
  | cons a t=>cases e
 | cons x p ih=>
  intro t e
  cases t with
  | nil=>cases e
  | cons a t=>
   simp at e;obtain⟨t',c,q1⟩:=ih t e.2;exact⟨a::t',c.cons a,by simp[e.1,q1]⟩
 | swap x y l=>
  intro t e
  cases t with
  | nil=>cases e
  | cons a t=>
   cases t with
   | nil=>simp at e
   | cons b t=>
    simp at e;exact⟨b::a::t,.swap a b t,by simp[e]⟩
 | trans c g ih1 ih2=>
  intro t e;obtain⟨h,c,q1⟩:=ih2 t e;obtain⟨i,g,q2⟩:=ih1 h q1.symm;exact⟨i,g.trans c,q2⟩
section
variable {prog:Program}{w:World}{K:Type}[DecidableEq K](knd:KeyKind prog w K)
def Es(es:Array (Int×Value))(ks:List K):Prop:=
 ∃ps:List (K×(Int×Value)),ps.map (·.2)=es.toList/\(ps.map (·.1)).Perm ks/\∀p∈ps,knd.is p.1 p.2.2=true/\p.2.1=knd.hash p.1/\p.2.2.scannable=true
def mO(l:Bool)(h:Heap)(a:Addr)(ks:List K):Prop:=
 ∃o es ep t,h.get? a=some o/\o.ExactSet/\o.data= .set es ep t/\Es knd es ks/\ks.Nodup/\es.size<scanBound/\t.fits es.size=true/\sL l t
variable {knd}
variable{es es':Array (Int×Value)}{ks:List K}
theorem Es.perm(h:Es knd es ks)(p:es'.toList.Perm es.toList):Es knd es' ks:=by
 obtain⟨ps,c,d,e⟩:=h;obtain⟨a,b,f⟩:=m9 (·.2) p ps c.symm;exact⟨a,f,(b.map _).trans d,λp g=>e p (b.mem_iff.mp g)⟩
theorem Es.size(h:Es knd es ks):es.size=ks.length:=by
 obtain⟨ps,c,d,e⟩:=h;have a:=aJ7 List.length c;have b:=d.length_eq;simp at a b
 lia
theorem Es.elems(h:Es knd es ks):ElemsOf knd es.toList:=by
 obtain⟨ps,d,i,f⟩:=h;intro e he;rw[<-d]at he;obtain⟨p,g,rfl⟩:=aI1.mp he;obtain⟨a,b,c⟩:=f p g;exact⟨⟨p.1,a,b⟩,c⟩
theorem Es.mem(h:Es knd es ks)(k:K):k∈ks↔∃e∈es.toList,knd.is k e.2=true:=by
 obtain⟨ps,c,d,b⟩:=h;rw[<-d.mem_iff,<-c];constructor
 ·intro hk;obtain⟨p,a,rfl⟩:=aI1.mp hk;exact⟨p.2,aI1.mpr ⟨p,a,rfl⟩,(b p a).1⟩
 ·rintro⟨e,he,hk⟩;obtain⟨p,a,rfl⟩:=aI1.mp he;exact aI1.mpr ⟨p,a,knd.inj _ _ _ (b p a).1 hk⟩
theorem Es.push(h:Es knd es ks){k:K}{x:Value}(hk:knd.is k x=true)(a:x.scannable=true):Es knd (es.push (knd.hash k,x)) (ks++[k]):=by
 obtain⟨ps,b,c,d⟩:=h;refine⟨ps++[(k,(knd.hash k,x))],by simp[b],by simpa using c.append_right [k],λp hp=>?_⟩;rcases aI9.mp hp with hp | hp
 ·exact d p hp
 ·simp at hp;subst hp;exact⟨hk,rfl,a⟩
variable{a:Addr}
theorem mO.typeIs{s:Shared}(h:mO knd l s.heap a ks):s.TypeIs (.ref a) "set":=let ⟨o,_,_,_,ho,hx,_⟩:=h;⟨o,ho,hx.1⟩
theorem mO.keep{h h' :Heap}(x:mO knd l h a ks)(k:∀o,h.get? a=some o->h'.get? a=some o):mO knd l h' a ks:=let ⟨o,es,ep,t,ho,r⟩:=x;⟨o,es,ep,t,k o ho,r⟩
theorem store{h:Heap}{o:Obj}{ep:Nat}(ho:h.get? a=some o)(hex:o.ExactSet)(hd:o.data= .set es ep t)
   {t' :SetTable}  (he:Es knd es' ks) (nd:ks.Nodup) (b:es'.size<scanBound) (c:t'.fits es'.size=true) (ht:sL l t'):
  (h.update a (Obj.putSet es' t')).get? a=some {o with data:= .set es' (ep+1) t'}/\mO knd l (h.update a (Obj.putSet es' t')) a ks:=by
 have hg:(h.update a (Obj.putSet es' t')).get? a=some {o with data:= .set es' (ep+1) t'}:=by
  have:=aJ3 (Obj.putSet es' t') ho (by rw[putSet_of es' t' hd];rfl);rw[putSet_of es' t' hd]at this;exact this
 exact⟨hg,_,es',ep+1,t',hg,hex,rfl,he,nd,b,c,ht⟩
variable {A:Around}{E:aLx}{s:Shared}
theorem IE{g:Bool->Sem Unit}(hg:∀(b:Bool) (f:Shared) (B :Unit->Shared->Prop),B () f->wpAny (model prog w) A (g b) B E f)
   {o:Obj}  {ep:Nat}  (ho:s.heap.get? a=some o) (hex:o.ExactSet) (hd:o.data= .set es ep t)
  {c:Array (Int×Value)} {e:SetTable}  (he:Es knd c ks) (nd:ks.Nodup)
  (j:c.size<scanBound) (u:e.fits c.size=true) (ht:sL l e) {d:Bool} {R:Option Bool->Shared->Prop}
  (h:∀h',Heap.SameBut a s.heap h' ->mO knd l h' a ks->R (some true) {s with heap:=h'}):
  wpAny (model prog w) A (do
    storeSet a c e
    if (!d && e.tooFull)=true then do
      g (relayAll e c (SetTable.grown c.size)).2.2
      storeSet a (relayAll e c (SetTable.grown c.size)).1 (relayAll e c (SetTable.grown c.size)).2.1
      pure (some true)
     else pure (some true)) R E s:=by
 refine aHs (wpAny_storeSet_of ho hd ?_ (fits_of_scanBound j));obtain⟨n,v⟩:=store (knd:=knd) ho hex hd he nd j u ht;have i:=aIo s.heap a (Obj.putSet c e);split
 ·have r:=relayAll_perm e c (SetTable.grown c.size);have k:=relayAll_fits e c (SetTable.grown c.size);have m:=ht.aC6 c (SetTable.grown c.size);generalize C:relayAll e c (SetTable.grown c.size)=Rl at r k m⊢;obtain⟨p,D,x⟩:=Rl;dsimp only at r k m⊢;have y:=he.perm r;have hsz:p.size=c.size:=by rw[<-Array.length_toList,r.length_eq,Array.length_toList]
  have q:p.size<scanBound:=by rw[hsz];exact j
  refine aHs (hg _ _ _ ?_);refine aHs (wpAny_storeSet_of n rfl ?_ (fits_of_scanBound q));obtain⟨_,z⟩:=store (knd:=knd) n hex rfl y nd q k m;exact aHt (h _ (i.trans (aIo _ a _)) z)
 ·exact aHt (h _ i v)
def nQ(ks:List K)(k:K):List K:=if k∈ks then ks else ks++[k]
theorem zD{k:K}{x:Value}{Q:Bool->Shared->Prop}(m:knd.is k x=true)(hsc:x.scannable=true)(P:mO knd l s.heap a ks)
  (r:ks.length+1<scanBound) (h:∀(b:Bool) h',Heap.SameBut a s.heap h' ->mO knd l h' a (nQ ks k)->Q b {s with heap:=h'}):
  wpAny (model prog w) A (setAddHashed a x (knd.hash k)) Q E s:=by
 obtain⟨o,es,ep,t,ho,hex,hd,he,nd,B,I,ht⟩:=P;have R:=he.size;have C:=he.elems;have n:=he.mem;have J:es.size+1<scanBound:=by rw[R];exact r
 unfold setAddHashed setAddHashedIn;refine aIj (aHs (aK0 ho hd I ?_));dsimp only;rw[byScan_of hsc B C];simp only[↓reduceIte];unfold setAddByScan;refine aHs ?_;refine aHs (aJ0 ?_);refine aHs (wpAny_setScan_of m ho hd I C ?_)
 cases hr:List.findIdx? (λe=>knd.is k e.2) es.toList with
 | some j=>
  dsimp only;obtain⟨S,M,_⟩:=List.findIdx?_eq_some_iff_getElem.mp hr;have i:k∈ks:=(n k).mpr ⟨es.toList[j],aLs S,M⟩;refine aHt (aHt ?_);have e:s={s with heap:=s.heap}:=by cases s;rfl
  have:=h false s.heap (Heap.SameBut.refl a s.heap) ⟨o,es,ep,t,ho,hex,hd,by unfold nQ;rw[if_pos i];exact he,by unfold nQ;rw[if_pos i];exact nd,B,I,ht⟩;rw[e];exact this
 | none=>
  dsimp only
  have i:k∉ks:=λhk=>by
   obtain⟨e,he,T⟩:=(n k).mp hk;have:=List.findIdx?_eq_none_iff.mp hr e he;rw[T]at this;exact Bool.noConfusion this
  have N:∀(b:Bool) {f:Shared} {D :Unit->Shared->Prop},D () f->wpAny (model prog w) A (match b with | true=>rule "set.scan.the-table-gave-way" | false=>pure ()) D E f:=
   λb f D p=>by cases b <;> first | exact aHt p | exact aJ0 p
  have d:=layNew_perm t es (knd.hash k) x;have c:=layNew_fits t es (knd.hash k) x;have g:=ht.lay es (knd.hash k) x;generalize V:layNew t es (knd.hash k) x=L at d c g⊢;obtain⟨F,W,y,O⟩:=L;dsimp only at d c g⊢;have G:Es knd F (nQ ks k):=by unfold nQ;rw[if_neg i];exact(he.push m hsc).perm d
  have H:(nQ ks k).Nodup:=by
   unfold nQ;rw[if_neg i,List.nodup_append];exact⟨nd,by simp,λa U b B=>by simp at B;subst B;exact λz=>i (z▸U)⟩
  have q :F.size<scanBound:=by rw[<-Array.length_toList,d.length_eq,Array.length_toList,Array.size_push];exact J
  refine aHs (N _ ?_);split
  ·refine aHs ?_;rw[hashByValue_scannable 8 hsc];refine aHt ?_;refine IE (l:=l) ?_ ho hex hd G H q ?_ ?_ ?_
   ·intro b f D p;cases b <;> first | exact aHt p | exact aJ0 p
   ·split
    ·exact c
    ·exact SetTable.fits_plain_off c
   ·split
    ·exact g
    ·exact g.plain false
   ·intro h' u v;dsimp only;exact aHt (h _ h' u v)
  ·refine aHs (aHt ?_);simp only[↓reduceIte];refine IE (l:=l) ?_ ho hex hd G H q c g ?_
   ·intro b f D p;cases b <;> first | exact aHt p | exact aJ0 p
   ·intro h' u v;dsimp only;exact aHt (h _ h' u v)
end
open PySem.Spec
def fM(w:World):Bool:= !(w.params.followText "set-order")
section
variable {prog:Program}{w:World}{K:Type}[DecidableEq K]{knd:KeyKind prog w K}{A:Around}{E:aLx}{s:Shared}
theorem vW{h:Heap}{a:Addr}(ho:h.get? a=some {cls:= .type "set",dict:=none,data:= .set #[] 0 (.fresh 0 0 (fM w))}):mO knd (fM w) h a []:=
 ⟨_,#[],0,_,ho,⟨rfl,rfl,rfl⟩,rfl,⟨[],rfl,by simp,λp b=>by cases b⟩,by simp,by decide,by rfl,.fresh 0 0 _⟩
def bN(ks:List K)(xs:List K):List K:=xs.foldl nQ ks
theorem QG(ks:List K)(k:K):(nQ ks k).length<=ks.length+1:=by unfold nQ;split <;> simp
theorem lV:∀(xs ks:List K),(bN ks xs).length<=ks.length+xs.length
 | [],ks=>by simp[bN]
 | x::xs,ks=>by
  have a:=lV xs (nQ ks x);have b:=QG ks x;simp only[bN,List.foldl_cons,List.length_cons]at*
  lia
theorem NJ{ks:List K}{k j:K}:j∈nQ ks k↔j∈ks\/j=k:=by
 unfold nQ;split
 ·rename_i h;exact⟨.inl,λz=>z.elim id λe=>e▸h⟩
 ·simp
theorem lQ{j:K}:∀{xs ks:List K},j∈bN ks xs↔j∈ks\/j∈xs
 | [],ks=>by simp[bN]
 | x::xs,ks=>by
  have:=lQ (j:=j) (xs:=xs) (ks:=nQ ks x);simp only[bN,List.foldl_cons]at*;rw[this,NJ];simp[or_assoc]
theorem NG(a:Value){Q₁:aLx}
  (h:Q₁ (.ref s.heap.objs.size) {s with heap:=s.heap.push {cls:= .type "set",dict:=none,data:= .set #[] 0 (.fresh 0 0 (fM w))}}):
  codeAny (model prog w) A (.call (.builtin "set.__new__") ⟨[.type "set",a],[]⟩) (wants Q₁ E) s:=by
 refine codeAny_of_tree ?_;show wpAny _ A.in1 (do checkBuiltinCall "set.__new__" ⟨[.type "set",a],[]⟩;again (.builtin "set.__new__" ⟨[.type "set",a],[]⟩)) _ _ s;refine aHs (aKx (F.newCall_set_1 a) (aHt ⟨aJm F.plain_set_new _,aJe F.entry_set_new ?_⟩));rw[Around.under_plainId F.plain_set_new _];unfold Builtin.«set.__new__» Builtin.Frozenset.newClass;have b:=sub_set_self;obtain⟨c,g,d,tk,os⟩:=s;dsimp only
 wp_walk
 refine aLa (aHt ?_);dsimp only;simp only[newObj];refine aHs (wpAny_alloc (aHt ?_));exact aHt h
end
section
variable {prog:Program}{w:World}{K:Type}[DecidableEq K]{knd:KeyKind prog w K}{A:Around}{R:Result->Shared->Prop}{I:Addr}{fp wr:List Addr}{G:Array GenState->Array GenState->Prop}{n:Nat}{P:Nat->Value->Prop}{St:Nat->Shared->Prop}
theorem sP(W:WalksS prog w A.in1 I fp wr G n P St)(S:Addr)(l:S∉fp)(V:Nat->Heap->Prop)(a:∀i h h',V i h->(∀b o,b∉wr->h.get? b=some o->h'.get? b=some o)->V i h')
  (m:∀i v (s:Shared) (J :aLx) (H :Bool->Shared->Prop),i<n->P i v->V i s.heap->(∀r tk h',s.toks<=tk->Heap.SameBut S s.heap h' ->V (i+1) h' ->H r {s with heap:=h',toks:=tk})->wpAny (model prog w) A.in1 (setAdd S v) H J s):
  ∀(k i:Nat) (s:Shared),n-i=k->i<=n->St i s->V i s.heap->
   (∀c,Moved (S::wr) G s c ->V n c.heap->R (.ok (.ret .none)) c)->
   codeAny (model prog w) A (.builtin "set.update.loop" ⟨[.ref S,.ref I],[]⟩) R s:=by
 have K:S∉wr:=λh=>l (W.sub _ h);have f:∀b∈wr,b∈S::wr:=λb d=>aI0 _ d;intro k
 induction k with
 | zero=>
  intro i s hk hi g z B;have C:i=n:=by lia
  subst C;refine aJe aKn ?_;rw[Around.under_plainId PyProof.Rows.F.plain_set_update_loop _];show wpAny _ A.in1 (pyNext (.ref I) >>=_) _ _ s;refine aHs (W.done s _ _ g λc p=>?_);show wpAny _ A.in1 (ret Value.none) _ _ c;exact aHt (B c (p.mono f) (a _ _ _ z λb o d e=>p.heap b o d e))
 | succ k ih=>
  intro i s hk hi g z B;have j:i<n:=by lia
  refine aJe aKn ?_;rw[Around.under_plainId PyProof.Rows.F.plain_set_update_loop _];show wpAny _ A.in1 (pyNext (.ref I) >>=_) _ _ s;refine aHs (W.item i s _ _ j g λv c L q p=>?_);show wpAny _ A.in1 (holding [v] (setAdd S v) >>=_) _ _ c;refine aHs (aIj ?_);refine m i v c _ _ j L (a _ _ _ z λb o d e=>p.heap b o d e) λr tk h' t u D=>?_;refine aHt ⟨aJm PyProof.Rows.F.plain_set_update_loop _,ih (i+1) _ (by lia) j (W.frame _ c _ _ q t λb d o e=>?_) D λE x y =>?_⟩
  ·rw[u.2 b (λh:b=S=>l (by rw[<-h];exact d))];exact e
  ·refine B E (Moved.trans W.gtrans ((p.mono f).then_heap t λb o d e=>?_) x) y;rw[u.2 b (λh:b=S=>d (by rw[h];exact List.mem_cons_self))];exact e
end
section
variable {prog:Program}{w:World}{K:Type}[DecidableEq K]{knd:KeyKind prog w K}{A:Around}{E:aLx}{s:Shared}
variable{items:Array Value}
theorem XC{l:Addr}{Q:aLx}
  (hh:A.handled=none) (hl:s.heap.IsList l items\/s.heap.IsTuple l items) (V:Nat->Heap->Prop) (m:∀i h h',V i h->(∀b o,b≠s.heap.objs.size+1->h.get? b=some o->h'.get? b=some o)->V i h')
  (y:∀i v (f :Shared) (M :aLx) (K :Bool->Shared->Prop),items[i]? =some v->V i f.heap->(∀r tk h',f.toks<=tk->Heap.SameBut s.heap.objs.size f.heap h' ->V (i+1) h' ->K r {f with heap:=h',toks:=tk})->wpAny (model prog w) A.in1.in1.in1 (setAdd s.heap.objs.size v) K M f)
  (h0:∀h',h'.get? s.heap.objs.size=some {cls:= .type "set",dict:=none,data:= .set #[] 0 (.fresh 0 0 (fM w))}->(∀b o,s.heap.get? b=some o->h'.get? b=some o)->V 0 h')
  (h:∀(h' :Heap) (tk:Nat),V items.size h' ->
   (∀b o,b<s.heap.objs.size->s.heap.get? b=some o->h'.get? b=some o)->Q (.ref s.heap.objs.size) {s with heap:=h',toks:=tk}):
  wpAny (model prog w) A (call (.type "set") [.ref l]) Q E s:=by
 obtain⟨c,tl,hmro⟩:=aK6.mro;have Y:=aK6.made;have hsub:=aK6.sub;refine wpAny_call (codeAny_of_tree ?_);show wpAny _ _ (callAny (.type "set") _) _ _ _;refine aHt ⟨Code.quiet_builtin _ (by decide+kernel),aJe F.entry_type_call ?_⟩;rw[Around.under_plain (weight_type_call_type "set" [.ref l] []) rfl];have h1:=aK6.notType;have h2:=aK6.canCreate;have hct:=F.typeCall_set_1 (.ref l)
 repeat (any_goals (first | assumption | wp_step))
 refine aJy (NG (.ref l) (E:=E) (Q₁:=λobj z=>obj= .ref s.heap.objs.size/\z={s with heap:=s.heap.push {cls:= .type "set",dict:=none,data:= .set #[] 0 (.fresh 0 0 (fM w))}}) ⟨rfl,rfl⟩) λr z Z=>?_
 cases r with
 | error e=>exact Z
 | ok fl=>
  cases fl with
  | ret obj=>
   obtain⟨rfl,rfl⟩:=Z;generalize hled:fM w=led at*;have hS:(s.heap.push {cls:= .type "set",dict:=none,data:= .set #[] 0 (.fresh 0 0 led)}).get? s.heap.objs.size=some {cls:= .type "set",dict:=none,data:= .set #[] 0 (.fresh 0 0 led)}:=aHy _ rfl
   have hT:Shared.TypeIs {s with heap:=s.heap.push {cls:= .type "set",dict:=none,data:= .set #[] 0 (.fresh 0 0 led)}} (.ref s.heap.objs.size) "set":=⟨_,hS,rfl⟩
   have hli:=aK6.init.lookup;have hbi:=aK6.init.bind (.ref s.heap.objs.size)
   repeat (any_goals (first | assumption | wp_step))
   refine aJy (codeAny_call_builtin (R:=wants (λr B=>r= .none/\∃h' tk,B={s with heap:=h',toks:=tk}/\
     V items.size h' /\
     (∀b o,b<s.heap.objs.size->s.heap.get? b=some o->h'.get? b=some o)) E) aK6.init.plain F.entry_set_init (check_set_init_1 hT ?_)) λN B g=>?_
   ·have O:l<s.heap.objs.size:=by rcases hl with ⟨o,e,_⟩ | ⟨o,e,_⟩ <;> exact aHz e
    have P:A.in1.in1.in1.handled=none:=by simp[hh]
    have C:l≠(s.heap.push {cls:= .type "set",dict:=none,data:= .set #[] 0 (.fresh 0 0 led)}).objs.size:=by
     rw[Heap.size_push];exact aI4 (aIr O)
    have S:s.heap.objs.size∉[(s.heap.push {cls:= .type "set",dict:=none,data:= .set #[] 0 (.fresh 0 0 led)}).objs.size,l]:=by
     rw[Heap.size_push];simp only[List.mem_cons,List.mem_singleton,List.not_mem_nil,or_false,not_or];exact⟨aI4 (aIs _),aJ4 O⟩
    have hw:∀b,b∉[(s.heap.push {cls:= .type "set",dict:=none,data:= .set #[] 0 (.fresh 0 0 led)}).objs.size]↔b≠s.heap.objs.size+1:=λb=>by rw[Heap.size_push];simp
    have hR:∀(io:Obj) (f :Shared),Moved [s.heap.objs.size,(s.heap.push {cls:= .type "set",dict:=none,data:= .set #[] 0 (.fresh 0 0 led)}).objs.size] (λa b=>b=a) {s with heap:=(s.heap.push {cls:= .type "set",dict:=none,data:= .set #[] 0 (.fresh 0 0 led)}).push io} f ->V items.size f.heap->
      ∃h' tk,f ={s with heap:=h',toks:=tk}/\V items.size h' /\∀b o,b<s.heap.objs.size->s.heap.get? b=some o->h'.get? b=some o:=λio f D hv=>by
     obtain⟨h',g',d',n,os'⟩:=f;have eg:g' =s.gens:=D.gens;have ed:d' =s.drawn:=D.drawn;have eo:os' =s.os:=D.os;subst eg;subst ed;subst eo;refine⟨h',n,rfl,hv,λb o L e=>?_⟩;have hb1:b≠s.heap.objs.size:=aI4 L
     have hb2:b≠(s.heap.push {cls:= .type "set",dict:=none,data:= .set #[] 0 (.fresh 0 0 led)}).objs.size:=by
      rw[Heap.size_push];exact aI4 (aIr L)
     exact D.heap b o (by simp only[List.mem_cons,List.mem_singleton,List.not_mem_nil,or_false,not_or];exact⟨hb1,hb2⟩) (aHu _ (aHu _ e))
    rcases hl with hl | hl
    ·obtain⟨ol,G,p,T,q⟩:=hl;obtain⟨U,j,H,d⟩:=ol;simp only at p q;subst p;subst q;have t :(s.heap.push {cls:= .type "set",dict:=none,data:= .set #[] 0 (.fresh 0 0 led)}).get? l=some {cls:= .type "list",dict:=j,data:= .seq items T,slots:=d}:=aHu _ G;have W:=F.sub_list_set;have X:=F.sub_list_frozenset;have hne:(Value.type "list"==Value.type "dict")=false:=by decide
     have u:(s.heap.push {cls:= .type "set",dict:=none,data:= .set #[] 0 (.fresh 0 0 led)}).IsList l items:=⟨_,t,rfl,T,rfl⟩
     unfold Builtin.«set.__init__» noKeywords Builtin.Frozenset.updateFrom;generalize I:pyIter=PI
     wp_walk
     subst I;refine aL4 u ?_;refine aHs (aLn ?_)
     exact sP ((Walks.list P _ l C items).toS) s.heap.objs.size S V (λi h h' v k=>m i h h' v λb o L e=>k b o ((hw b).mpr L) e) (λi v f M K _ hP hv hq=>y i v f M K hP hv hq) (items.size-0) 0 _ (by lia) (aIx _)
      ⟨⟨_,aHy _ rfl,rfl,rfl⟩,(u.push _)⟩ (h0 _ (aHu _ hS) λb o e=>aHu _ (aHu _ e)) λf D hv=>by
       obtain⟨h',n,rfl,J,x⟩:=hR _ _ D hv;exact aHt (aHt ⟨rfl,h',n,rfl,J,x⟩)
    ·obtain⟨ol,G,p,T,q⟩:=hl;obtain⟨U,j,H,d⟩:=ol;simp only at p q;subst p;subst q;have t :(s.heap.push {cls:= .type "set",dict:=none,data:= .set #[] 0 (.fresh 0 0 led)}).get? l=some {cls:= .type "tuple",dict:=j,data:= .seq items T,slots:=d}:=aHu _ G;have W:isSubtype (.type "tuple") (.type "set")=pure false:=by rw[isSubtype_type];kernel_rfl
     have X:isSubtype (.type "tuple") (.type "frozenset")=pure false:=by rw[isSubtype_type];kernel_rfl
     have hne:(Value.type "tuple"==Value.type "dict")=false:=by decide
     have u:(s.heap.push {cls:= .type "set",dict:=none,data:= .set #[] 0 (.fresh 0 0 led)}).IsTuple l items:=⟨_,t,rfl,T,rfl⟩
     unfold Builtin.«set.__init__» noKeywords Builtin.Frozenset.updateFrom;generalize I:pyIter=PI
     wp_walk
     subst I;refine aKu u ?_;refine aHs (aLn ?_)
     exact sP ((Walks.tuple P _ l C items).toS) s.heap.objs.size S V (λi h h' v k=>m i h h' v λb o L e=>k b o ((hw b).mpr L) e) (λi v f M K _ hP hv hq=>y i v f M K hP hv hq) (items.size-0) 0 _ (by lia) (aIx _)
      ⟨⟨_,aHy _ rfl,rfl,rfl⟩,(u.push _)⟩ (h0 _ (aHu _ hS) λb o e=>aHu _ (aHu _ e)) λf D hv=>by
       obtain⟨h',n,rfl,J,x⟩:=hR _ _ D hv;exact aHt (aHt ⟨rfl,h',n,rfl,J,x⟩)
   ·cases N with
    | error e=>exact g
    | ok fl₂=>
     cases fl₂ with
     | ret r=>
      obtain⟨rfl,h',tk,rfl,hS',x⟩:=g
      repeat (any_goals (first | assumption | wp_step))
      exact h _ _ hS' x
     | _=>exact g.elim
  | _=>exact Z.elim
theorem IS{l:Addr}{xs:List K}{Q:aLx}
  (m:A.handled=none) (n:s.heap.IsList l items) (t:xs.length=items.size) (hi:∀(i:Nat) (v:Value),items[i]? =some v->∃k,xs[i]? =some k/\knd.is k v=true/\v.scannable=true) (p:∀i,(bN [] (xs.take i)).length+1<scanBound)
  (h:∀(h' :Heap) (tk:Nat),mO knd (fM w) h' s.heap.objs.size (bN [] xs)->
   (∀b o,b<s.heap.objs.size->s.heap.get? b=some o->h'.get? b=some o)->Q (.ref s.heap.objs.size) {s with heap:=h',toks:=tk}):
  wpAny (model prog w) A (call (.type "set") [.ref l]) Q E s:=by
 refine XC m (.inl n) (λi h=>mO knd (fM w) h s.heap.objs.size (bN [] (xs.take i))) (λi h h' v k=>v.keep λo e=>k _ o (aI4 (aIs _)) e) (λi v d u x r c q=>?_) (λh' e _=>vW e) λh' tk c k=>h h' tk (by rw[List.take_of_length_le (by lia)]at c;exact c) k;obtain⟨key,f,a,hsc⟩:=hi i v r;unfold setAdd;refine aIj (aHs (knd.pyHash (k:=key) a ?_));refine zD (s:={d with toks:=d.toks+1}) a hsc c (p i) λb h' g j=>q b (d.toks+1) h' (aLe _) g ?_;rw[List.take_add_one,f];simpa[bN] using j
theorem set_list{l:Addr}{xs:List K}{Q:aLx}
  (a:A.handled=none) (c:s.heap.IsList l items) (d:xs.length=items.size) (hi:∀(i:Nat) (v:Value),items[i]? =some v->∃k,xs[i]? =some k/\knd.is k v=true/\v.scannable=true) (e:items.size+1<scanBound)
  (h:∀(h' :Heap) (tk:Nat),mO knd (fM w) h' s.heap.objs.size (bN [] xs)->
   (∀b o,b<s.heap.objs.size->s.heap.get? b=some o->h'.get? b=some o)->Q (.ref s.heap.objs.size) {s with heap:=h',toks:=tk}):
  wpAny (model prog w) A (call (.type "set") [.ref l]) Q E s:=
 IS a c d hi (λi=>by have:=lV (xs.take i) [];simp at this;lia) h
end
theorem slot_next:Slot "set_iterator" "__next__" "set_iterator.__next__":=
 .of (owner:= "set_iterator") (n:= "__next__") (by rw[typeLookup_type,builtinLookup_eq_fast];kernel_rfl) (by decide+kernel) (by decide+kernel) (by decide+kernel)
  (by first | exact .inl (by decide+kernel) | exact .inr (by decide+kernel)) (by rw[isSubtype_type];kernel_rfl)
theorem yE:Slot "set_iterator" "__iter__" "set_iterator.__iter__":=
 .of (owner:= "set_iterator") (n:= "__iter__") (by rw[typeLookup_type,builtinLookup_eq_fast];kernel_rfl) (by decide+kernel) (by decide+kernel) (by decide+kernel)
  (by first | exact .inl (by decide+kernel) | exact .inr (by decide+kernel)) (by rw[isSubtype_type];kernel_rfl)
theorem entry_next:entryFor table "set_iterator.__next__"=some Builtin.«set_iterator.__next__»:=entryFor_of_tree (by kernel_rfl)
theorem CQ:Manifest.owners.lookup (String.ofList "rotareti_tes".toList.reverse)=some Manifest.sig_set_iterator:=by kernel_rfl
theorem args_next(a:Value):argsOk "set_iterator.__next__" ⟨[a],[]⟩:=by
 unfold argsOk;rw[signature?_of (id:= "set_iterator.__next__") (n:= "__txen__".toList) (o:= "rotareti_tes".toList) (by kernel_rfl) CQ];kernel_rfl
theorem wA:entryFor table "set.__iter__"=some Builtin.«frozenset.__iter__»:=
 entryFor_alias (id' := "frozenset.__iter__") (by kernel_rfl) rfl (by decide+kernel) (by kernel_rfl)
def nK(first:Value)(i:Nat)(a:Addr)(n ep:Nat):Obj:={cls:= .type "set_iterator",dict:=none,data:= .fields #[first,.int i 0,.ref a,.int n 0,.int ep 0],slots:= #[]}
section
variable {prog:Program}{w:World}{A:Around}{E:aLx}{s:Shared}{it a:Addr}{first:Value}{i ep n:Nat}{o:Obj}{es:Array (Int×Value)}{t:SetTable}
variable{Q:Option Value->Shared->Prop}
theorem NF{slot nx:Nat}{x:Value}(b:s.heap.get? it=some (nK (.int slot 0) i a es.size ep))(ho:s.heap.get? a=some o)(hd:o.data= .set es ep t)(c:t.fits es.size=true)
  (hN:∀(A:Around) (E:aLx) (Q:Option (Value×Nat)->Shared->Prop),Q (some (x,nx)) s->wpAny (model prog w) A (setNext a slot i ep) Q E s)
  (q:∀h',h'.get? it=some (nK (.int nx 0) (i+1) a es.size ep)->Heap.SameBut it s.heap h' ->Q (some x) {s with heap:=h'}):wpAny (model prog w) A (pyNext (.ref it)) Q E s:=by
 have ht:s.TypeIs (.ref it) "set_iterator":=⟨_,b,rfl⟩
 unfold pyNext;refine aHs (aJ5 (aI8 (name:=Str.ofString "__next__") ht slot_next (aI7 slot_next ht entry_next ?_ (args_next _))));unfold Builtin.«set_iterator.__next__»;refine aHs (m:=slotArgs "__next__" 0 _) (aHt ?_);refine aHs (aKg b rfl ?_);dsimp only;refine aHs (aK2 ho hd c ?_);rw[if_neg (show ¬(((es.size:Int) !=(es.size:Int))=true) by simp)];simp only[Int.toNat_natCast];refine aHs (hN _ _ _ ?_);dsimp only;refine aHs (aI6 b (by simp) λj d e=>?_);refine aHs (aI6 d (by simp) λf g h=>?_);refine aHt ⟨x,rfl,aHt (q f ?_ (e.trans h))⟩;rw[g];simp[nK,rawInt]
theorem yC{B:Around}(f:B.handled=none)(h:∀h',(∀b u,s.heap.get? b=some u->h'.get? b=some u)->Q none {s with heap:=h'}):
  wpAny (model prog w) B (do let e<-newExc (.type "StopIteration") [];raiseNew e) (λ(c:Fin) d =>∃v,c=Fin.done (Flow.ret v)/\wpAny (model prog w) A (pure (some v)) Q E d)
   (λe d =>wpAny (model prog w) A (do let b<-isInstance e (Value.type "StopIteration");if b=true then pure none else throw e) Q E d) s:=by
 refine aHs ?_;simp only[newExc,newTuple];refine aHs (aIe ?_ (by size_fits));refine aHs (m:=firstArgMember _ _) (aKx (a:=Value.none) (by first | rfl | (simp only[firstArgMember];rfl)) ?_);refine aIe ?_ (by size_fits);simp only[raiseNew];refine aHs (wpAny_handled ?_);rw[f];refine aHs (aHt (wpAny_throw ?_));refine aHs (aJs (T:= "StopIteration") (b:=true) ⟨_,aHy _ rfl,rfl⟩ aL5 ?_);exact aHt (h _ λb u e=>aHu _ (aHu _ e))
theorem AF{slot:Nat}(d:A.handled=none)(c:s.heap.get? it=some (nK (.int slot 0) i a es.size ep))(ho:s.heap.get? a=some o)(hd:o.data= .set es ep t)(f:t.fits es.size=true)
  (hN:∀(A:Around) (E:aLx) (Q:Option (Value×Nat)->Shared->Prop),Q none s->wpAny (model prog w) A (setNext a slot i ep) Q E s)
  (q:∀h',Heap.ExtBut it s.heap h' ->Q none {s with heap:=h'}):wpAny (model prog w) A (pyNext (.ref it)) Q E s:=by
 have ht:s.TypeIs (.ref it) "set_iterator":=⟨_,c,rfl⟩
 unfold pyNext;refine aHs (aJ5 (aI8 (name:=Str.ofString "__next__") ht slot_next (aI7 slot_next ht entry_next ?_ (args_next _))));unfold Builtin.«set_iterator.__next__»;refine aHs (m:=slotArgs "__next__" 0 _) (aHt ?_);refine aHs (aKg c rfl ?_);dsimp only;refine aHs (aK2 ho hd f ?_);rw[if_neg (show ¬(((es.size:Int) !=(es.size:Int))=true) by simp)];simp only[Int.toNat_natCast];refine aHs (hN _ _ _ ?_);dsimp only;refine aHs (aI6 c (by simp) λg l h=>?_);exact yC (B:=A.in1) (s:={s with heap:=g}) (show A.in1.handled=none from d) λh' k=>q h' λb u j e=>k b u ((h.2 b j).trans e)
theorem ND{tp:Addr}{d:Nat}{ns:List Nat}{x:Value}(b:s.heap.get? it=some (nK (.ref tp) i a es.size ep))(ho:s.heap.get? a=some o)(hd:o.data= .set es ep t)(l:t.fits es.size=true)
  (e:s.heap.IsTuple tp (ns.map λ(k:Nat)=>rawInt k).toArray) (f:ns[i]? =some d) (n:(es[d]?).map (·.2)=some x)
  (q:∀h',h'.get? it=some (nK (.ref tp) (i+1) a es.size ep)->Heap.SameBut it s.heap h' ->Q (some x) {s with heap:=h'}):wpAny (model prog w) A (pyNext (.ref it)) Q E s:=by
 have ht:s.TypeIs (.ref it) "set_iterator":=⟨_,b,rfl⟩
 obtain⟨B,g,_,C,h⟩:=e;obtain⟨⟨p,r⟩,j,c⟩:=aI3.mp n;simp only at c;subst c;unfold pyNext;refine aHs (aJ5 (aI8 (name:=Str.ofString "__next__") ht slot_next (aI7 slot_next ht entry_next ?_ (args_next _))));unfold Builtin.«set_iterator.__next__»;refine aHs (m:=slotArgs "__next__" 0 _) (aHt ?_);refine aHs (aKg b rfl ?_);dsimp only;refine aHs (aK2 ho hd l ?_);rw[if_neg (show ¬(((es.size:Int) !=(es.size:Int))=true) by simp)];refine aHs (aIq g h ?_);dsimp only;have u:(ns.map λ(k:Nat)=>rawInt k).toArray[(i:Int).toNat]? =some (Value.int d 0):=by simp[f,rawInt]
 rw[u];dsimp only;simp only[Int.toNat_natCast];refine aHs (m:=setNextDrawn a d ep) ?_;unfold setNextDrawn;refine aHs (aK0 ho hd l ?_);dsimp only;rw[if_neg (by simp)];rw[j];dsimp only;refine aHt ?_;refine aHs (aI6 b (by simp) λv y z=>?_);refine aHt ⟨r,rfl,aHt (q v ?_ z)⟩;rw[y];simp[nK,rawInt]
theorem AE{tp:Addr}{ns:List Nat}(j:A.handled=none)(c:s.heap.get? it=some (nK (.ref tp) i a es.size ep))(ho:s.heap.get? a=some o)(hd:o.data= .set es ep t)(l:t.fits es.size=true)
  (d:s.heap.IsTuple tp (ns.map λ(k:Nat)=>rawInt k).toArray) (f:ns[i]? =none)
  (q:∀h',Heap.ExtBut it s.heap h' ->Q none {s with heap:=h'}):wpAny (model prog w) A (pyNext (.ref it)) Q E s:=by
 have ht:s.TypeIs (.ref it) "set_iterator":=⟨_,c,rfl⟩
 obtain⟨z,g,_,C,h⟩:=d;unfold pyNext;refine aHs (aJ5 (aI8 (name:=Str.ofString "__next__") ht slot_next (aI7 slot_next ht entry_next ?_ (args_next _))));unfold Builtin.«set_iterator.__next__»;refine aHs (m:=slotArgs "__next__" 0 _) (aHt ?_);refine aHs (aKg c rfl ?_);dsimp only;refine aHs (aK2 ho hd l ?_);rw[if_neg (show ¬(((es.size:Int) !=(es.size:Int))=true) by simp)];refine aHs (aIq g h ?_);dsimp only;have n:(ns.map λ(k:Nat)=>rawInt k).toArray[(i:Int).toNat]? =none:=by simpa using f
 rw[n];dsimp only;refine aHs (aI6 c (by simp) λD p r=>?_);refine aHs (aI6 p (by simp) λv F x=>?_);exact yC (B:=A.in1) (s:={s with heap:=v}) (show A.in1.handled=none from j) λh' k=>q h' λb u y e=>k b u (((r.trans x).2 b y).trans e)
end
theorem pH{α:Type}:∀{xs:List α} {i:Nat} (h:i<xs.length),(xs[i]::xs.eraseIdx i).Perm xs
 | x::xs,0,h=>.refl _
 | x::xs,i+1,h=>by
  simp only[List.getElem_cons_succ,List.eraseIdx_cons_succ];exact(List.Perm.swap x _ _).trans ((pH (by simpa using h)).cons x)
section
variable {M:Model}{A:Around}{E:aLx}
theorem yW{α:Type}:∀(n:Nat) (xs:List α) (s:Shared) (Q:List α->Shared->Prop),xs.length<=n->(∀b d,b.Perm xs->Q b {s with drawn:=d})->wpAny M A (drawOrder n xs) Q E s
 | 0,[],s,Q,_,h=>by unfold drawOrder;exact aHt (h [] s.drawn (.refl _))
 | 0,x::xs,s,Q,hl,h=>by simp at hl
 | n+1,[],s,Q,_,h=>by unfold drawOrder;exact aHt (h [] s.drawn (.refl _))
 | n+1,x::xs,s,Q,hl,h=>by
  unfold drawOrder;refine aHs ?_;have a:0<(x::xs).length:=by simp
  refine(λe p c=>⟨by simp,?_⟩:wpAny M A (choose .order (x::xs).length) _ E s);have hi:M.w.draws .order (s.drawn.get .order) % (x::xs).length<(x::xs).length:=Nat.mod_lt _ a;generalize M.w.draws .order (s.drawn.get .order) % (x::xs).length=i at hi;revert e p c;show wpAny M A _ _ E _;refine aHt ?_;rw[List.getElem?_eq_getElem hi];dsimp only;refine aHs (yW n ((x::xs).eraseIdx i) _ _ (by rw[List.length_eraseIdx_of_lt hi];simp at hl⊢;lia) λb d f=>aHt (h _ d ?_));exact(f.cons _).trans (pH hi)
end
theorem yJ{α:Type}(next:Nat->Nat):∀(fuel k:Nat) (left:List α) (out:Array α),left.length<=fuel->(pickOrder.go next fuel k left out).toList.Perm (out.toList++left)
 | 0,k,left,out,h=>by
  have:left=[]:=aKy.mp (by lia);subst this;simp[pickOrder.go]
 | fuel+1,k,[],out,h=>by simp[pickOrder.go]
 | fuel+1,k,x::xs,out,h=>by
  unfold pickOrder.go
  have hi:next k % (x::xs).length<(x::xs).length:=Nat.mod_lt _ (by simp)
  rw[List.getElem?_eq_getElem hi];dsimp only
  generalize next k % (x::xs).length=i at hi
  have:=yJ next fuel (k+1) ((x::xs).eraseIdx i) (out.push (x::xs)[i]) (by rw[List.length_eraseIdx_of_lt hi];simp at h⊢;lia)
  refine this.trans ?_;simp only[Array.toList_push,List.append_assoc,List.singleton_append];exact(pH hi).append_left _
theorem u7{α:Type}(next:Nat->Nat)(xs:Array α):(pickOrder next xs).toList.Perm xs.toList:=by
 unfold pickOrder
 have:=yJ next xs.size 0 xs.toList #[] (by simp)
 simpa using this
section
variable {prog:Program}{w:World}{A:Around}{E:aLx}{s:Shared}{a:Addr}{ep:Nat}{o:Obj}{es:Array (Int×Value)}{t:SetTable}
theorem kT{Q:Bool->Shared->Prop}(h:Q (w.params.followText "set-order") s):wpAny (model prog w) A setsByText Q E s:=by
 unfold setsByText;exact aHs (aLa (aHt h))
def uZ(t:SetTable):Nat->Nat
 | 0=>0
 | i+1=>t.place.getD i 0+1
theorem F9(ht:sL l t)(hi:i<=t.place.size):below t.place (uZ t i)=i:=by
 cases i with
 | zero=>exact F8 ht.ris
 | succ i=>
  have:t.place.getD i 0=t.place[i]'(by lia):=by simp[Array.getD,show i<t.place.size by lia]
  show below t.place (t.place.getD i 0+1)=i+1;rw[this];exact GA ht.ris (by lia)
theorem J8(a:t.fits es.size=true):t.place.size=es.size:=by
 simp only[SetTable.fits,Bool.and_eq_true,beq_iff_eq]at a;exact a.1
variable{Q:Option (Value×Nat)->Shared->Prop}
theorem FD(ho:s.heap.get? a=some o)(hd:o.data= .set es ep t)(d:t.fits es.size=true)(ht:sL l t)(g:w.params.followText "set-order"=false)(j:l=true)
  (f:(!t.plain && decide (es.size > 1))=false) (hi:i<=es.size) (q:Q ((es[i]?).map λe=>(e.2,uZ t (i+1))) s):wpAny (model prog w) A (setNext a (uZ t i) i ep) Q E s:=by
 have n:=J8 d;unfold setNext;refine aHs (aK0 ho hd d ?_);dsimp only;refine aHs (kT ?_);rw[g,if_neg Bool.false_ne_true];have p:(if (!t.plain && decide (es.size > 1))=true then (unsupported "set_iterator.__next__:the-table-is-plain-no-more":Sem Unit) else pure ())=pure ():=by rw[f];rfl
 show wpAny _ _ (if (!t.plain && decide (es.size > 1))=true then _ else _) Q E s;rw[f,if_neg Bool.false_ne_true];have b:t.led=true:=by rw[ht.led,j]
 refine aHs ?_;show wpAny _ _ (if (!t.led && !es.isEmpty)=true then _ else _) _ E s;rw[b];simp only[Bool.not_true,Bool.false_and,Bool.false_eq_true,if_false];refine aHt ?_;rw[F9 ht (by lia)];by_cases h:i<es.size
 ·have c:es[i]? =some es[i]:=by simp[h]
  have k:t.place[i]? =some (t.place[i]'(by lia)):=by simp[show i<t.place.size by lia]
  rw[c]at q⊢;rw[k];have m:t.place.getD i 0=t.place[i]'(by lia):=by simp[Array.getD,show i<t.place.size by lia]
  simp only[uZ,m,Option.map_some]at q;exact aHt q
 ·have c:es[i]? =none:=by simp;lia
  rw[c]at q⊢;exact aHt q
theorem JL(ho:s.heap.get? a=some o)(hd:o.data= .set es ep t)(b:t.fits es.size=true)(c:w.params.followText "set-order"=true)
  (q:Q (((pickOrder (w.params.setOrder a ep) es)[i]?).map λe=>(e.2,0)) s):wpAny (model prog w) A (setNext a 0 i ep) Q E s:=by
 unfold setNext;refine aHs (aK0 ho hd b ?_);dsimp only;refine aHs (kT ?_);rw[c,if_pos rfl];rw[if_neg (by simp)];refine aHs ?_;unfold setWalk;refine aHs (aK0 ho hd b ?_);dsimp only;refine aHs (kT ?_);rw[c,if_pos rfl];refine aHs (aLa ?_);exact aHt (aHt q)
end
theorem xO:entryFor table "set_iterator.__iter__"=some Builtin.«dict_keyiterator.__iter__»:=
 entryFor_alias (id' := "dict_keyiterator.__iter__") (by kernel_rfl) rfl (by decide+kernel) (by kernel_rfl)
theorem BO(a:Value):argsOk "set_iterator.__iter__" ⟨[a],[]⟩:=by
 unfold argsOk;rw[signature?_of (id:= "set_iterator.__iter__") (n:= "__reti__".toList) (o:= "rotareti_tes".toList) (by kernel_rfl) CQ];kernel_rfl
theorem yH{α:Type}:∀l:List α,(List.range l.length).filterMap (λk=>l[k]?)=l
 | []=>rfl
 | x::l=>by
  have:=yH l;rw[List.length_cons,List.range_succ_eq_map,List.filterMap_cons];simp only[List.getElem?_cons_zero,List.filterMap_map,Function.comp_def,List.getElem?_cons_succ];rw[this]
section
variable {prog:Program}{w:World}{A:Around}{E:aLx}{s:Shared}
theorem yP{it a:Addr}{first:Value}{i n ep:Nat}{Q:aLx}(b:s.heap.get? it=some (nK first i a n ep))(h:Q (.ref it) s):wpAny (model prog w) A (pyIter (.ref it)) Q E s:=by
 have ht:s.TypeIs (.ref it) "set_iterator":=⟨_,b,rfl⟩
 refine aJi ht yE (aI7 yE ht xO ?_ (BO _));show wpAny _ _ (ret (.ref it)) _ _ s;exact aHt ⟨_,rfl,"set_iterator",_,ht,slot_next.lookup,h⟩
variable{es:Array (Int×Value)}
theorem BZ(m:A.handled=none){it a:Addr}(j:a≠it){o:Obj}{ep:Nat}(hd:o.data= .set es ep t)(l:t.fits es.size=true)(sl:Nat->Nat)(vs:List Value)(d:vs.length=es.size)
  (hN:∀(i:Nat),i<=es.size->∀(s:Shared),s.heap.get? a=some o->∀(A:Around) (E:aLx) (Q:Option (Value×Nat)->Shared->Prop),Q ((vs[i]?).map λv=>(v,sl (i+1))) s->wpAny (model prog w) A (setNext a (sl i) i ep) Q E s):
  Walks prog w A it [it,a] [it] vs.length (λi v=>vs[i]? =some v) (λi h=>i<=es.size/\h.get? it=some (nK (.int (sl i) 0) i a es.size ep)/\h.get? a=some o) where
 sub:=λb c=>by simp at c;simp[c]
 frame:=λ_ _ _ st hk=>⟨st.1,hk it (by simp) _ st.2.1,hk a (by simp) _ st.2.2⟩
 item:=λi s Q E hi st f=>by
  have e:vs[i]? =some vs[i]:=by simp[hi]
  refine NF (x:=vs[i]) (nx:=sl (i+1)) st.2.1 st.2.2 hd l (λA E Q q=>hN i st.1 s st.2.2 A E Q (by rw[e];exact q)) λh' g k=>?_;refine f _ h' s.toks e ⟨by lia,g,(k.2 a j).trans st.2.2⟩ λb u c e=>(k.2 b (by simpa using c)).trans e
 done:=λs Q E st f=>by
  rw[d]at st;refine AF m st.2.1 st.2.2 hd l (λA E Q q=>hN es.size (aHw _) s st.2.2 A E Q (by rw[List.getElem?_eq_none (by lia)];exact q)) λh' k=>?_;exact f h' s.toks λb u c e=>k b u (by simpa using c) e
 self:=λ_ _ _ _ st f=>yP st.2.1 f
theorem K2(r:A.handled=none){it a tp:Addr}(f:a≠it)(j:tp≠it){o:Obj}{ep:Nat}(hd:o.data= .set es ep t)(m:t.fits es.size=true)(ns:List Nat)(vs:List Value)(n:ns.length=vs.length)
  (y:∀(i p:Nat),ns[i]? =some p->(es[p]?).map (·.2)=vs[i]?):
  Walks prog w A it [it,a,tp] [it] vs.length (λi v=>vs[i]? =some v) (λi h=>h.get? it=some (nK (.ref tp) i a es.size ep)/\h.get? a=some o/\h.IsTuple tp (ns.map λ(k:Nat)=>rawInt k).toArray) where
 sub:=λb c=>by simp at c;simp[c]
 frame:=λ_ _ _ st hk=>⟨hk it (by simp) _ st.1,hk a (by simp) _ st.2.1,st.2.2.at λo e=>hk tp (by simp) o e⟩
 item:=λi s Q E hi st d=>by
  have e:vs[i]? =some vs[i]:=by simp[hi]
  have l:i<ns.length:=by lia
  have q:ns[i]? =some ns[i]:=by simp[l]
  refine ND (x:=vs[i]) st.1 st.2.1 hd m st.2.2 q (by rw[y i _ q,e]) λh' g k=>?_;refine d _ h' s.toks e ⟨g,(k.2 a f).trans st.2.1,st.2.2.extBut k.extBut j⟩ λb u c e=>(k.2 b (by simpa using c)).trans e
 done:=λs Q E st d=>by
  refine AE r st.1 st.2.1 hd m st.2.2 (by rw[List.getElem?_eq_none (by lia)]) λh' k=>?_;exact d h' s.toks λb u c e=>k b u (by simpa using c) e
 self:=λ_ _ _ _ st d=>yP st.1 d
end
section
variable {prog:Program}{w:World}{K:Type}[DecidableEq K]{knd:KeyKind prog w K}{A:Around}{E:aLx}{s:Shared}
def Vof(knd:KeyKind prog w K)(ks:List K)(vs:List Value):Prop:=∃ps:List (K×Value),ps.map (·.2)=vs/\(ps.map (·.1)).Perm ks/\∀p∈ps,knd.is p.1 p.2=true
variable{es:Array (Int×Value)}
theorem Es.vof{ks:List K}(h:Es knd es ks){l:List (Int×Value)}(p:l.Perm es.toList):Vof knd ks (l.map (·.2)):=by
 obtain⟨ps,c,d,e⟩:=h;obtain⟨a,b,f⟩:=m9 (·.2) p ps c.symm;refine⟨a.map λp=>(p.1,p.2.2),by rw[<-f];simp,?_,λp g=>?_⟩
 ·have:=(b.map (·.1)).trans d;simpa[Function.comp_def] using this
 ·obtain⟨q,i,rfl⟩:=aI1.mp g;exact(e q (b.mem_iff.mp i)).1
def BS(l:Bool)(h:Heap)(a:Addr)(es:Array (Int×Value)):Prop:=∃o ep t,h.get? a=some o/\o.ExactSet/\o.data= .set es ep t/\es.size<scanBound/\t.fits es.size=true/\sL l t
theorem BS.keep{h h' :Heap}{a:Addr}(x:BS l h a es)(k:∀o,h.get? a=some o->h'.get? a=some o):BS l h' a es:=by
 obtain⟨o,ep,t,ho,r⟩:=x;exact⟨o,ep,t,k o ho,r⟩
theorem BS.typeIs{s:Shared}{a:Addr}(x:BS l s.heap a es):s.TypeIs (.ref a) "set":=by
 obtain⟨o,ep,t,ho,b,_⟩:=x;exact⟨o,ho,b.1⟩
structure ItS(prog:Program)(w:World)(es:Array (Int×Value))(a:Addr)(s s2:Shared)(I:Addr):Prop where
 kept:∀b u,s.heap.get? b=some u->s2.heap.get? b=some u
 new:s.heap.objs.size<=I
 same:s2.gens=s.gens/\s2.os=s.os/\s2.toks=s.toks
 walk:∃(fp:List Addr) (St:Nat->Heap->Prop) (vs:List Value),(∀A:Around,A.handled=none->Walks prog w A I fp [I] vs.length (λi v=>vs[i]? =some v) St)/\St 0 s2.heap/\(∀b∈fp,(b=a\/s.heap.objs.size<=b)/\b<s2.heap.objs.size)/\vs.Perm (es.toList.map (·.2))
theorem ON{a:Addr}{Q:aLx}(D:BS (fM w) s.heap a es)(h:∀I s2,ItS prog w es a s s2 I->Q (.ref I) s2):wpAny (model prog w) A (pyIter (.ref a)) Q E s:=by
 have G:=D.typeIs;obtain⟨o,ep,t,ho,hex,hd,f,g,ht⟩:=D;have c:=aHz ho;refine aJi G F.slot_set_iter (aI7 F.slot_set_iter G wA ?_ (F.args_set_iter_1 _));unfold Builtin.«frozenset.__iter__»;refine aHs (m:=Builtin.Frozenset.slot0 "__iter__" _) (aHt ?_);refine aHs ?_;unfold Builtin.Frozenset.sizeOf;refine aHs (aK2 ho hd g (aHt ?_));refine aHs ?_;unfold setDrawn;refine aHs (aK0 ho hd g ?_);dsimp only;refine aHs (kT (aHt ?_));show wpAny _ _ (if (!w.params.followText "set-order" && (!t.plain && decide (es.size > 1)))=true then _ else _) _ _ s;by_cases l:(!w.params.followText "set-order" && (!t.plain && decide (es.size > 1)))=true
 ·rw[if_pos l];refine aHs (yW es.size (List.range es.size) s _ (by simp) λns d p=>?_)
  have hsz:(ns.map λ(i:Nat)=>rawInt i).length<=sizeLine:=by
   have:=p.length_eq;have:=fits_of_scanBound f;simp at*;lia
  refine aHs (aJn ?_ hsz);dsimp only;refine aHs (m:=setEpoch a) (wpAny_setEpoch_of (o:=o) (aHu _ ho) hd g ?_);refine aHs (m:=newFields "set_iterator" _) (aIe ?_ (by size_fits));refine aHt ⟨_,rfl,"set_iterator",_,⟨_,aHy _ rfl,rfl⟩,slot_next.lookup,?_⟩;refine h _ _ ⟨λb u e=>aHu _ (aHu _ e),by simp[Heap.size_push],⟨rfl,rfl,rfl⟩,?_⟩;have B:∀k∈ns,k<es.size:=λk hk=>by simpa using p.mem_iff.mp hk
  have r:(ns.filterMap λk=>es[k]?).Perm es.toList:=by
   have H:=p.filterMap λk=>es[k]?;have J:(List.range es.size).filterMap (λk=>es[k]?)=es.toList:=by simpa using yH es.toList
   rw[J]at H;exact H
  have v:(ns.filterMap λk=>es[k]?).length=ns.length:=by
   have:=r.length_eq;have:=p.length_eq;simp at*;lia
  have x:∀(ns:List Nat),(∀k∈ns,k<es.size)->∀(i n:Nat),ns[i]? =some n->es[n]? =(ns.filterMap λk=>es[k]?)[i]? :=by
   intro ns
   induction ns with
   | nil=>intro _ i n hi;simp at hi
   | cons k ns ih=>
    intro hv i n hi;have hk:=hv k (by simp)
    cases i with
    | zero=>simp at hi;subst hi;simp[hk]
    | succ i=>
     simp at hi;rw[ih (λj K=>hv j (by simp[K])) i n hi];simp[hk]
  refine⟨_,_,(ns.filterMap λk=>es[k]?).map (·.2),λA y=>K2 (tp:=s.heap.objs.size) y ?_ ?_ hd g ns _ (by simp[v]) λi n hi=>by rw[x ns B i n hi,List.getElem?_map],⟨aHy _ rfl,aHu _ (aHu _ ho),?_⟩,?_,r.map _⟩
  ·rw[Heap.size_push];exact aI4 (aIr c)
  ·rw[Heap.size_push];exact aI4 (aIs _)
  ·exact⟨_,aHu _ (aHy _ rfl),rfl,_,rfl⟩
  ·intro b f;simp only[List.mem_cons,List.not_mem_nil,or_false]at f;simp only[Heap.size_push];rcases f with rfl | rfl | rfl
   ·exact⟨.inr (by simp only[Heap.size_push];exact aLe _),by simp only[Heap.size_push];exact aIs _⟩
   ·exact⟨.inl rfl,aIr (aIr c)⟩
   ·exact⟨.inr (aHw _),aIr (aIs _)⟩
 ·rw[if_neg l];refine aHs (aHt ?_);refine aHs (m:=setEpoch a) (wpAny_setEpoch_of ho hd g ?_);refine aHs (m:=newFields "set_iterator" _) (aIe ?_ (by size_fits));refine aHt ⟨_,rfl,"set_iterator",_,⟨_,aHy _ rfl,rfl⟩,slot_next.lookup,?_⟩;refine h _ _ ⟨λb u e=>aHu _ e,aHw _,⟨rfl,rfl,rfl⟩,?_⟩;have z:a≠s.heap.objs.size:=aI4 c
  cases hbt:w.params.followText "set-order" with
  | true=>
   have r:=u7 (w.params.setOrder a ep) es;refine⟨_,_,(pickOrder (w.params.setOrder a ep) es).toList.map (·.2),λA y=>BZ y z hd g (λ_=>0) _ (by have:=r.length_eq;simp at*;lia) λi hi L C A E Q q=>JL C hd g hbt (by simpa[Function.comp_def] using q),⟨by lia,aHy _ rfl,aHu _ ho⟩,?_,r.map _⟩;intro b f;simp only[List.mem_cons,List.not_mem_nil,or_false]at f;simp only[Heap.size_push];rcases f with rfl | rfl
   ·exact⟨.inr (aHw _),aIs _⟩
   ·exact⟨.inl rfl,aIr c⟩
  | false=>
   have p:(!t.plain && decide (es.size > 1))=false:=by
    rw[hbt]at l;simpa using l
   refine⟨_,_,es.toList.map (·.2),λA y=>BZ y z hd g (uZ t) _ (by simp) λi hi L C A E Q q=>FD C hd g ht hbt (by simp[fM,hbt]) p hi (by simpa[Function.comp_def] using q),⟨by lia,aHy _ rfl,aHu _ ho⟩,?_,.refl _⟩;intro b f;simp only[List.mem_cons,List.not_mem_nil,or_false]at f;simp only[Heap.size_push];rcases f with rfl | rfl
   ·exact⟨.inr (aHw _),aIs _⟩
   ·exact⟨.inl rfl,aIr c⟩
end
open PySem.Calls
section
variable {prog:Program}{w:World}{K:Type}[DecidableEq K]{knd:KeyKind prog w K}{A:Around}{E:aLx}{s:Shared}{a:Addr}{ks:List K}{es:Array (Int×Value)}
theorem OY{Q:Bool->Shared->Prop}(e:s.TypeIs (.ref a) "set")(h:Q false s):wpAny (model prog w) A (Builtin.List.listLengthHint (.ref a)) Q E s:=by
 unfold Builtin.List.listLengthHint;refine aHs (wpAny_specialOf e PySem.F.slot_set_len.lookup ?_);generalize d:("set.__len__":String)=id0
 wp_delta
 rw[show splitId id0=some ("set","__len__") from by subst d;decide+kernel];subst d;refine aHs (aJs (T:= "set") (b:=true) e (by rw[isSubtype_type];kernel_rfl) ?_);refine wpAny_ite_split (λc=>absurd c (by decide)) (λ_=>?_);refine wpAny_ite_split (λ_=>?_) (λc=>absurd (by decide+kernel) c);refine aHs (aL0 e ?_);exact aHt h
theorem OO{vs:List Value}{acc:Array Value}(h:ItemsOf (λi v=>vs[i]? =some v) acc vs.length):acc=vs.toArray:=by
 apply Array.ext_getElem?;intro i;by_cases hi:i<vs.length
 ·have a:i<acc.size:=by rw[h.1];exact hi
  have:=h.2 i acc[i] (by simp[a]);simp[a,this]
 ·simp[hi,h.1]
theorem EW{R:Result->Shared->Prop}(y:BS (fM w) s.heap a es)(E:A.handled=none)(S:Addr)(n:S≠a)(res:Value)(j:Nat)(p:s.heap.get? S=some {cls:= .type "list",data:= .seq #[] j})
  (J:∀(d :Shared) (vs:List Value) (c' :Nat),vs.Perm (es.toList.map (·.2))->d.gens=s.gens->d.os=s.os->(∀b o,b≠S->s.heap.get? b=some o->d.heap.get? b=some o)->d.heap.get? S=some {cls:= .type "list",dict:=none,data:= .seq vs.toArray c',slots:= #[]}->R (.ok (.ret res)) d)
  (O:es.size<=sizeLine):
  wpAny (model prog w) A.in1 (Builtin.List.listExtendWith (.ref S) (.ref a) res)
   (λB d =>match B with | .done f=>R (.ok f) d | .again c' =>c'.quiet=true/\codeAny (model prog w) A c' R d) (λe d =>R (.error e) d) s:=by
 have q:=aHz p;unfold Builtin.List.listExtendWith;refine aHs (aL0 (T:= "set") y.typeIs ?_);have K:Builtin.List.listSameRef (.ref S) (.ref a)=false:=by simp[Builtin.List.listSameRef,n]
 have L:(Value.type "set"==Value.type "list")=false:=by decide
 have M:(Value.type "set"==Value.type "tuple")=false:=by decide
 simp only[K,L,M,Bool.or_false,Bool.false_eq_true,if_false];refine aHs (ON y λI s2 it=>?_);obtain⟨fp,St,vs,W,st,C,vof⟩:=it.walk
 have G:vs.length=es.size:=by
  have:=vof.length_eq;simpa using this
 have r:S∉fp:=λt=>by
  rcases(C S t).1 with z | z
  ·exact n z
  ·exact absurd q (Nat.not_lt.mpr z)
 have key:∀(h:Heap) (g tk:Nat),St 0 h->(∀b o,b≠S->s.heap.get? b=some o->h.get? b=some o)->
   h.get? S=some {cls:= .type "list",data:= .seq #[] g}->codeAny (model prog w) A (.builtin "list.extend.loop" ⟨[.ref S,.ref I,res],[]⟩) R {s2 with heap:=h,toks:=tk}:=by
  intro h g tk D hk c;refine codeAny_extend_loopS (W A.in1 E).toS (by lia) S r res vs.length 0 _ #[] g rfl (aIx _) D c (ItemsOf.nil _) λd H c' t u v=>?_;rw[OO v]at u;refine J d vs c' vof (t.gens.trans it.same.1) (t.os.trans it.same.2.1) (λb o k e=>t.heap b o (λhmem=>?_) (hk b o k e)) u;rcases aI5.mp hmem with N | hmem
  ·exact k N
  ·rw[List.mem_singleton.mp hmem]at e;exact absurd (aHz e) (Nat.not_lt.mpr it.new)
 have c:=it.kept _ _ p;have l:BS (fM w) s2.heap a es:=y.keep λo e=>it.kept _ _ e;refine aHs (aIj (OY l.typeIs ?_));refine wpAny_ite_split (λ_=>?_) (λ_=>aHt ⟨aJm PySem.F.plain_extend_loop _,key s2.heap j s2.toks st (λb o _ e=>it.kept _ _ e) c⟩);refine aHs (aJ0 ?_);refine aHs ?_;show wpAny _ _ (updateSeq S (·.push .none) >>=λ_=>updateSeq S (·.pop)) _ _ _;refine aHs (aJf c rfl ?_);have i:=aJ3 (Obj.mapSeq (·.push Value.none)) c rfl;refine aJf (hz:=by seq_fits) i rfl ?_;have m:=aJ3 (Obj.mapSeq (·.pop)) i rfl;refine aHt ⟨aJm PySem.F.plain_extend_loop _,key _ _ s2.toks ?_ (λb o k e=>?_) m⟩
 ·refine(W A.in1 E).frame 0 _ _ st λb k o e=>?_;have x:b≠S:=λh=>r (h▸k);exact(aIz _ _ (aIg x)).trans ((aIz _ _ (aIg x)).trans e)
 ·exact(aIz _ _ (aIg k)).trans ((aIz _ _ (aIg k)).trans (it.kept _ _ e))
variable{R:List Value->Shared->Prop}
theorem zR(m:BS (fM w) s.heap a es)(n:A.handled=none)(p:es.size<=sizeLine)
  (h:∀(c :Shared) (vs:List Value),vs.Perm (es.toList.map (·.2))->c.gens=s.gens->c.os=s.os->(∀b o,s.heap.get? b=some o->c.heap.get? b=some o)->R vs c):
  wpAny (model prog w) A (collect (.ref a)) R E s:=by
 have j:a<s.heap.objs.size:=by obtain⟨o,_,_,ho,_⟩:=m;exact aHz ho
 unfold collect;refine aHs (aLn (aJe PySem.F.entry_proto_collect ?_));rw[Around.under_plainId PySem.F.plain_proto_collect _];show wpAny _ A.in1 (newList [] >>=λl=>again (.builtin "list.__iadd__" ⟨[l,.ref a],[]⟩)) _ _ s;refine aHs (aIe ?_);refine aHt ⟨aJm PySem.F.plain_list_iadd _,aJe PySem.F.entry_list_iadd ?_⟩;rw[Around.under_plainId PySem.F.plain_list_iadd _];have g:(s.heap.push {cls:= .type "list",data:= .seq ([]:List Value).toArray}).get? s.heap.objs.size=some {cls:= .type "list",data:= .seq #[]}:=aHy _ rfl;show wpAny _ A.in1 (Builtin.List.listExtendWith (.ref s.heap.objs.size) (.ref a) (.ref s.heap.objs.size)) _ _ _
 have key:=EW (prog:=prog) (A:=A) (s:={s with heap:=s.heap.push {cls:= .type "list",data:= .seq ([]:List Value).toArray}}) (es:=es)
  (R:=λ(q:Result) (c :Shared)=>∃(vs:List Value) (c' :Nat),q= .ok (.ret (.ref s.heap.objs.size))/\vs.Perm (es.toList.map (·.2))/\c.gens=s.gens/\c.os=s.os/\
   (∀b o,s.heap.get? b=some o->c.heap.get? b=some o)/\c.heap.get? s.heap.objs.size=some {cls:= .type "list",dict:=none,data:= .seq vs.toArray c',slots:= #[]})
  (m.keep λo e=>aHu _ e) n s.heap.objs.size (aJ4 j) (.ref s.heap.objs.size) 0 g
  (λc vs c' hv hg ho hk d =>⟨vs,c',rfl,hv,hg,ho,λb o e=>hk b o (aI4 (aHz e)) (aHu _ e),d⟩) p
 refine aIk key (λk c x=>?_) λe c x=>?_
 ·cases k with
  | done f=>
   obtain⟨vs,c',e,hv,hg,ho,hk,d⟩:=x;cases e;show wpAny _ A (load s.heap.objs.size >>=_) _ _ _;refine aHs (aLk d ?_);exact aHt (by simpa using h c vs hv hg ho hk)
  | again c₁=>
   refine⟨x.1,aJy x.2 λq i y=>?_⟩;obtain⟨vs,c',rfl,hv,hg,ho,hk,d⟩:=y;show wpAny _ A (load s.heap.objs.size >>=_) _ _ _;refine aHs (aLk d ?_);exact aHt (by simpa using h i vs hv hg ho hk)
 ·obtain⟨_,_,r,_⟩:=x;cases r
theorem CD(d:mO knd (fM w) s.heap a ks)(e:A.handled=none)(f:ks.length<=sizeLine)
  (h:∀(c :Shared) (vs:List Value),Vof knd ks vs->c.gens=s.gens->c.os=s.os->(∀b o,s.heap.get? b=some o->c.heap.get? b=some o)->R vs c):
  wpAny (model prog w) A (collect (.ref a)) R E s:=by
 obtain⟨o,es,ep,t,ho,hex,hd,he,nd,g,i,ht⟩:=d;refine zR ⟨o,ep,t,ho,hex,hd,g,i,ht⟩ e (by rw[he.size];exact f) λc vs pm=>h c vs ?_;obtain⟨l,j,k⟩:=m9 (·.2) pm es.toList rfl;rw[<-k];exact he.vof j
end
variable {M:Nat}{h:Int}
variable {t:SetTable}{hs:List Int}
end ST
namespace L2
open PySem PySem.Spec PyProof.Rows
def kS:List (Str×NameKind)->List (Str×Addr)->List (Str×Addr)->List (Str×Addr)
 | [],_,acc=>acc
 | (n,k)::r,cells,acc=>kS r cells (if k== .free then (n,(cells.lookup n).getD 0)::acc else acc)
theorem yZ{env:Env}:∀(names:List (Str×NameKind)) (acc:List (Str×Addr)),(∀x∈names,x.2= .free->∃c,env.cells.lookup x.1=some c)->
  (forIn names acc λ(x:Str×NameKind) (e:List (Str×Addr))=>(if (x.2==NameKind.free)=true then do let a<-cellOf env x.1;pure (ForInStep.yield ((x.1,a)::e)) else pure (ForInStep.yield e):Sem _))=(pure (kS names env.cells acc):Sem _)
 | [],acc,_=>by simp[kS]
 | (n,k)::r,acc,h=>by
  have f:=λb =>yZ (env:=env) r b λx g=>h x (aI0 _ g);rw[List.forIn_cons];by_cases hk:k= .free
  ·subst hk;obtain⟨c,i⟩:=h (n,.free) aHx rfl;have d :env.cells.lookup n=some c:=i;simp only[kS,beq_self_eq_true,if_true,cellOf,d,pure_bind,Option.getD_some];exact f _
  ·have j:(k==NameKind.free)=false:=by simpa using hk
   simp only[kS,j,Bool.false_eq_true,if_false,pure_bind];exact f _
variable{scope:Scope}{env:Env}
theorem xS(h:∀x∈scope.names,x.2= .free->∃c,env.cells.lookup x.1=some c):closureFor scope env=pure (kS scope.names env.cells []):=by
 have e:=yZ (env:=env) scope.names [] h;unfold closureFor;simp only[bind_pure_comp]at e⊢
 first
  | (rw[<-e];rfl)
  | (simp at e⊢;rw[<-e];rfl)
  | (simp at e⊢;exact e)
theorem y3{cells:List (Str×Addr)}{P:Str->Addr->Prop}:∀(names:List (Str×NameKind)) (acc:List (Str×Addr)),(∀x∈acc,P x.1 x.2)->(∀n,(n,NameKind.free)∈names->P n ((cells.lookup n).getD 0))->∀x∈kS names cells acc,P x.1 x.2
 | [],acc,h,_,x,hx=>h x hx
 | (n,k)::r,acc,h,a,x,hx=>by
  refine y3 (cells:=cells) r _ (λy hy=>?_) (λm b=>a m (aI0 _ b)) x hx;by_cases hk:k= .free
  ·subst hk;simp only[beq_self_eq_true,if_true]at hy;rcases aI5.mp hy with rfl | hy
   ·exact a n aHx
   ·exact h y hy
  ·have c:(k==NameKind.free)=false:=by simpa using hk
   simp only[c,Bool.false_eq_true,if_false]at hy;exact h y hy
theorem cR{α:Type}:∀{l:List (Str×α)} {n:Str} {c:α},(n,c)∈l->∃c',l.lookup n=some c'
 | (k,v)::r,n,c,h=>by
  rw[List.lookup_cons]
  cases hb:n==k with
  | true=>exact⟨v,rfl⟩
  | false=>
   rcases aI5.mp h with e | h
   ·injection e with a _;rw[a]at hb;simp at hb
   ·exact cR h
theorem tE{cells:List (Str×Addr)}:∀(names:List (Str×NameKind)) (acc:List (Str×Addr)) (x:Str×Addr),x∈acc->x∈kS names cells acc
 | [],_,_,h=>h
 | (n,k)::r,acc,x,h=>by
  refine tE r _ x ?_;by_cases hk:(k==NameKind.free)=true
  ·rw[if_pos hk];exact aI0 _ h
  ·rw[if_neg hk];exact h
theorem y4{cells:List (Str×Addr)}:∀(names:List (Str×NameKind)) (acc:List (Str×Addr)) (n:Str),(n,NameKind.free)∈names->∃c,(n,c)∈kS names cells acc
 | (m,k)::r,acc,n,h=>by
  rcases aI5.mp h with e | h
  ·injection e with a b;subst a b;exact⟨(cells.lookup n).getD 0,tE r _ _ (by simp)⟩
  ·exact y4 r _ n h
theorem qL{x:Str}{b :NameKind}:(relabel scope env).names.lookup x=some b ->∃k,scope.names.lookup x=some k/\(b =k\/(k= .free/\b = .cell)):=by
 unfold relabel;dsimp only;generalize scope.names=l
 induction l with
 | nil=>intro h;simp at h
 | cons p r ih=>
  obtain⟨n,k⟩:=p;intro h;rw[List.map_cons]at h;by_cases a:(k==NameKind.free && env.scope.kind== .function && env.kindOf n==some .cell)=true
  ·simp only[a,if_true,List.lookup_cons]at h⊢
   cases hb:x==n with
   | true=>
    rw[hb]at h;simp only[Bool.and_eq_true,beq_iff_eq]at a;exact⟨k,rfl,.inr ⟨a.1.1,(aIn h).symm⟩⟩
   | false=>rw[hb]at h;exact ih h
  ·have c :(k==NameKind.free && env.scope.kind== .function && env.kindOf n==some .cell)=false:=by simpa using a
   simp only[c,Bool.false_eq_true,if_false,List.lookup_cons]at h⊢
   cases hb:x==n with
   | true=>rw[hb]at h;exact⟨k,rfl,.inl (aIn h).symm⟩
   | false=>rw[hb]at h;exact ih h
theorem zV{x:Str}:scope.names.lookup x=some .free->(relabel scope env).names.lookup x=some .cell\/(relabel scope env).names.lookup x=some .free:=by
 unfold relabel;dsimp only;generalize scope.names=l
 induction l with
 | nil=>intro h;simp at h
 | cons p r ih=>
  obtain⟨n,k⟩:=p;intro h;rw[List.map_cons];rw[List.lookup_cons]at h
  cases hb:x==n with
  | true=>
   rw[hb]at h;have hk:k= .free:=aIn h;subst hk;by_cases b:(NameKind.free==NameKind.free && env.scope.kind== .function && env.kindOf n==some .cell)=true
   ·simp only[b,if_true,List.lookup_cons,hb];first | exact .inl rfl | exact .inl trivial
   ·have a :(NameKind.free==NameKind.free && env.scope.kind== .function && env.kindOf n==some .cell)=false:=by simpa using b
    simp only[a,Bool.false_eq_true,if_false,List.lookup_cons,hb];first | exact .inr rfl | exact .inr trivial
  | false=>
   rw[hb]at h;by_cases b:(k==NameKind.free && env.scope.kind== .function && env.kindOf n==some .cell)=true
   ·simp only[b,if_true,List.lookup_cons,hb];exact ih h
   ·have a :(k==NameKind.free && env.scope.kind== .function && env.kindOf n==some .cell)=false:=by simpa using b
    simp only[a,Bool.false_eq_true,if_false,List.lookup_cons,hb];exact ih h
def aH(X:Cx)(own:List Str)(aE:List Nat)(scope:Scope)(cl:List (Str×Addr))(C:Addr)(fp:List Addr)(s₀:Shared)(H₀:Hp):Cx where
 prog:=X.prog
 w:=X.w
 K:=X.K
 mg:=X.mg
 base:=X.base
 A:=X.A
 N:=own++aE.map λi=>X.N.getD i ""
 s₀:=s₀
 H₀:=H₀
 env:=compEnvC scope cl C X.env
 outer:=X.stack
 stack:=X.stack
 ex:=fp
 fn:=λx=>scope.names.lookup x==some .cell
 calm:=X.calm
 pn:=[]
 xe:=λ_ _=>False
def r9(own:List Str)(aE:List Nat)(σ:St):St:=own.map (λ_=>none)++aE.map λi=>(σ[i]?).join
def cB(N:List Str)(sc scope:Scope)(aE:List Nat):Bool:=
 scope.kind== .function && scope.names.all (λy=>y.2 != .cell || scope.names.lookup y.1==some .cell) && scope.names.all (λy=>y.2 != .local || scope.names.lookup y.1==some .local) &&
 scope.names.all (λy=>y.2 != .free || (scope.names.lookup y.1==some .free && (sc.names.lookup y.1==some .cell || sc.names.lookup y.1==some .free))) &&
 aE.all (λi=>match N[i]? with | some x=>scope.names.lookup x==some .free | none=>false)
structure GP(X:Cx)(scope:Scope)(aE:List Nat):Prop where
 kind:scope.kind= .function
 cel:∀y∈scope.names,y.2= .cell->scope.names.lookup y.1=some .cell
 loc:∀y∈scope.names,y.2= .local->scope.names.lookup y.1=some .local
 fre:∀y∈scope.names,y.2= .free->scope.names.lookup y.1=some .free
 fr:∀y∈scope.names,y.2= .free->X.env.kindOf y.1=some .cell\/X.env.kindOf y.1=some .free
 cap:∀i∈aE,∃x,X.N[i]? =some x/\scope.names.lookup x=some .free
variable{X:Cx}{sc:Scope}{N:List Str}
theorem GP.of{aE:List Nat}(hN:X.N=N)(c:X.env.scope=sc)(h:cB N sc scope aE=true):GP X scope aE:=by
 subst hN c;unfold cB at h;simp only[Bool.and_eq_true,List.all_eq_true]at h;obtain⟨⟨⟨⟨d,f⟩,g⟩,b⟩,j⟩:=h;refine⟨aLb.mp d,λy a z=>?_,λy a z=>?_,λy a z=>?_,λy a z=>?_,λi hi=>?_⟩
 ·have:=f y a;rw[z]at this;simpa using this
 ·have:=g y a;rw[z]at this;simpa using this
 ·have:=b y a;rw[z]at this;have this:(scope.names.lookup y.1==some NameKind.free && (X.env.scope.names.lookup y.1==some NameKind.cell || X.env.scope.names.lookup y.1==some NameKind.free))=true:=by simpa using this
  exact aLb.mp (Bool.and_eq_true_iff.mp this).1
 ·have:=b y a;rw[z]at this;have this:(scope.names.lookup y.1==some NameKind.free && (X.env.scope.names.lookup y.1==some NameKind.cell || X.env.scope.names.lookup y.1==some NameKind.free))=true:=by simpa using this
  have this:=(Bool.and_eq_true_iff.mp this).2;rcases Bool.or_eq_true_iff.mp this with q | q
  ·exact .inl (aLb.mp q)
  ·exact .inr (aLb.mp q)
 ·have:=j i hi
  cases e:X.N[i]? with
  | none=>rw[e]at this;simp at this
  | some x=>rw[e]at this;exact⟨x,rfl,aLb.mp this⟩
theorem wQ:∀(names:List (Str×NameKind)) (n:Nat) (acc:List (Str×Addr)),cellsFrom n names acc=cellsFrom n names []++acc
 | [],_,_=>rfl
 | (x,k)::r,n,acc=>by
  unfold cellsFrom;split
  ·rw[wQ r (n+1) ((x,n)::acc),wQ r (n+1) [(x,n)]];simp
  ·exact wQ r n acc
theorem F7:∀(names:List (Str×NameKind)) (n:Nat) (acc:List (Str×Addr)) {x:Str} {c:Addr},(x,c)∈cellsFrom n names acc->(x,c)∈acc\/(x,NameKind.cell)∈names
 | [],_,_,_,_,h=>.inl h
 | (y,k)::r,n,acc,x,c,h=>by
  unfold cellsFrom at h;split at h
  ·rename_i hk;have hk:k= .cell:=aLb.mp hk;rcases F7 r _ _ h with z | z
   ·rcases aI5.mp z with z | z
    ·injection z with a b;exact .inr (by rw[a,hk];exact aHx)
    ·exact .inl z
   ·exact .inr (aI0 _ z)
  ·rcases F7 r _ _ h with z | z
   ·exact .inl z
   ·exact .inr (aI0 _ z)
theorem VA:∀(names:List (Str×NameKind)) (n:Nat) (acc:List (Str×Addr)) {p:Str×Addr},p∈acc->p∈cellsFrom n names acc:=λnames n acc p h=>by
 rw[wQ];exact aIh _ h
theorem BG:∀(names:List (Str×NameKind)) (n:Nat) (acc:List (Str×Addr)) {x:Str},(x,NameKind.cell)∈names->∃c,(x,c)∈cellsFrom n names acc
 | (y,k)::r,n,acc,x,h=>by
  unfold cellsFrom;rcases aI5.mp h with z | z
  ·injection z with a b;subst a b;rw[if_pos (show (NameKind.cell==NameKind.cell)=true from rfl)];exact⟨n,VA _ _ _ aHx⟩
  ·split
   ·exact BG r _ _ z
   ·exact BG r _ _ z
variable{A:Around}{s:Shared}
theorem xK{M:Model}{E:aLx}{globals:Addr}{cl:List (Str×Addr)}{qual:Str}{outer:Env}{b:Addr}{Q:Env->Shared->Prop}
  (a:∀h',h'.Ns s.heap.objs.size (λ_=>none)->(∀c o,s.heap.get? c=some o->h'.get? c=some o)->CellsOk h' (s.heap.objs.size+1) (cellsFrom (s.heap.objs.size+1) scope.names [])->
   Q (newEnv scope s.heap.objs.size globals (cellsFrom (s.heap.objs.size+1) scope.names []++cl) qual none .none (some outer) b) {s with heap:=h'}):
  wpAny M A (newFunctionEnv scope globals cl [] qual none .none (some outer) b) Q E s:=by
 simp only[newFunctionEnv,Option.isSome_some,if_true];refine aHs (wpAny_alloc ?_);refine aHs (wpAny_layCells _ (λname kind cells=>by cases hkc:kind==NameKind.cell <;> simp[hkc]) _ _ _ _ ?_);have ok:=cellsFrom_ok scope.names (s.heap.push {cls:= .type "dict",data:= .dict #[]}) (s.heap.objs.size+1) [] ⟨λ_ _ d=>(nomatch d),List.Pairwise.nil⟩ (by rw[Heap.size_push];exact aHw _);rw[Heap.size_push]at ok;rw[show ({s with heap:=s.heap.push {cls:= .type "dict",data:= .dict #[]}}:Shared).heap.objs.size=s.heap.objs.size+1 from Heap.size_push ..];refine aHs ?_;rw[List.forIn_nil];refine aHt (aHt ?_);rw[wQ];exact a _ ((Heap.Ns.new s.heap (.type "dict")).keeps (pushCells_keeps _ _)) (λc o e=>pushCells_keeps _ _ c o (aHu _ e)) ok
def QW(X:Cx)(a:List Expr)(t:TT):Prop:=
 ∀(pins:List (Addr×Obj)) (s:Shared) (σ:St) (H:Hp) (Q:Bool->Hp->Prop),Inv X pins σ H s->t σ H Q->
  wpAny (model X.prog X.w) X.A (forIn a true λc r=>if r=true then do let ok<-isTrue c X.env (eval c X.env);pure (ForInStep.yield ok) else pure (ForInStep.yield r)) (TP X pins σ Q) X.xe s
def aFu:TT:=λ_ H Q=>Q true H
theorem SF:QW X [] aFu:=λ_ _ _ H _ I h=>wpAny_tests_nil ⟨H,I,h⟩
theorem SE{c:Expr}{t:TT}(h:PT X c t):QW X [c] t:=λpins s σ H Q I q=>wpAny_tests_one (h pins s σ H Q I q)
def kW(n:Nat)(g:TG):Prop:=∀v σ H Q,g v σ H Q->g v σ H λa H' =>Q a H' /\a.length=σ.length/\∀j,n<=j->a[j]? =σ[j]?
def IH(n:Nat)(g:IF):Prop:=∀vs σ H Q,g vs σ H Q->g vs σ H λa H' =>Q a H' /\a.length=σ.length/\∀j,n<=j->a[j]? =σ[j]?
variable{n i:Nat}
theorem J0(h:i<n):kW n (o7 i):=λv σ H Q q=>⟨q,by simp,λj a=>by rw[List.getElem?_set_ne (by lia)]⟩
theorem O5:IH n O7:=λvs σ H Q q=>⟨q.1,q.2,rfl,λ_ _=>rfl⟩
theorem J1{t:TG}{u:IF}(mt:∀v σ H Q b,(∀a H',Q a H' ->b a H')->t v σ H Q->t v σ H b)(d:∀v σ H Q b,(∀a H',Q a H' ->b a H')->u v σ H Q->u v σ H b)(f:kW n t)(g:IH n u):IH n (DL t u):=by
 intro vs σ H Q q;obtain⟨v,r,e,q⟩:=q;refine⟨v,r,e,mt _ _ _ _ _ (λa H' ⟨h,l,k⟩=>?_) (f _ _ _ _ q)⟩;refine d _ _ _ _ _ (λi o ⟨q2,l2,m⟩=>?_) (g _ _ _ _ h);exact⟨q2,l2.trans l,λj c=>(m j c).trans (k j c)⟩
theorem O4{n m:Nat}{K:aLw}{u:IF}(h:IH n u):kW n (aA4 K m u):=by
 intro v σ H Q q;obtain⟨a,xs,e,b,c,q⟩:=q;exact⟨a,xs,e,b,c,h _ _ _ _ q⟩
theorem FT:∀v σ H Q b,(∀a H',Q a H' ->b a H')->o7 i v σ H Q->o7 i v σ H b :=λ_ _ _ _ _ h q=>h _ _ q
theorem J3:∀v σ H Q b,(∀a H',Q a H' ->b a H')->O7 v σ H Q->O7 v σ H b :=λ_ _ _ _ _ h q=>⟨q.1,h _ _ q.2⟩
theorem FU{t:TG}{u:IF}(mt:∀v σ H Q b,(∀a H',Q a H' ->b a H')->t v σ H Q->t v σ H b)(c:∀v σ H Q b,(∀a H',Q a H' ->b a H')->u v σ H Q->u v σ H b):
  ∀v σ H Q b,(∀a H',Q a H' ->b a H')->DL t u v σ H Q->DL t u v σ H b :=by
 intro vs σ H Q b h ⟨v,r,e,q⟩;exact⟨v,r,e,mt _ _ _ _ _ (λa H' d =>c _ _ _ _ _ h d) q⟩
variable{prog:Program}{w:World}{R:Result->Shared->Prop}{ifs:List Expr}{it acc:Value}
theorem D1{k a iter:Expr}{pos:Pos}(I:Nat->Shared->Prop)
  (l:∀n s,I n s->wpAny (model prog w) A (pyNext it) (λr b=>match r with
   | none=>R (.ok .next) b
   | some v=>wpAny (model prog w) A (letOwnedTupleGo a it v) (λ_ b=>wpAny (model prog w) A (assign a env v) (λ_ f=>
     wpAny (model prog w) A (forIn ifs true λc r=>if r=true then do let ok<-isTrue c env (eval c env);pure (ForInStep.yield ok) else pure (ForInStep.yield r)) (λok e=>
      if ok=true then wpAny (model prog w) A (eval k env) (λx g=>
       wpAny (model prog w) A (call (.builtin "list.append") [acc,x]) (λ_ i=>∃m,m<n/\I m i) (λ_ _=>False) g) (λ_ _=>False) e
      else ∃m,m<n/\I m e) (λ_ _=>False) f) (λ_ _=>False) b) (λ_ _=>False) b) (λ_ _=>False) s)
  (n:Nat) (h:I n s):codeAny (model prog w) A (.compLoop (.ListComp k [⟨a,iter,ifs,0⟩] scope pos) 0 it acc env) R s:=by
 refine codeAny_loop rfl I (λn s t=>?_) n h;show wpAny _ A ((compTurn (.ListComp k [⟨a,iter,ifs,0⟩] scope pos) 0 it acc env).onRaise (λx=>do noteFrame x env;theTreesLotGoes x)) _ _ s;refine wpAny_noted ?_;rw[compTurn_list];refine aHs (aJd (aHs (aIk (l n s t) (λr b d=>?_) λ_ _ h' =>h'.elim)))
 cases r with
 | none=>exact aHt d
 | some v=>
  refine aHs (aIk d (λ_ b d=>?_) λ_ _ h' =>h'.elim);refine aHs (aIk d (λ_ f o=>aHs (aIk o (λok e j=>?_) λ_ _ h' =>h'.elim)) λ_ _ h' =>h'.elim)
  cases ok with
  | false=>exact aHt ⟨rfl,j⟩
  | true=>
   exact aHs (aHs (aIk j (λx g p=>aHs (aIk p (λ_ i q=>aHt (aHt ⟨rfl,q⟩)) λ_ _ h' =>h'.elim)) λ_ _ h' =>h'.elim))
def EE(P:Program)(w:World)(p:Addr)(ks:List Key):HO:= .ext λ_ h=>ST.mO (aS P w) (ST.fM w) h p ks
variable{P:Program}{h:Heap}
theorem zS{H:Hp}{p:Addr}{ks:List Key}(x:ST.mO (aS P w) (ST.fM w) h p ks):cV P w H h p (EE P w p ks):=
 ⟨x,by obtain⟨o,_,_,_,ho,_⟩:=x;exact⟨o,ho⟩,λa b q k=>q.keep λo e=>k o e⟩
def xD:V->Option Key
 | .int i=>some (.inl i)
 | .str x=>some (.inr x)
 | _=>none
abbrev cmE(b:Bool)(a:Expr)(gs:List Comprehension)(sc:Scope)(pos:Pos):Expr:=match b with
 | false=>.ListComp a gs sc pos
 | true=>.SetComp a gs sc pos
def EJ(P:Program)(w:World)(b:Bool)(a:Addr)(c:List V):HO:=match b with
 | false=>.lst c
 | true=>EE P w a (ST.bN [] (c.filterMap xD))
abbrev cmN(b:Bool):Sem Value:=match b with
 | false=>newList []
 | true=>newSet (.type "set")
variable{Q:aLx}
theorem aAc{E:aLx}{b:Bool}(h:∀G:Heap,(∀c o,s.heap.get? c=some o->G.get? c=some o)->G.objs.size=s.heap.objs.size+1->
  (∀H,cV P w H G s.heap.objs.size (EJ P w b s.heap.objs.size []))->Q (.ref s.heap.objs.size) {s with heap:=G}):wpAny (model P w) A (cmN b) Q E s:=by
 cases b with
 | false=>exact aIe (h _ (λc o e=>aHu _ e) (aK3 _ _) λH=>⟨aIx _,[],0,.nil,aHy _ rfl⟩)
 | true=>
  unfold cmN newSet;exact aHs (ST.kT (aIe (h _ (λc o e=>aHu _ e) (aK3 _ _) λH=>zS (ST.vW (aHy _ rfl)))))
structure VX{α:Type}(P:Program)(w:World)(e:Expr)(gs:List Comprehension)(nw:Sem Value)(O:Addr->α->HO)(y0:α):Prop where
 cl:clausesOf e=gs
 nw:∀{A:Around} {E:aLx} {s:Shared} {Q:aLx},sysModules<s.heap.objs.size->(∀G:Heap,(∀c o,s.heap.get? c=some o->G.get? c=some o)->G.objs.size=s.heap.objs.size+1->
  (∀H,cV P w H G s.heap.objs.size (O s.heap.objs.size y0))->Q (.ref s.heap.objs.size) {s with heap:=G})->wpAny (model P w) A nw Q E s
 den:∀d it acc env,(model P w).den (.compStart e d it acc env)=(compStart e d it acc env).onRaise (λx=>do noteFrame x env;standAt theWindowsPlace)
 un:∀(A:Around) d it acc env,A.under (.compStart e d it acc env)=A
variable{elt:Expr}{gs:List Comprehension}
theorem PR{b:Bool}{pos:Pos}:VX P w (cmE b elt gs scope pos) gs (cmN b) (EJ P w b) []:=
 ⟨by cases b <;> rfl,λ_ h=>aAc h,by intros;cases b <;> rfl,by intros;cases b <;> rfl⟩
theorem D2{α:Type}{e:Expr}{nw:Sem Value}{O:Addr->α->HO}{y0:α}{d:Nat}{g:Comprehension}(ok:VX prog w e gs nw O y0)(c:gs[d]? =some g)(f:g.is_async=0)
  (h0:codeAny (model prog w) A (.compLoop e d it acc env) R s)
  (h:wpAny (model prog w) A (pyIter it) (λa b =>codeAny (model prog w) A (.compLoop e d a acc env) R b) (notedBy (model prog w) A env λx b =>R (.error x) b) s):
  codeAny (model prog w) A (.compStart e d it acc env) R s:=by
 refine codeAny_of_tree ?_;rw[ok.den,ok.un];refine wpAny_notedAt ?_;unfold compStart;rw[ok.cl,c];simp only[Option.elim,f,bne_self_eq_false,Bool.false_eq_true,if_false];refine aHs (aLa (wpAny_ite ?_));split
 ·exact aHt (And.intro rfl h0)
 ·exact aHs (aJ0 (aHs (aJd (aHs (aIk h (λa b h' =>aHt (And.intro rfl h')) λ_ _ x=>x)))))
abbrev VR(α:Type):=α->St->Hp->(α->Hp->Prop)->Prop
abbrev TBd:=VR (List V)
def LN{α:Type}(O:Addr->α->HO)(y0:α)(own:List Str)(aE:List Nat)(wi:TI)(g:TG)(tt:TT)(tb:Addr->VR α):TE:=λσ H Q=>wi σ H λJ e=>∀acc,e acc=none->
 ∃W:Nat->Nat->α->Hp->Prop,(∃m,W 0 m y0 (upd e acc (O acc y0)))/\∀i m d H,W i m d H->H acc=some (O acc d)/\
  ((J.stop i H/\Q (.ref acc) H)\/(J.go i H/\∃N:α->Hp->Prop,(∀a H',N a H' ->∃f,f<m/\W (i+1) f a H')/\
   ∀x H',J.QZ i H x H' ->g x (r9 own aE σ) H' λc j=>tt c j λb h=>if b=true then tb acc d c h N else N d h))
abbrev W7(P:Program)(w:World)(b:Bool):=LN (EJ P w b) []
def tbE(te:TE)(acc:Addr):TBd:=λa σ H N=>a.length<sizeLine/\te σ H λy b=>b acc=some (.lst a)/\N (a++[y]) (upd b acc (.lst (a++[y])))
def tLC(own:List Str)(aE:List Nat)(wi:TI)(g:TG)(tt:TT)(te:TE):TE:=λσ H Q=>∀P w,W7 P w false own aE wi g tt (tbE te) σ H Q
variable{tg iter:Expr}{pins:List (Addr×Obj)}{use:Option (Value->Sem Unit)}
theorem sC{α:Type}{e:Expr}{nw:Sem Value}{O:Addr->α->HO}{y0:α}{more:List Comprehension}{pos:Pos}{wi:TI}{g:TG}{tt:TT}{tb:Addr->VR α}(ce:VX X.prog X.w e (⟨tg,iter,ifs,0⟩::more) nw O y0)(own:List Str)(o1:Nat)(aE:List Nat)(B:Env->Addr->(Shared->Prop)->Shared->Prop)
  (hN:X.N=N) (hsc:X.env.scope=sc) (chk:cB N sc scope aE=true) (dB:X.calm=true) (hi:PI X tg iter wi) (ho1:o1<=own.length) (ho:kW o1 g)
  (hg:∀cl C fp s₀ H₀,PG (aH X own aE scope cl C fp s₀ H₀) tg g) (ht:∀cl C fp s₀ H₀,QW (aH X own aE scope cl C fp s₀ H₀) ifs tt)
  (hbody:∀acc cl C fp s₀ H₀ pins s σ H ys NN K,Inv (aH X own aE scope cl C fp s₀ H₀) pins σ H s->(∀j,o1<=j->j<own.length->σ[j]? =some none)->tb acc ys σ H NN->
   (∀D H' s',Inv (aH X own aE scope cl C fp s₀ H₀) pins σ H' s' ->NN D H' ->K s')->B (compEnvC scope cl C X.env) acc K s)
  (hloop:∀(it acc:Addr) (env:Env) (R:Result->Shared->Prop) (I:Nat->Shared->Prop),(∀n s,I n s->wpAny (model X.prog X.w) X.A (pyNext (.ref it)) (λr L=>match r with
   | none=>R (.ok .next) L
   | some v=>wpAny (model X.prog X.w) X.A (letOwnedTupleGo tg (.ref it) v) (λ_ L=>wpAny (model X.prog X.w) X.A (assign tg env v) (λ_ s₂=>
     wpAny (model X.prog X.w) X.A (forIn ifs true λc r=>if r=true then do let ok<-isTrue c env (eval c env);pure (ForInStep.yield ok) else pure (ForInStep.yield r)) (λok s₃=>
      if ok=true then B env acc (λs=>∃m,m<n/\I m s) s₃ else ∃m,m<n/\I m s₃) (λ_ _=>False) s₂) (λ_ _=>False) L) (λ_ _=>False) L) (λ_ _=>False) s)->
   ∀n s,I n s->codeAny (model X.prog X.w) X.A (.compLoop e 0 (.ref it) (.ref acc) env) R s)
  (hs:∀x,foldedSetIterable iter X.env x=pure x)   {σ:St} {H:Hp} {Q:VK}  {Q' :aLx} (I:Inv X pins σ H s) (h:LN O y0 own aE wi g tt tb σ H Q)
  (hend:∀(acc C:Addr) (m:aLz) (H5:Hp) (s6:Shared) (r:Flow),Inv X pins σ H5 s6->H5 C=none->C≠X.env.locals->X.s₀.heap.objs.size<=C->(∀x c,X.env.cells.lookup x=some c->c≠C)->(∀p∈X.pn++pins,p.1≠C)->s6.heap.Ns C m->Q (.ref acc) H5->
   compPost (model X.prog X.w) X.A X.xe use Q' (.ref acc) C (.ok r) s6):
  wpAny (model X.prog X.w) X.A (comprehension e scope X.env (firstIterPos (⟨tg,iter,ifs,0⟩::more) pos) nw (firstAsync (⟨tg,iter,ifs,0⟩::more)) (firstIter (⟨tg,iter,ifs,0⟩::more) X.env) use) Q' X.xe s:=by
 have ck:=GP.of hN hsc chk;have hcl:∀x∈scope.names,x.2= .free->∃c,X.env.cells.lookup x.1=some c:=λx hx hf=>I.ok.has x.1 (ck.fr x hx hf);refine wpAny_comprehension_free (use:=use) (cl:=kS scope.names X.env.cells []) ce.cl hs (xS hcl) ck.kind ck.loc (b6 (hi pins s σ H _ I h) λv s1 h1=>b6 h1 λitv s2 h2=>?_);obtain⟨it,fp,tn,J,H2,e,I2,T,st2,f2,hW⟩:=h2;subst e;refine ce.nw (by have:=I2.mod.glob.keeps I2.bk;exact aL2 (by decide) this.lt) λG hGk hGs hGo=>xK (λM S kept hcs=>?_);dsimp only at S kept hcs⊢;have hacc0:H2 s2.heap.objs.size=none:=I2.bJ.fresh (aHw _);obtain⟨W,⟨m0,w0⟩,turn⟩:=hW s2.heap.objs.size hacc0;have f:Inv X pins σ (upd H2 s2.heap.objs.size (O s2.heap.objs.size y0)) {s2 with heap:=G}:=I2.laid (t' :=s2.toks) hGk (aHw _) (hGo _);generalize hH3:upd H2 s2.heap.objs.size (O s2.heap.objs.size y0)=H3 at f w0
 have Z:∀x c,(kS scope.names X.env.cells []).lookup x=some c->X.env.cells.lookup x=some c:=λx c e=>by
  have:=y3 (cells:=X.env.cells) (P:=λx c=>X.env.cells.lookup x=some c) scope.names [] (by simp) (λn hn=>by
   obtain⟨c,hc⟩:=hcl (n,.free) hn rfl;have hc' :X.env.cells.lookup n=some c:=hc
   rw[hc'];rfl) (x,c) (aIp e)
  exact this
 have oldHas:∀x,scope.names.lookup x=some .free->∃c,(kS scope.names X.env.cells []).lookup x=some c:=λx e=>by
  obtain⟨c,hc⟩:=y4 (cells:=X.env.cells) scope.names [] x (aIp e);exact cR hc
 have newNo:∀x,scope.names.lookup x=some .free->(cellsFrom (G.objs.size+1) scope.names []).lookup x=none:=λx e=>by
  cases q:(cellsFrom (G.objs.size+1) scope.names []).lookup x with
  | none=>rfl
  | some c=>
   rcases F7 _ _ _ (aIp q) with z | z
   ·cases z
   ·have:=ck.cel _ z rfl;rw[e]at this;cases this
 have oldLt:∀x c,X.env.cells.lookup x=some c->c<G.objs.size:=λx c e=>by obtain⟨v,z⟩:=f.cell x c e;exact z.lt
 generalize U :cellsFrom (G.objs.size+1) scope.names []++kS scope.names X.env.cells []=cl at⊢
 have l:∀x c,cl.lookup x=some c->X.env.cells.lookup x=some c\/(G.objs.size<c/\M.IsCell c none/\(x,c)∈cellsFrom (G.objs.size+1) scope.names []):=λx c e=>by
  rw[<-U,List.lookup_append]at e
  cases q:(cellsFrom (G.objs.size+1) scope.names []).lookup x with
  | none=>rw[q]at e;exact .inl (Z x c (by simpa using e))
  | some c' =>
   rw[q]at e;have e' :c' =c:=by simpa using e
   subst e';have hm:=aIp q;obtain⟨z1,z2⟩:=hcs.empty _ _ hm;exact .inr ⟨z2,z1,hm⟩
 have clHas:∀x,scope.names.lookup x=some .free->∃c,cl.lookup x=some c/\X.env.cells.lookup x=some c:=λx e=>by
  obtain⟨c,hc⟩:=oldHas x e;refine⟨c,?_,Z x c hc⟩;rw[<-U,List.lookup_append,newNo x e,hc];rfl
 have clNew:∀x,scope.names.lookup x=some .cell->∃c,cl.lookup x=some c:=λx e=>by
  obtain⟨c,hc⟩:=BG scope.names (G.objs.size+1) [] (aIp e);exact cR (c:=c) (by rw[<-U];exact aJx _ hc)
 have fpObj:=T.obj _ _ st2;have fpLt:∀b∈fp,b<s2.heap.objs.size:=λb a=>by obtain⟨o,e,_⟩:=fpObj b a;exact aHz e
 have bJ:(aH X own aE scope cl G.objs.size fp {s2 with heap:=G} H3).Ok:=by
  refine⟨f.ok.mod,ck.kind,f.ok.glob,f.ok.blt,aHw _,λx y c e1 t=>?_,λx hx=>?_,λx c hf e=>?_,f.ok.hd,f.ok.frames,.inl rfl,λb a=>⟨?_,λx c e=>?_⟩,f.bs,aIa f.ok.VH f.sz,λb o e a=>?_,λb a z=>?_,f.stack,f.G3⟩
  ·have two:∀{x c},cl.lookup x=some c->_:=λ{x c} e=>l x c e;rcases two e1 with z1 | ⟨z1,_,m1⟩
   ·rcases two t with z2 | ⟨z2,_,m2⟩
    ·exact f.ok.inj x y c z1 z2
    ·have:=oldLt x c z1;exact absurd this (by lia)
   ·rcases two t with z2 | ⟨z2,_,m2⟩
    ·have:=oldLt y c z2;exact absurd this (by lia)
    ·exact name_of_addr hcs.apart m1 m2
  ·have hx:(relabel scope X.env).names.lookup x=some .cell\/(relabel scope X.env).names.lookup x=some .free:=hx
   have fr:∀{x},scope.names.lookup x=some .free->∃c,cl.lookup x=some c:=λ{x} e=>by
    obtain⟨c,h1,_⟩:=clHas x e;exact⟨c,h1⟩
   rcases hx with q | q
   ·obtain⟨k,hk,z | ⟨z,_⟩⟩:=qL q
    ·exact clNew x (by rw[hk,<-z])
    ·exact fr (by rw[hk,z])
   ·obtain⟨k,hk,z | ⟨_,z⟩⟩:=qL q
    ·exact fr (by rw[hk,<-z])
    ·cases z
  ·have hx:scope.names.lookup x=some .cell:=aLb.mp hf;obtain⟨c',hc'⟩:=BG scope.names (G.objs.size+1) [] (aIp hx);obtain⟨c'',hc''⟩:=cR hc';have e:cl.lookup x=some c:=e;rw[<-U,List.lookup_append,hc'']at e;have e' :c'' =c:=by simpa using e
   subst e';exact aJ6 (hcs.empty _ _ (aIp hc'')).2
  ·exact aI4 (aL2 (fpLt b a) (by show s2.heap.objs.size<G.objs.size;rw[hGs];exact aIs _))
  ·rcases l x c e with z | ⟨z,_⟩
   ·exact(f2 b a).2.2.2.2.1 x c z
   ·exact aJ4 (aL2 (aL2 (fpLt b a) (by show s2.heap.objs.size<G.objs.size;rw[hGs];exact aIs _)) z)
  ·rcases(f2 b a).2.2.2.1 with z | z
   ·exact f.ok.NB b o e z
   ·exact absurd (aIb (aHz e) (aIa f.ok.VH z)) (aJc _)
  ·rcases aI5.mp (f.ET b z) with q | q
   ·exact(f2 b a).2.1 q
   ·exact(f2 b a).2.2.1 q
 have hCn:H3 G.objs.size=none:=f.bJ.fresh (aHw _)
 have I4:Inv (aH X own aE scope cl G.objs.size fp {s2 with heap:=G} H3) [] (r9 own aE σ) H3 {s2 with heap:=M}:=by
  refine⟨bJ,rfl,f.bare,Un.kept kept,⟨_,S,λi x v e1 t e3=>?_⟩,λx c e=>?_,hCn,λx c e=>?_,λp hp=>absurd hp (by simp[aH]),f.bJ.kept kept,by simp[r9,aH]⟩
  ·have hge:own.length<=i:=by
    refine aL9 λhlt=>?_;unfold r9 at t;rw[List.getElem?_append_left (by simpa using hlt),List.getElem?_map]at t
    cases q:own[i]? with
    | none=>rw[q]at t;simp at t
    | some z=>rw[q]at t;simp at t
   unfold r9 at t;have V :(own++aE.map λi=>X.N.getD i "")[i]? =some x:=e1;rw[List.getElem?_append_right hge,List.getElem?_map]at V;rw[List.getElem?_append_right (by simpa using hge),List.getElem?_map]at t;simp only[List.length_map]at t
   cases q:aE[i-own.length]? with
   | none=>rw[q]at V;simp at V
   | some k=>
    rw[q]at V t;simp only[Option.map_some,Option.some.injEq]at V t;obtain⟨x',hx',E⟩:=ck.cap k (aI2 q);have ex:x' =x:=by rw[<-V,List.getD_eq_getElem?_getD,hx'];rfl
    subst ex
    have e2' :σ[k]? =some (some v):=by
     cases w:σ[k]? with
     | none=>rw[w]at t;simp at t
     | some z=>rw[w]at t;simp at t;rw[t]
    have kx:=ck.fr _ (aIp E) rfl
    have visX:Vis X.env.scope x' :=by
     rcases kx with z | z
     ·exact .inr (.inl z)
     ·exact .inr (.inr z)
    obtain⟨m,hn,hl⟩:=f.loc;obtain⟨u,ru,lk⟩:=hl k x' v hx' e2' visX;refine⟨u,ru,.inr ⟨zV E,?_⟩⟩
    rcases lk with ⟨z,_⟩ | ⟨_,c,hc,hcell⟩
    ·rcases kx with z' | z' <;> (have z'' :=z.symm.trans z';cases z'')
    ·obtain⟨c',hc',this⟩:=clHas x' E;rw[hc]at this;cases this;obtain⟨o,ho,hd⟩:=hcell;exact⟨c,hc',⟨o,kept _ _ ho,hd⟩⟩
  ·rcases l x c e with z | ⟨_,z,_⟩
   ·obtain⟨v,o,ho,hd⟩:=f.cell x c z;exact⟨v,o,kept _ _ ho,hd⟩
   ·exact⟨_,z⟩
  ·rcases l x c e with z | ⟨z,_⟩
   ·exact f.kO x c z
   ·exact f.bJ.fresh (aJ6 z)
 have st4:tn 0 M:=T.keep _ _ _ st2 λb a o e=>kept b o (hGk b o e);have fp4:∀b∈fp,H3 b=none:=λb a=>by rw[<-hH3,aO (Nat.ne_of_lt (fpLt b a))];exact(f2 b a).1
 have stat:∀{H' :Hp},(∀b∈fp,H' b=none)->∀b∈fp,pO (aH X own aE scope cl G.objs.size fp {s2 with heap:=G} H3) [] H' b:=λhn b a=>
  ⟨hn b a,(bJ.exf b a).1,bJ.PF b a,.inl a,(bJ.exf b a).2,λp hp=>absurd hp (by simp[aH])⟩
 have loop:codeAny (model X.prog X.w) X.A (.compLoop e 0 (.ref it) (.ref s2.heap.objs.size) (compEnvC scope cl G.objs.size X.env))
   (compPost (model X.prog X.w) X.A X.xe use Q' (.ref s2.heap.objs.size) G.objs.size) {s2 with heap:=M}:=by
  refine hloop _ _ _ _ (λn s' =>∃i ys H',Inv (aH X own aE scope cl G.objs.size fp {s2 with heap:=G} H3) [] (r9 own aE σ) H' s' /\tn i s'.heap/\(∀b∈fp,H' b=none)/\W i n ys H') ?_ m0 _ ⟨0,y0,H3,I4,st4,fp4,w0⟩;rintro n s5 ⟨i,ys,H5,I5,st5,fr5,w5⟩;obtain⟨hacc,turn5⟩:=turn i n ys H5 w5
  rcases turn5 with ⟨stop,q⟩ | ⟨go,NN,hNN,step⟩
  ·refine b6 (T.done (aH X own aE scope cl G.objs.size fp {s2 with heap:=G} H3) rfl rfl rfl dB i [] s5 _ H5 (λ_ _=>False) I5 (stat fr5) st5 stop) λr s6 zz0=>?_;obtain⟨hr,I6⟩:=zz0;subst hr;obtain⟨m,hm,_⟩:=id I6.loc
   have I7:Inv X pins σ H5 s6:=f.aEf (ch:=fp) I6.os I6.base I6.bJ I6.bare λb a=>⟨(f2 b a).2.2.2.1,(f2 b a).2.1,λx c e=>(f2 b a).2.2.2.2.1 x c e,λp hp=>(f2 b a).2.2.2.2.2 p hp⟩
   exact hend _ _ m H5 s6 _ I7 I6.free (aJ4 (by have:=f.lt;exact this)) f.sz (λx c e=>by obtain⟨v,z⟩:=f.cell x c e;exact aI4 z.lt) (λp hp=>aI4 (aHz (f.pin p hp).1)) hm q
  ·refine b6 (T.item (aH X own aE scope cl G.objs.size fp {s2 with heap:=G} H3) rfl rfl rfl dB i [] s5 _ H5 (λ_ _=>False) I5 (stat fr5) st5 go) λr s6 zz1=>?_;obtain⟨u,hr,h6⟩:=zz1;subst hr;refine b6 h6 λ_ s7 zz2=>?_;obtain⟨x,H7,I7,r7,y7,st7,fr7⟩:=zz2;have I7' :=I7.pinned (stat fr7) (T.obj _ _ st7);refine b6 (hg _ _ _ _ _ _ s7 _ H7 x u _ I7' r7 (ho _ _ _ _ (step x H7 y7))) λ_ s8 zz3=>?_;obtain⟨σ8,H8,I8,q8,l8,k8⟩:=zz3;refine b6 (ht _ _ _ _ _ _ s8 σ8 H8 _ I8 q8) λok s9 zz4=>?_;obtain⟨H9,I9,q9⟩:=zz4
   have again:∀{D:α} {F:Hp} {Y:Shared},Inv (aH X own aE scope cl G.objs.size fp {s2 with heap:=G} H3) ([]++rO fp s7.heap) σ8 F Y->NN D F->
     ∃m,m<n/\∃i ys H',Inv (aH X own aE scope cl G.objs.size fp {s2 with heap:=G} H3) [] (r9 own aE σ) H' Y/\tn i Y.heap/\(∀b∈fp,H' b=none)/\W i m ys H' :=λ{D F Y} I10 n10=>by
    obtain⟨m',hm,w10⟩:=hNN D F n10
    have I10' :Inv (aH X own aE scope cl G.objs.size fp {s2 with heap:=G} H3) ([]:List (Addr×Obj)) (r9 own aE σ) F Y:=I10.m6.weak l8.symm λj v e=>by
     have hge:own.length<=j:=by
      refine aL9 λhlt=>?_;unfold r9 at e;rw[List.getElem?_append_left (by simpa using hlt),List.getElem?_map]at e
      cases q:own[j]? with
      | none=>rw[q]at e;simp at e
      | some z=>rw[q]at e;simp at e
     rw[k8 j (Nat.le_trans ho1 hge)];exact e
    refine⟨m',hm,i+1,D,F,I10',T.keep _ _ _ st7 λb a o e=>(I10.pin (b,o) (aIh _ (aIh _ (fY a e)))).1,λb a=>?_,w10⟩;obtain⟨o,e,d⟩:=T.obj _ _ st7 b a;exact(I10.pin (b,o) (aIh _ (aIh _ (fY a e)))).2.1
   cases ok with
   | false=>exact again I9 q9
   | true=>
    rw[if_pos rfl];refine hbody _ _ _ _ _ _ _ s9 σ8 H9 ys NN _ I9 (λj hj1 hj2=>?_) q9 λD F Y I10 q10=>again I10 q10;rw[k8 j hj1];unfold r9;rw[List.getElem?_append_left (by simpa using hj2),List.getElem?_map];simp[hj2]
 exact D2 ce (g:=⟨tg,iter,ifs,0⟩) rfl rfl loop (T.self _ 0 _ _ _ st4 loop)
theorem wK{σ:St}{Q:VK}(acc C:Addr)(m:aLz)(a:Hp)(d:Shared)(r:Flow)(f:Inv X pins σ a d)(g:a C=none)(h:C≠X.env.locals)(i:X.s₀.heap.objs.size<=C)(j:∀x c,X.env.cells.lookup x=some c->c≠C)(k:∀p∈X.pn++pins,p.1≠C)(l:d.heap.Ns C m)(q:Q (.ref acc) a):
  compPost (model X.prog X.w) X.A X.xe none (EP X pins σ Q) (.ref acc) C (.ok r) d:=
 ⟨m,l,λh' n=>⟨.ref acc,a,f.turned (t' :=d.toks) (it:=C) (λb o s e=>n.extBut b o s e) g h (.inr i) j k,rfl,q⟩⟩
section
variable {X:Cx}{tg iter elt:Expr}{ifs:List Expr}{scope sc:Scope}{N:List Str}{pos:Pos}{wi:TI}{g:TG}{tt:TT}{te:TE}(own:List Str)(aE:List Nat)
  (hN:X.N=N) (hsc:X.env.scope=sc) (chk:cB N sc scope aE=true) (dB:X.calm=true) (hi:PI X tg iter wi) (ho:kW own.length g)
  (hg:∀cl C fp s₀ H₀,PG (aH X own aE scope cl C fp s₀ H₀) tg g) (ht:∀cl C fp s₀ H₀,QW (aH X own aE scope cl C fp s₀ H₀) ifs tt)
  (he:∀cl C fp s₀ H₀,PE (aH X own aE scope cl C fp s₀ H₀) elt te)
include hN hsc chk dB hi ho hg ht he
theorem HJ(F:∀x,foldedSetIterable iter X.env x=pure x){σ:St}{H:Hp}{Q:VK}{E :aLx}(I:Inv X pins σ H s)(h:tLC own aE wi g tt te σ H Q)
  (d:∀(acc C:Addr) (m:aLz) (f:Hp) (i:Shared) (r:Flow),Inv X pins σ f i->f C=none->C≠X.env.locals->X.s₀.heap.objs.size<=C->(∀x c,X.env.cells.lookup x=some c->c≠C)->(∀p∈X.pn++pins,p.1≠C)->i.heap.Ns C m->Q (.ref acc) f->
   compPost (model X.prog X.w) X.A X.xe use E (.ref acc) C (.ok r) i):
  wpAny (model X.prog X.w) X.A (comprehension (.ListComp elt [⟨tg,iter,ifs,0⟩] scope pos) scope X.env (firstIterPos [⟨tg,iter,ifs,0⟩] pos) (newList []) (firstAsync [⟨tg,iter,ifs,0⟩]) (firstIter [⟨tg,iter,ifs,0⟩] X.env) use) E X.xe s:=by
 refine sC (PR (b:=false)) own own.length aE (λenv acc K s=>wpAny (model X.prog X.w) X.A (eval elt env) (λx G=>wpAny (model X.prog X.w) X.A (call (.builtin "list.append") [.ref acc,x]) (λ_ J=>K J) (λ_ _=>False) G) (λ_ _=>False) s)
  hN hsc chk dB hi (aHw _) ho hg ht (λacc cl C fp s₀ H₀ pins s σ H L M K N _ q k=>?_) (λit acc env R I e n s h=>D1 I e n h) F I (h _ _) d
 refine b6 (he _ _ _ _ _ _ s σ H _ N q.2) λO j l=>?_;obtain⟨y,o,t,P,a,u⟩:=l;refine b6 (rP _ j σ o (.ref acc) [y] (.ref acc) [O] (λv H' =>v= .bT/\M (L++[y]) H') t rfl (.cons P .nil) ⟨_,_,_,rfl,rfl,a,q.1,rfl,u⟩) λ_ S z=>?_;obtain⟨_,T,B,_,_,D⟩:=z;exact k _ _ _ B D
theorem aCf(a:∀x,foldedSetIterable iter X.env x=pure x:=by intro _;rfl):PE X (.ListComp elt [⟨tg,iter,ifs,0⟩] scope pos) (tLC own aE wi g tt te):=by
 intro pins s σ H Q I h;rw[eval_ListComp];exact HJ own aE hN hsc chk dB hi ho hg ht he a I h wK
end
theorem MM{pos d f:Pos}{wi:TI}{g:TG}{tt:TT}{te:TE}{x:Str}(own:List Str)(aE:List Nat)
  (hN:X.N=N) (hsc:X.env.scope=sc) (chk:cB N sc scope aE=true) (dB:X.calm=true) (hi:PI X tg iter wi) (ho:kW own.length g)
  (hg:∀cl C fp s₀ H₀,PG (aH X own aE scope cl C fp s₀ H₀) tg g) (ht:∀cl C fp s₀ H₀,QW (aH X own aE scope cl C fp s₀ H₀) ifs tt)
  (he:∀cl C fp s₀ H₀,PE (aH X own aE scope cl C fp s₀ H₀) elt te)
  (nd:X.N.Nodup) (j:X.N[i]? =some x) (u:Loc X.env.scope x) (w:swapsWith (.ListComp elt [⟨tg,iter,ifs,0⟩] scope pos) (some (.Name x d)) f.line X.env=pure true)
  (y:X.fn x=true\/X.env.scope.names.lookup x=some .local) (A:∀x,foldedSetIterable iter X.env x=pure x:=by intro _;rfl):
  PS X (.Assign [.Name x d] (.ListComp elt [⟨tg,iter,ifs,0⟩] scope pos) f) (LQ (tLC own aE wi g tt te) (o7 i)):=by
 intro pins s σ H D I h;rw[arm_exec_Assign];refine aHs (aJd (aHs (aKx (show swapsWithSole [.Name x d] _ f.line X.env=pure true from w) ?_)));rw[if_pos rfl];refine aHs (aHs (HJ (Q:=λv B=>D.nx (σ.set i (some v)) B) own aE hN hsc chk dB hi ho hg ht he A I h λacc C m E S r F G p J t K L q=>?_));show wpAny _ _ (assign (.Name x d) X.env (.ref acc)) _ _ _;refine PyProof.Rows.assign_Name (rJ F nd j u (v:= .ref acc) rfl (λM O k=>?_) y);obtain⟨a,P,ha⟩:=k
 have l:C≠a:=by
  rcases ha with rfl | ha
  ·exact p
  ·exact λz=>t x a ha z.symm
 refine⟨m,?_,λh' n=>aHt (aHt ⟨_,E,?_,q⟩)⟩
 ·obtain⟨o,es,ep,e,c⟩:=L;exact⟨o,es,ep,(P.2 C l).trans e,c⟩
 ·exact O.turned (t' :=M.toks) (it:=C) (λb o R e=>n.extBut b o R e) G p (.inr J) t K
structure Src where
 it:Addr
 l:Addr
 tup:Bool
def Src.At(q:Src)(h:Heap)(i:Nat):Prop:=match q.tup with | true=>h.IsTupleIter q.it q.l i | false=>h.IsListIter q.it q.l i
def Src.Sq(q:Src)(h:Heap)(items:Array Value):Prop:=match q.tup with | true=>h.IsTuple q.l items | false=>h.IsList q.l items
variable{q:Src}{h':Heap}
theorem Src.At.to(x:q.At h i)(e:∀o,h.get? q.it=some o->h'.get? q.it=some o):q.At h' i:=by
 obtain⟨it,l,t⟩:=q;cases t <;> (obtain⟨o,ho,r⟩:=x;exact⟨o,e o ho,r⟩)
theorem Src.At.obj(x:q.At h i):∃o,h.get? q.it=some o/\o.data= .fields #[.ref q.l,.int i 0]:=by
 obtain⟨it,l,t⟩:=q;cases t <;> (obtain⟨o,ho,_,r⟩:=x;exact⟨o,ho,r⟩)
variable{items:Array Value}
theorem Src.Sq.to(x:q.Sq h items)(e:∀o,h.get? q.l=some o->h'.get? q.l=some o):q.Sq h' items:=by
 obtain⟨it,l,t⟩:=q;cases t <;> (obtain⟨o,ho,r⟩:=x;exact⟨o,e o ho,r⟩)
theorem Src.Sq.obj(x:q.Sq h items):∃o n,h.get? q.l=some o/\o.data= .seq items n:=by
 obtain⟨it,l,t⟩:=q;cases t <;> (obtain⟨o,ho,_,n,r⟩:=x;exact⟨o,n,ho,r⟩)
section
variable {prog:Program}{w:World}{A:Around}{E:aLx}{s:Shared}
theorem tJ{it l:Addr}{x:Value}(c:s.heap.IsTupleIter it l i)(g:s.heap.IsTuple l items)(h:items[i]? =some x)
  (j:∀h',h'.IsTupleIter it l (i+1)->Heap.SameBut it s.heap h' ->Q x {s with heap:=h'}):wpAny (model prog w) A (Builtin.SmallTypes.nextOf (.ref it)) Q E s:=by
 obtain⟨k,b,d,a⟩:=id c;obtain⟨os,e,_,ns,f⟩:=g;unfold Builtin.SmallTypes.nextOf;refine aHs (aI8 (name:=Str.ofString "__next__") c.typeIs aJt (aI7 aJt c.typeIs F.entry_tuple_iterator_next ?_ (F.args_tuple_iterator_next_1 _)));refine aHs (m:=field (.ref it) 0) (aIc b a (x:= .ref l) rfl ?_);show wpAny _ _ (if (Value.ref l==Value.none)=true then _ else field (.ref it) 1 >>=_) _ _ s;rw[if_neg (show ¬((Value.ref l==Value.none)=true) from Bool.false_ne_true)];refine aHs (aIc b a (x:= .int i 0) rfl ?_);refine aHs (m:=seqItems? (.ref l)) (aIq e f ?_);simp only[Int.toNat_natCast,h];refine aHs (aLo b a (by simp) (aHt ⟨x,rfl,aHt (j _ ⟨_,aJ3 _ b (Obj.isFreed_of_fields (Obj.data_mapFields a _)),(Obj.cls_mapFields ..).trans d,?_⟩ (aIo ..))⟩));rw[Obj.data_mapFields a];simp[rawInt]
theorem vH{it l:Addr}(h:A.handled=none)(b:s.heap.IsTupleIter it l i)(j:s.heap.IsTuple l items)(k:items[i]? =none)
  (n:∀h' e,Heap.ExtBut it s.heap h' ->(∃o,h'.get? e=some o/\o.cls= .type "StopIteration")->E (.ref e) {s with heap:=h'}):wpAny (model prog w) A (Builtin.SmallTypes.nextOf (.ref it)) Q E s:=by
 obtain⟨q,c,p,d⟩:=id b;obtain⟨os,f,_,ns,g⟩:=j;unfold Builtin.SmallTypes.nextOf;refine aHs (aI8 (name:=Str.ofString "__next__") b.typeIs aJt (aI7 aJt b.typeIs F.entry_tuple_iterator_next ?_ (F.args_tuple_iterator_next_1 _)));refine aHs (m:=field (.ref it) 0) (aIc c d (x:= .ref l) rfl ?_);show wpAny _ _ (if (Value.ref l==Value.none)=true then _ else field (.ref it) 1 >>=_) _ _ s;rw[if_neg (show ¬((Value.ref l==Value.none)=true) from Bool.false_ne_true)];refine aHs (aIc c d (x:= .int i 0) rfl ?_);refine aHs (m:=seqItems? (.ref l)) (aIq f g ?_);simp only[Int.toNat_natCast,k];refine aHs (aJ0 (aHs (aLo c d (by simp) ?_)));refine aHs (m:=newExc (.type "StopIteration") []) ?_;simp only[newExc,newTuple];refine aHs (aIe ?_ (by size_fits));refine aHs (m:=firstArgMember _ _) (aKx (a:=Value.none) (by first | rfl | (simp only[firstArgMember];rfl)) ?_);refine aIe (?_:_) (by size_fits);simp only[raiseNew];refine aHs (wpAny_handled (?_:_))
 first | rw[show A.in1.handled=none from h] | rw[h]
 refine aHs (aHt (wpAny_throw (?_:_)));exact n _ _ (((aIo ..).extBut.push _).push _) ⟨_,aHy _ rfl,rfl⟩
theorem Src.item{x:Value}(a:q.At s.heap i)(b:q.Sq s.heap items)(c:items[i]? =some x)
  (d:∀h',q.At h' (i+1)->Heap.SameBut q.it s.heap h' ->Q x {s with heap:=h'}):wpAny (model prog w) A (Builtin.SmallTypes.nextOf (.ref q.it)) Q E s:=by
 obtain⟨it,l,t⟩:=q;cases t
 ·exact wpAny_nextOf_list_item a b c d
 ·exact tJ a b c d
theorem Src.done(b:A.handled=none)(a:q.At s.heap i)(c:q.Sq s.heap items)(d:items[i]? =none)
  (f:∀h' e,Heap.ExtBut q.it s.heap h' ->(∃o,h'.get? e=some o/\o.cls= .type "StopIteration")->E (.ref e) {s with heap:=h'}):wpAny (model prog w) A (Builtin.SmallTypes.nextOf (.ref q.it)) Q E s:=by
 obtain⟨it,l,t⟩:=q;cases t
 ·exact wpAny_nextOf_list_end b a c d f
 ·exact vH b a c d f
theorem Src.start(a:q.Sq s.heap items)
  (c:∀h',(⟨s.heap.objs.size,q.l,q.tup⟩:Src).At h' 0->h'.objs.size=s.heap.objs.size+1->(∀b o,s.heap.get? b=some o->h'.get? b=some o)->Q (.ref s.heap.objs.size) {s with heap:=h'}):wpAny (model prog w) A (pyIter (.ref q.l)) Q E s:=by
 obtain⟨it,l,t⟩:=q;cases t
 ·exact aL4 a (c _ ⟨_,aHy _ rfl,rfl,rfl⟩ (aK3 ..) λb o e=>aHu _ e)
 ·exact aKu a (c _ ⟨_,aHy _ rfl,rfl,rfl⟩ (aK3 ..) λb o e=>aHu _ e)
structure mI(h:Heap)(z TI TO:Addr)(qs:List Src)(f0:Value)(i:Nat):Prop where
 obj:h.get? z=some {cls:= .type "zip",dict:=none,data:= .fields #[f0,.bool false,.bool false,.ref TI,.ref TO],slots:= #[]}
 aL:∃n,h.get? TI=some {cls:= .type "tuple",data:= .seq (qs.map λq=>Value.ref q.it).toArray n}
 own:∃(xs:List Value) (n:Nat),xs.length=qs.length/\h.get? TO=some {cls:= .type "tuple",data:= .seq xs.toArray n}
 at_:∀q∈qs,q.At h i
structure pM(z TI TO:Addr)(qs:List Src):Prop where
 ne1:TI≠z
 ne2:TO≠z
 ne3:TI≠TO
 FQ:∀q∈qs,q.it≠z/\q.it≠TI/\q.it≠TO
 nd:(qs.map (·.it)).Nodup
 src:∀q∈qs,q.l≠z/\q.l≠TO/\∀r∈qs,q.l≠r.it
end
section
variable {prog:Program}{w:World}{A:Around}{E:aLx}{s:Shared}
structure II(h0 h:Heap)(z TI TO:Addr)(qs:List Src)(vals:List Value)(i j:Nat):Prop where
 obj:h.get? z=some {cls:= .type "zip",dict:=none,data:= .fields #[.ellipsis,.bool false,.bool false,.ref TI,.ref TO],slots:= #[]}
 own:∃(xs:List Value) (n:Nat),xs.length=qs.length/\xs.take j=vals.take j/\h.get? TO=some {cls:= .type "tuple",data:= .seq xs.toArray n}
 done:∀q∈qs.take j,q.At h (i+1)
 todo:∀q∈qs.drop j,q.At h i
 size:h.objs.size=h0.objs.size
 keep:∀c o,c≠z->c≠TO->(∀q∈qs,c≠q.it)->h0.get? c=some o->h.get? c=some o
theorem K0{z TI TO:Addr}{qs:List Src}{vals:List Value}(D:pM z TI TO qs)(Z:mI s.heap z TI TO qs .none i)(F:qs≠[])
  (hv:vals.length=qs.length) (B:∀(k:Nat) q x,qs[k]? =some q->vals[k]? =some x->∃items,q.Sq s.heap items/\items[i]? =some x) (hsz:qs.length<=sizeLine)
  (hQ:∀h',mI h' z TI TO qs (rawInt s.heap.objs.size) (i+1)->h'.get? s.heap.objs.size=some {cls:= .type "tuple",data:= .seq vals.toArray}->h'.objs.size=s.heap.objs.size+1->
   (∀c o,c≠z->c≠TO->(∀q∈qs,c≠q.it)->s.heap.get? c=some o->h'.get? c=some o)->Q (.ref s.heap.objs.size) {s with heap:=h'}):
  wpAny (model prog w) A (Builtin.«zip.__next__» ⟨[.ref z],[]⟩) (λfin s' =>∃v,fin= .done (.ret v)/\Q v s') E s:=by
 obtain⟨nI,M⟩:=Z.aL;obtain⟨xs0,n0,hx0,hTO⟩:=Z.own;refine aHs (m:=field (.ref z) 2) (aIc Z.obj rfl (x:= .bool false) rfl ?_);refine aHs (m:=field (.ref z) 3) (aIc Z.obj rfl (x:= .ref TI) rfl ?_);refine aHs (m:=seqItems? (.ref TI)) (aIq M rfl ?_)
 have N:(qs.map λq=>Value.ref q.it).toArray.isEmpty=false:=by cases qs with | nil=>exact absurd rfl F | cons a r=>rfl
 simp only[N];refine aHs (m:=Builtin.SmallTypes.ownedTupleIsFree (.ref z)) ?_;refine aHs (m:=field (.ref z) 0) (aIc Z.obj rfl (x:= .none) rfl (aHt ?_));simp only[if_true];refine aHs (aJ0 ?_);refine aHs (aIc Z.obj rfl (x:= .ref TO) rfl ?_);refine aHs (aI6 Z.obj (by simp) λh1 z1 l=>?_);refine aHs ?_;refine wpAny_forIn_list _ (λC b s' =>b.1=none/\∃j h',s' ={s with heap:=h'}/\C=((qs.map λq=>Value.ref q.it).zipIdx).drop j/\j<=qs.length/\II s.heap h' z TI TO qs vals i j) _ ?turn ?fin _ _ ?start
 case start=>
  refine⟨rfl,0,h1,rfl,by simp,aIx _,?_⟩;refine⟨z1,⟨xs0,n0,hx0,by simp,l.extBut _ _ D.ne2 hTO⟩,by simp,λq B=>?_,l.1,λc o f _ _ e=>l.extBut _ _ f e⟩;have O :q∈qs:=by simpa using B
  exact(Z.at_ q O).to λo e=>l.extBut _ _ (D.FQ q O).1 e
 case turn=>
  rintro x C b s5 ⟨hb,j,h',rfl,hd,hj,d⟩
  have g:j<qs.length:=by
   refine Nat.lt_of_not_le λhle=>?_;rw[List.drop_eq_nil_of_le (by simpa using hle)]at hd;cases hd
  have P :=hd;rw[List.drop_eq_getElem_cons (by simpa using g)]at P;injection P with ex er;have R:x=(Value.ref qs[j].it,j):=by rw[ex];simp
  have h:qs[j]? =some qs[j]:=aIm g;have G:vals[j]? =some vals[j]:=aIm (by lia);generalize hqq:qs[j]=q at h R;generalize hvv:vals[j]'(by lia)=v at G;subst R;have H:q∈qs:=aI2 h;obtain⟨items,hSq,hit⟩:=B j q v h G;obtain⟨l1,l2,l3⟩:=D.src q H;have S :q.Sq h' items:=hSq.to λo e=>d.keep _ o l1 l2 l3 e;have hAt:q.At h' i:=d.todo q (by rw[List.drop_eq_getElem_cons g,hqq];exact aHx);refine aHs (aKb ?_);show wpAny _ _ (Builtin.SmallTypes.nextOf (.ref q.it) >>=_) _ _ _;refine aHs (Src.item (s:={s with heap:=h'}) hAt S hit λX at2 I=>aHt ?_);obtain⟨xs,n,t,u,Y⟩:=d.own;have J:=D.FQ q H;have K:X.get? TO=some {cls:= .type "tuple",data:= .seq xs.toArray n}:=I.extBut _ _ (aIg J.2.2) Y;refine aHs (m:=seqItems? (.ref TO)) (aIq K rfl ?_);refine aHs (aJf K rfl ?_);refine aHs (aJr (aHt ?_))
  have apart:∀(k:Nat) p,qs[k]? =some p->k≠j->p.it≠q.it:=λk p hk F e=>by
   have h1:(qs.map (·.it))[k]? =some q.it:=by rw[List.getElem?_map,hk];simp[e]
   have X:(qs.map (·.it))[j]? =some q.it:=by rw[List.getElem?_map,h];rfl
   obtain⟨a1,b1⟩:=aHv.mp h1;obtain⟨a2,b2⟩:=aHv.mp X;refine F ?_;have pw:=aKj.mp D.nd;rcases Nat.lt_trichotomy k j with hlt | heq | hlt
   ·exact absurd (b1.trans b2.symm) (pw k j a1 a2 hlt)
   ·exact heq
   ·exact absurd (b2.trans b1.symm) (pw j k a2 a1 hlt)
  have up:∀c o,c≠TO->c≠q.it->h'.get? c=some o->(X.update TO (Obj.mapSeq λx=>x.setIfInBounds j v)).get? c=some o:=λc o f L e=>(aIo ..).extBut _ _ f (I.extBut _ _ L e);refine⟨rfl,j+1,_,rfl,er,g,⟨up _ _ (aIg D.ne2) (aIg J.1) d.obj,⟨xs.set j v,n,by simpa using t,?_,?_⟩,λp T=>?_,λp T=>?_,?_,λc o f L c3 e=>up c o L (c3 q H) (d.keep c o f L c3 e)⟩⟩
  ·have U :vals[j]? =some v:=G;have hjx:j<xs.length:=by lia
   rw[List.take_add_one,List.take_add_one,U,List.getElem?_set_self hjx,List.take_set_of_le (Nat.le_refl j),u]
  ·rw[Heap.get?_update_self _ K (by rfl)];simp[Obj.mapSeq]
  ·rw[List.take_add_one,h]at T;rcases aI9.mp T with z | z
   ·obtain⟨k,hk⟩:=aKh z
    have hkj:k<j:=by
     have:=(aHv.mp hk).1;rw[List.length_take]at this;lia
    rw[List.getElem?_take_of_lt hkj]at hk;exact(d.done p z).to λo e=>up _ o (D.FQ p (aI2 hk)).2.2 (apart k p hk (by lia)) e
   ·have:p=q:=by simpa using z
    subst this;exact at2.to λo e=>(aIo ..).extBut _ _ J.2.2 e
  ·obtain⟨k,hk⟩:=aKh T;rw[List.getElem?_drop]at hk;have hp' :p∈qs.drop j:=by rw[List.drop_eq_getElem_cons g];exact aI0 _ T
   exact(d.todo p hp').to λo e=>up _ o (D.FQ p (aI2 hk)).2.2 (apart _ p hk (by lia)) e
  ·rw[Heap.size_update,I.1];exact d.size
 case fin=>
  rintro⟨b1,b2⟩ s5 ⟨hb,j,h',rfl,hd,hj,d⟩
  have hje:j=qs.length:=by
   have:=aJ7 List.length hd;simp at this
   lia
  subst hje;have hb' :b1=none:=hb;subst hb';obtain⟨xs,n,t,u,Y⟩:=d.own
  have hxv:xs=vals:=by
   rw[List.take_of_length_le (by lia),List.take_of_length_le (by lia)]at u;exact u
  subst hxv;refine aHs (m:=seqItems? (.ref TO)) (aIq Y rfl ?_);refine aHs (aJn ?_ (by simpa using aIa (aLu t) hsz));refine aHs (m:=Builtin.SmallTypes.ownedTupleHandOut (.ref z) (.ref h'.objs.size)) ?_;have z5:(h'.push {cls:= .type "tuple",data:= .seq xs.toArray}).get? z=some {cls:= .type "zip",dict:=none,data:= .fields #[.ellipsis,.bool false,.bool false,.ref TI,.ref TO],slots:= #[]}:=aHu _ d.obj;refine aHs (aI6 z5 (by simp) λh7 z7 V=>?_);refine aI6 z7 (by simp) λh8 z8 W=>aHt ⟨_,rfl,?_⟩;have zlt:z<h'.objs.size:=aHz d.obj;have up:∀c o,c≠z->(h'.push {cls:= .type "tuple",data:= .seq xs.toArray}).get? c=some o->h8.get? c=some o:=λc o f e=>W.extBut _ _ f (V.extBut _ _ f e);have y:∀c o,c≠z->h'.get? c=some o->h8.get? c=some o:=λc o f e=>up c o f (aHu _ e);show Q (.ref h'.objs.size) _;have hs:=d.size;rw[hs];refine hQ h8 ⟨?_,⟨nI,?_⟩,⟨xs,n,t,y _ _ D.ne2 Y⟩,λq B=>?_⟩ ?_ ?_ λc o f L c3 e=>y c o f (d.keep c o f L c3 e)
  ·rw[z8,hs];rfl
  ·exact y _ _ D.ne1 (d.keep _ _ D.ne1 D.ne3 (λq B=>aIg (D.FQ q B).2.1) M)
  ·exact(d.done q (by rw[List.take_length];exact B)).to λo e=>y _ o (D.FQ q B).1 e
  ·rw[<-hs];exact up _ _ (aJ4 zlt) (aHy _ rfl)
  ·rw[W.1,V.1,Heap.size_push,hs]
end
section
variable {prog:Program}{w:World}{A:Around}{E:aLx}{s:Shared}
variable{qs:List Src}
theorem QY{z TI TO:Addr}{i k:Nat}{Q:PySem.Fin->Shared->Prop}(hh:A.handled=none)(D:pM z TI TO qs)(Z:mI s.heap z TI TO qs .none i)
  (W:∀(j:Nat) q,qs[j]? =some q->j<k->∃items x,q.Sq s.heap items/\items[i]? =some x) (hk:∃q items,qs[k]? =some q/\q.Sq s.heap items/\items[i]? =none) (hsz:qs.length<=sizeLine)
  (hE:∀h' e,(∀c o,c≠z->c≠TO->(∀q∈qs,c≠q.it)->s.heap.get? c=some o->h'.get? c=some o)->(∃o,h'.get? e=some o/\o.cls= .type "StopIteration")->E (.ref e) {s with heap:=h'}):
  wpAny (model prog w) A (Builtin.«zip.__next__» ⟨[.ref z],[]⟩) Q E s:=by
 obtain⟨nI,X⟩:=Z.aL;obtain⟨J,n0,Y,hTO⟩:=Z.own;obtain⟨qk,V,K,hSk,hik⟩:=hk;have hkl:k<qs.length:=(aHv.mp K).1;refine aHs (m:=field (.ref z) 2) (aIc Z.obj rfl (x:= .bool false) rfl ?_);refine aHs (m:=field (.ref z) 3) (aIc Z.obj rfl (x:= .ref TI) rfl ?_);refine aHs (m:=seqItems? (.ref TI)) (aIq X rfl ?_)
 have L:(qs.map λq=>Value.ref q.it).toArray.isEmpty=false:=by cases qs with | nil=>simp at hkl | cons a r=>rfl
 simp only[L];refine aHs (m:=Builtin.SmallTypes.ownedTupleIsFree (.ref z)) ?_;refine aHs (m:=field (.ref z) 0) (aIc Z.obj rfl (x:= .none) rfl (aHt ?_));simp only[if_true];refine aHs (aJ0 ?_);refine aHs (aIc Z.obj rfl (x:= .ref TO) rfl ?_);refine aHs (aI6 Z.obj (by simp) λh1 z1 l=>?_);refine aHs ?_;refine wpAny_forIn_list _ (λB b s' =>∃j h' vals,s' ={s with heap:=h'}/\B=((qs.map λq=>Value.ref q.it).zipIdx).drop j/\j<=k/\II s.heap h' z TI TO qs vals i j) _ ?turn ?fin _ _ ?start
 case start=>
  refine⟨0,h1,J,rfl,by simp,aIx _,?_⟩;refine⟨z1,⟨J,n0,Y,by simp,l.extBut _ _ D.ne2 hTO⟩,by simp,λq W=>?_,l.1,λc o C _ _ e=>l.extBut _ _ C e⟩;have M :q∈qs:=by simpa using W
  exact(Z.at_ q M).to λo e=>l.extBut _ _ (D.FQ q M).1 e
 case fin=>
  rintro b s5 ⟨j,h',vals,rfl,hd,hj,g⟩;have:=aJ7 List.length hd;simp at this
  lia
 case turn=>
  rintro x B b s5 ⟨j,h',vals,rfl,hd,hj,g⟩;have t:j<qs.length:=by lia
  have N :=hd;rw[List.drop_eq_getElem_cons (by simpa using t)]at N;injection N with ex er;have O:x=(Value.ref qs[j].it,j):=by rw[ex];simp
  have d:qs[j]? =some qs[j]:=aIm t;generalize hqq:qs[j]=q at d O;subst O;have u:q∈qs:=aI2 d;have y:=D.FQ q u;obtain⟨l1,l2,l3⟩:=D.src q u;have P:q.At h' i:=g.todo q (by rw[List.drop_eq_getElem_cons t,hqq];exact aHx);refine aHs (aKb ?_);show wpAny _ _ (Builtin.SmallTypes.nextOf (.ref q.it) >>=_) _ _ _;by_cases hjk:j=k
  ·subst hjk;obtain rfl:qk=q:=(aIn (d.symm.trans K)).symm;have h :=hSk.to (h' :=h') λo e=>g.keep _ o l1 l2 l3 e;refine aHs (Src.done (s:={s with heap:=h'}) hh P h hik λH e f he=>?_);obtain⟨oe,F,R⟩:=he;have z2:H.get? z=some {cls:= .type "zip",dict:=none,data:= .fields #[.ellipsis,.bool false,.bool false,.ref TI,.ref TO],slots:= #[]}:=f _ _ (aIg y.1) g.obj;have hez:e≠z:=λx=>by subst x;rw[z2]at F;cases F;simp at R
   refine aI6 z2 (by simp) λh3 _ S=>hE h3 e (λc o C I T q' =>S.extBut _ _ C (f _ _ (T _ u) (g.keep c o C I T q'))) ⟨oe,S.extBut _ _ hez F,R⟩
  ·obtain⟨items,v,hSq,hit⟩:=W j q d (by lia);have h :q.Sq h' items:=hSq.to λo e=>g.keep _ o l1 l2 l3 e;refine aHs (Src.item (s:={s with heap:=h'}) P h hit λH at2 f=>aHt ?_);obtain⟨xs,n,hxl,hxt,hO⟩:=g.own;have G:H.get? TO=some {cls:= .type "tuple",data:= .seq xs.toArray n}:=f.extBut _ _ (aIg y.2.2) hO;refine aHs (m:=seqItems? (.ref TO)) (aIq G rfl ?_);refine aHs (aJf G rfl ?_);refine aHs (aJr (aHt ?_))
   have apart:∀(k:Nat) p,qs[k]? =some p->k≠j->p.it≠q.it:=λk p hk hne e=>by
    have h1:(qs.map (·.it))[k]? =some q.it:=by rw[List.getElem?_map,hk];simp[e]
    have H:(qs.map (·.it))[j]? =some q.it:=by rw[List.getElem?_map,d];rfl
    obtain⟨a1,b1⟩:=aHv.mp h1;obtain⟨a2,b2⟩:=aHv.mp H;refine hne ?_;have pw:=aKj.mp D.nd;rcases Nat.lt_trichotomy k j with hlt | heq | hlt
    ·exact absurd (b1.trans b2.symm) (pw k j a1 a2 hlt)
    ·exact heq
    ·exact absurd (b2.trans b1.symm) (pw j k a2 a1 hlt)
   have up:∀c o,c≠TO->c≠q.it->h'.get? c=some o->(H.update TO (Obj.mapSeq λx=>x.setIfInBounds j v)).get? c=some o:=λc o C I e=>(aIo ..).extBut _ _ C (f.extBut _ _ I e);refine⟨j+1,_,xs.set j v,rfl,er,by lia,⟨up _ _ (aIg D.ne2) (aIg y.1) g.obj,⟨xs.set j v,n,by simpa using hxl,rfl,?_⟩,λp U=>?_,λp U=>?_,?_,λc o C I T e=>up c o I (T q u) (g.keep c o C I T e)⟩⟩
   ·rw[Heap.get?_update_self _ G (by rfl)];simp[Obj.mapSeq]
   ·rw[List.take_add_one,d]at U;rcases aI9.mp U with z | z
    ·obtain⟨k,hk⟩:=aKh z
     have hkj:k<j:=by
      have:=(aHv.mp hk).1;rw[List.length_take]at this;lia
     rw[List.getElem?_take_of_lt hkj]at hk;exact(g.done p z).to λo e=>up _ o (D.FQ p (aI2 hk)).2.2 (apart k p hk (by lia)) e
    ·have:p=q:=by simpa using z
     subst this;exact at2.to λo e=>(aIo ..).extBut _ _ y.2.2 e
   ·obtain⟨k,hk⟩:=aKh U;rw[List.getElem?_drop]at hk;have hp' :p∈qs.drop j:=by rw[List.drop_eq_getElem_cons t];exact aI0 _ U
    exact(g.todo p hp').to λo e=>up _ o (D.FQ p (aI2 hk)).2.2 (apart _ p hk (by lia)) e
   ·rw[Heap.size_update,f.1];exact g.size
variable{Q:Option Value->Shared->Prop}
theorem xI{z TI TO:Addr}{vals:List Value}(D:pM z TI TO qs)(Z:mI s.heap z TI TO qs .none i)(a:qs≠[])
  (hv:vals.length=qs.length) (d:∀(k:Nat) q x,qs[k]? =some q->vals[k]? =some x->∃items,q.Sq s.heap items/\items[i]? =some x) (hsz:qs.length<=sizeLine)
  (e:∀h',mI h' z TI TO qs (rawInt s.heap.objs.size) (i+1)->h'.get? s.heap.objs.size=some {cls:= .type "tuple",data:= .seq vals.toArray}->h'.objs.size=s.heap.objs.size+1->
   (∀c o,c≠z->c≠TO->(∀q∈qs,c≠q.it)->s.heap.get? c=some o->h'.get? c=some o)->Q (some (.ref s.heap.objs.size)) {s with heap:=h'}):
  wpAny (model prog w) A (pyNext (.ref z)) Q E s:=by
 have b:s.TypeIs (.ref z) "zip":=⟨_,Z.obj,rfl⟩
 unfold pyNext
 exact aHs (aJ5 (aI8 (name:=Str.ofString "__next__") b aIu (aI7 aIu b aK4
  (K0 D Z a hv d hsz λh' f g h j=>aHt (e h' f g h j)) (aK1 _))))
theorem AD{z TI TO:Addr}{i k:Nat}(d:A.handled=none)(D:pM z TI TO qs)(Z:mI s.heap z TI TO qs .none i)
  (f:∀(j:Nat) q,qs[j]? =some q->j<k->∃items x,q.Sq s.heap items/\items[i]? =some x) (hk:∃q items,qs[k]? =some q/\q.Sq s.heap items/\items[i]? =none) (hsz:qs.length<=sizeLine)
  (g:∀h',(∀c o,c≠z->c≠TO->(∀q∈qs,c≠q.it)->s.heap.get? c=some o->h'.get? c=some o)->Q none {s with heap:=h'}):wpAny (model prog w) A (pyNext (.ref z)) Q E s:=by
 have a:s.TypeIs (.ref z) "zip":=⟨_,Z.obj,rfl⟩
 unfold pyNext
 refine aHs (aJ5 (aI8 (name:=Str.ofString "__next__") a aIu (aI7 aIu a aK4
  (QY d D Z f hk hsz λh' e kp he=>?_) (aK1 _))))
 obtain⟨o,ho,h⟩:=he;refine aHs (aJs (T:= "StopIteration") (b:=true) ⟨o,ho,h⟩ aL5 ?_);exact aHt (g _ kp)
theorem aA2{elts:List Expr}{x1}{pos:Pos}{z TI TO T:Addr}{Q:Unit->Shared->Prop}(D:pM z TI TO qs)(Z:mI s.heap z TI TO qs (rawInt T) i)
  (d:∀h',mI h' z TI TO qs .none i->Heap.SameBut z s.heap h' ->Q () {s with heap:=h'}):wpAny (model prog w) A (letOwnedTupleGo (.Tuple elts x1 pos) (.ref z) (.ref T)) Q E s:=by
 unfold letOwnedTupleGo;refine aHs (aLk Z.obj ?_);show wpAny _ _ (if (["enumerate","zip","dict_itemiterator","dict_reverseitemiterator","odict_iterator","itertools.zip_longest","itertools.pairwise"].contains "zip" && (#[rawInt T,.bool false,.bool false,.ref TI,.ref TO]:Array Value)[0]? ==some (rawInt T))=true then _ else _) Q E s;rw[if_pos (by simp)];refine aHs (aJ0 ?_);show wpAny _ _ (setField (.ref z) 0 .none) Q E s;refine aI6 Z.obj (by simp) λh' b a=>d h' ⟨b,?_,?_,λq c=>(Z.at_ q c).to λo e=>a.extBut _ _ (D.FQ q c).1 e⟩ a
 ·obtain⟨n,e⟩:=Z.aL;exact⟨n,a.extBut _ _ D.ne1 e⟩
 ·obtain⟨xs,n,l,e⟩:=Z.own;exact⟨xs,n,l,a.extBut _ _ D.ne2 e⟩
theorem DA{z TI TO:Addr}{f0:Value}{Q:aLx}(Z:mI s.heap z TI TO qs f0 i)(h:Q (.ref z) s):wpAny (model prog w) A (pyIter (.ref z)) Q E s:=by
 have a:s.TypeIs (.ref z) "zip":=⟨_,Z.obj,rfl⟩
 refine aJi a aKa (aI7 aKa a F.entry_zip_iter ?_ (F.args_zip_iter_1 _));exact aHt ⟨_,rfl,"zip",_,a,aIu.lookup,h⟩
end
section
variable {prog:Program}{w:World}{A:Around}{E:aLx}{s:Shared}
def bF:Nat->List Src->List Src
 | _,[]=>[]
 | n,q::r=>⟨n,q.l,q.tup⟩::bF (n+1) r
theorem jU:∀(n:Nat) (qs:List Src),(bF n qs).length=qs.length
 | _,[]=>rfl
 | n,_::r=>by simp[bF,jU (n+1) r]
theorem fZ:∀{n:Nat} {qs:List Src} {p:Src},p∈bF n qs->n<=p.it/\p.it<n+qs.length/\∃q∈qs,p.l=q.l/\p.tup=q.tup
 | n,q::r,p,h=>by
  rcases aI5.mp h with rfl | h
  ·exact⟨aHw _,by simp,q,aHx,rfl,rfl⟩
  ·obtain⟨a,b,c,d,e⟩:=fZ h;exact⟨Nat.le_of_succ_le a,Nat.lt_of_lt_of_eq b (by simp only[List.length_cons];lia),c,aI0 _ d,e⟩
theorem qP:∀(n:Nat) (qs:List Src),((bF n qs).map (·.it)).Nodup
 | _,[]=>by simp[bF]
 | n,q::r=>by
  simp only[bF,List.map_cons,List.nodup_cons];refine⟨λh=>?_,qP (n+1) r⟩;obtain⟨p,a,e⟩:=aI1.mp h;have b:=(fZ a).1;have c :p.it=n:=e;exact absurd b (by rw[c];exact Nat.not_succ_le_self n)
theorem sW{Q:Array Value->Shared->Prop}:∀(qs:List Src) (acc:Array Value) (s:Shared),(∀q∈qs,∃items,q.Sq s.heap items)->
  (∀h',h'.objs.size=s.heap.objs.size+qs.length->(∀b o,s.heap.get? b=some o->h'.get? b=some o)->(∀p∈bF s.heap.objs.size qs,p.At h' 0)->Q (acc++((bF s.heap.objs.size qs).map λp=>Value.ref p.it).toArray) {s with heap:=h'})->
  wpAny (model prog w) A (forIn (qs.map λq=>Value.ref q.l) acc λx aL=>do let r<-holding aL.toList (pyIter x);pure (ForInStep.yield (aL.push r))) Q E s
 | [],acc,s,_,hQ=>by
  have:=hQ s.heap (by simp) (λ_ _ e=>e) (by simp[bF]);simp only[List.map_nil,List.forIn_nil];refine aHt ?_;simpa[bF] using this
 | q::r,acc,s,hs,hQ=>by
  obtain⟨items,k⟩:=hs q aHx;simp only[List.map_cons,List.forIn_cons];refine aHs (aHs (aIj (Src.start k λh' g sz kp=>aHt ?_)));refine sW r (acc.push (.ref s.heap.objs.size)) {s with heap:=h'} (λm h =>?_) λf i a at2=>?_
  ·obtain⟨j,n⟩:=hs m (aI0 _ h);exact⟨j,n.to λo e=>kp _ o e⟩
  ·have t:f.objs.size=s.heap.objs.size+(q::r).length:=by
    have:f.objs.size=h'.objs.size+r.length:=i;rw[this,sz,List.length_cons];lia
   have c :h'.objs.size=s.heap.objs.size+1:=sz;have d :∀p∈bF (s.heap.objs.size+1) r,p.At f 0:=by rw[<-c];exact at2
   have:=hQ f t (λb o e=>a b o (kp b o e)) (λp hp=>by
    rcases aI5.mp hp with rfl | hp
    ·exact g.to λo e=>a _ o e
    ·exact d p hp)
   have u:(acc.push (.ref s.heap.objs.size)++((bF h'.objs.size r).map λp=>Value.ref p.it).toArray)=(acc++((bF s.heap.objs.size (q::r)).map λp=>Value.ref p.it).toArray):=by
    rw[c];simp[bF]
   show Q (acc.push (.ref s.heap.objs.size)++((bF h'.objs.size r).map λp=>Value.ref p.it).toArray) _;rw[u];exact this
theorem UU:(5:Nat)<=sizeLine+2:=Nat.add_le_add_right (by decide:3<=sizeLine) 2
theorem FG(qs:List Src)(hsz:qs.length<=sizeLine):Meets (Builtin.«zip.__new__» ⟨.type "zip"::(qs.map λq=>Value.ref q.l),[]⟩) (λ_ R s=>(∀q∈qs,∃items,q.Sq s.heap items)/\
   ∀h' z TI TO,s.heap.objs.size+qs.length<=TI->TI≠TO->TI≠z->TO≠z->s.heap.objs.size+qs.length<=TO->s.heap.objs.size+qs.length<=z->mI h' z TI TO (bF s.heap.objs.size qs) .none 0->(∀b o,s.heap.get? b=some o->h'.get? b=some o)->R (.ok (.ret (.ref z))) {s with heap:=h'}):=
 .of_wp λprog w A R s h=>by
  obtain⟨r,i⟩:=h;unfold Builtin.«zip.__new__»;have j:=sub_zip;refine aHs (m:=Builtin.SmallTypes.newClass "zip" _) ?_;unfold Builtin.SmallTypes.newClass
  wp_walk
  refine sW qs #[] s r λh' sz kp a =>?_;have d:(bF s.heap.objs.size qs).length=qs.length:=jU _ _;have t:((#[]:Array Value)++((bF s.heap.objs.size qs).map λp=>Value.ref p.it).toArray).toList=(bF s.heap.objs.size qs).map λp=>Value.ref p.it:=by simp
  refine aHt ?_;simp only[t];refine aHs (aJn ?_ (by simp[d];exact hsz));refine aHs (aJn ?_ (by simp[d];exact hsz));unfold Builtin.SmallTypes.newRecord;dsimp only;refine aHs (aIe ?_ UU);refine aHt ⟨_,rfl,?_⟩;generalize f:bF s.heap.objs.size qs=ls at d a i⊢;have u:(h'.push {cls:= .type "tuple",data:= .seq ((ls.map λp=>Value.ref p.it).toArray)}).objs.size=h'.objs.size+1:=aK3 ..;have k:(h'.push {cls:= .type "tuple",data:= .seq ((ls.map λp=>Value.ref p.it).toArray)}).get? h'.objs.size=some _:=aHy _ rfl;have g:∀b o,h'.get? b=some o->(h'.push {cls:= .type "tuple",data:= .seq ((ls.map λp=>Value.ref p.it).toArray)}).get? b=some o:=λb o e=>aHu _ e;generalize v:h'.push {cls:= .type "tuple",data:= .seq ((ls.map λp=>Value.ref p.it).toArray)}=h1 at u k g⊢;have y:(h1.push {cls:= .type "tuple",data:= .seq ((List.map (λx=>Value.none) (ls.map λp=>Value.ref p.it)).toArray)}).objs.size=h1.objs.size+1:=aK3 ..;have n:(h1.push {cls:= .type "tuple",data:= .seq ((List.map (λx=>Value.none) (ls.map λp=>Value.ref p.it)).toArray)}).get? h1.objs.size=some _:=aHy _ rfl;have c:∀b o,h1.get? b=some o->(h1.push {cls:= .type "tuple",data:= .seq ((List.map (λx=>Value.none) (ls.map λp=>Value.ref p.it)).toArray)}).get? b=some o:=λb o e=>aHu _ e;generalize B:h1.push {cls:= .type "tuple",data:= .seq ((List.map (λx=>Value.none) (ls.map λp=>Value.ref p.it)).toArray)}=h2 at y n c⊢;refine i _ h2.objs.size h'.objs.size h1.objs.size (by lia) (by lia) (by lia) (by lia) (by lia) (by lia) ⟨?_,⟨0,?_⟩,⟨List.map (λx=>Value.none) (ls.map λp=>Value.ref p.it),0,by simp[f],?_⟩,λq C=>?_⟩ λb o e=>aHu _ (c _ _ (g _ _ (kp b o e)))
  ·exact aHy _ rfl
  ·exact aHu _ (c _ _ k)
  ·exact aHu _ n
  ·exact(a q C).to λo e=>aHu _ (c _ _ (g _ _ e))
theorem sE{qs:List Src}(hsz:qs.length<=sizeLine)(k:checkTypeCall "zip" ⟨qs.map λq=>Value.ref q.l,[]⟩=pure ())(hN:checkBuiltinCall "zip.__new__" ⟨.type "zip"::qs.map λq=>Value.ref q.l,[]⟩=pure ())
  (m:∀obj,argsOk "object.__init__" ⟨obj::qs.map λq=>Value.ref q.l,[]⟩) (g:∀q∈qs,∃items,q.Sq s.heap items)
  (h:∀h' z TI TO,s.heap.objs.size<=TI->s.heap.objs.size<=TO->s.heap.objs.size<=z->pM z TI TO (bF s.heap.objs.size qs)->mI h' z TI TO (bF s.heap.objs.size qs) .none 0->(∀b o,s.heap.get? b=some o->h'.get? b=some o)->Q (.ref z) {s with heap:=h'}):
  wpAny (model prog w) A (call (.type "zip") (qs.map λq=>Value.ref q.l)) Q E s:=by
 refine callType_new F.called_zip (by decide) k hN m F.entry_zip_new (FG qs hsz) ⟨g,λh' z TI TO p t u v i j Z kp=>?_⟩;refine⟨⟨_,Z.obj,rfl⟩,h h' z TI TO (by lia) (by lia) (by lia) ⟨u,v,t,λq d=>?_,qP _ _,λq d=>?_⟩ Z kp⟩
 ·obtain⟨x,c,_⟩:=fZ d;exact⟨aI4 (aIb c j),aI4 (aIb c p),aI4 (aIb c i)⟩
 ·obtain⟨x,c,y,e,B,_⟩:=fZ d;obtain⟨items,f⟩:=g y e;obtain⟨o,n,ho,_⟩:=f.obj;have a:q.l<s.heap.objs.size:=by rw[B];exact aHz ho
  exact⟨aI4 (aIb a (aIa (Nat.le_add_right _ _) j)),aI4 (aIb a (aIa (Nat.le_add_right _ _) i)),λr C=>aI4 (aIb a (fZ C).1)⟩
end
def rD(K:aLw)(H:Hp)(t:Bool)(a:Addr)(xs:List V):Prop:=match t with | true=>uL K H a xs | false=>rB K H a xs
def Itz(K:aLw)(src:List (Addr×Bool)):It where
 go:=λi H=>∃vs:List V,vs.length=src.length/\∀(k:Nat) a t v,src[k]? =some (a,t)->vs[k]? =some v->∃xs,rD K H t a xs/\xs[i]? =some v
 QZ:=λi H x H' =>∃p vs,H p=none/\x= .ref p/\H' =upd H p (.tup vs)/\vs.length=src.length/\∀(k:Nat) a t v,src[k]? =some (a,t)->vs[k]? =some v->∀xs,rD K H t a xs->xs[i]? =some v
 stop:=λi H=>∃(k:Nat) (a:Addr) (t:Bool) (xs:List V),src[k]? =some (a,t)/\rD K H t a xs/\xs.length<=i/\∀(j:Nat) b u,j<k->src[j]? =some (b,u)->∃c,rD K H u b c/\i<c.length
section
variable {X:Cx}{pins:List (Addr×Obj)}{σ:St}{H:Hp}{s:Shared}
theorem Inv.BW{t:Bool}{a:Addr}{xs:List V}(I:Inv X pins σ H s)(h:rD X.K H t a xs):∃aL:List Value,Vals xs aL/\∀it,(⟨it,a,t⟩:Src).Sq s.heap aL.toArray:=by
 cases t with
 | true=>obtain⟨aL,r,p,_⟩:=I.tuple h;exact⟨aL,r,λ_=>p⟩
 | false=>obtain⟨aL,r,p,_⟩:=I.list h;exact⟨aL,r,λ_=>p.isList⟩
theorem Inv.nX{t:Bool}{a:Addr}{xs b:List V}(I:Inv X pins σ H s)(h:rD X.K H t a xs)(h' :rD X.K H t a b):xs=b:=by
 cases t with
 | true=>exact I.yB h h'
 | false=>exact I.C3 h h'
theorem Inv.DM{fp:List Addr}{t' :Nat}{p:Addr}{o:HO}(I:Inv X pins σ H s)(d:∀b∈fp,pO X pins H b)(k:∀b o,b∉fp->s.heap.get? b=some o->h'.get? b=some o)
  (h:s.heap.objs.size<=p) (new:cV X.prog X.w (upd H p o) h' p o):Inv X pins σ (upd H p o) {s with heap:=h',toks:=t'}:=by
 have f:H p=none:=I.bJ.fresh h;have g:∀b u,H b=some u->b∉fp:=λb u e z=>by rw[(d b z).1]at e;cases e
 refine I.step (g' :=s.gens) (d' :=s.drawn) (ch:=fp) (λb a=>⟨(d b a).2.2.2.1,(d b a).2.1,(d b a).2.2.2.2.1,(d b a).2.2.2.2.2⟩) (λb o _ _ hc e _=>k b o hc e) (λb o _ _ hc e _=>⟨o.slots,k b o hc e⟩)
  (λb o _ e n=>by rw[aO (Nat.ne_of_lt (Nat.lt_of_lt_of_le (Heap.lt_size e) h))];exact n) (λb o hc e=>⟨o,k b o hc e⟩) (λb xs e=>by rw[aO (bR e f)];exact e) (λb o u e=>by rw[aO (bR e f)];exact e)
  (λb ps e=>⟨#[],by rw[aO (bR e f),e];simp⟩) (λm i=>?_) (λb u e=>?_) I.bare
 ·obtain⟨o,es,ep,ho,r⟩:=i;exact⟨o,es,ep,k _ o (λz=>(d _ z).2.1 rfl) ho,r⟩
 ·by_cases a:b=p
  ·subst a;rw[aR]at e;cases e;exact new
  ·rw[aO a]at e;refine(I.bJ b u e).xE (λc v hc q=>k c v ?_ q) (λc q=>by rw[aO (bR q f)];exact q) λc xs q=>by rw[aO (bR q f)];exact q
   rcases hc with rfl | hc
   ·exact g _ u e
   ·exact g _ _ hc
theorem Inv.A3{fp:List Addr}{t' :Nat}(I:Inv X pins σ H s)(a:∀b∈fp,pO X pins H b)(k:∀b o,b∉fp->s.heap.get? b=some o->h'.get? b=some o):Inv X pins σ H {s with heap:=h',toks:=t'}:=by
 have d:∀b u,H b=some u->b∉fp:=λb u e z=>by rw[(a b z).1]at e;cases e
 refine I.step (g' :=s.gens) (d' :=s.drawn) (ch:=fp) (λb f=>⟨(a b f).2.2.2.1,(a b f).2.1,(a b f).2.2.2.2.1,(a b f).2.2.2.2.2⟩) (λb o _ _ hc e _=>k b o hc e) (λb o _ _ hc e _=>⟨o.slots,k b o hc e⟩)
  (λb o _ e n=>n) (λb o hc e=>⟨o,k b o hc e⟩) (λb xs e=>e) (λb o u e=>e) (λb ps e=>⟨#[],by rw[e];simp⟩) (λm g=>?_) (λb u e=>?_) I.bare
 ·obtain⟨o,es,ep,ho,r⟩:=g;exact⟨o,es,ep,k _ o (λz=>(a _ z).2.1 rfl) ho,r⟩
 ·refine(I.bJ b u e).xE (λc v hc q=>k c v ?_ q) (λ_ q=>q) λ_ _ q=>q;rcases hc with rfl | hc
  ·exact d _ u e
  ·exact d _ _ hc
end
theorem V9{P:Nat->Value->Prop}:∀{vs:List V},(∀(k:Nat) v,vs[k]? =some v->∃u,RelV v u/\P k u)->∃us,Vals vs us/\∀(k:Nat) u,us[k]? =some u->P k u
 | [],_=>⟨[],.nil,λk u e=>by simp at e⟩
 | v::r,h=>by
  obtain⟨u,a,b⟩:=h 0 v rfl;obtain⟨us,c,ps⟩:=V9 (P:=λk u=>P (k+1) u) (vs:=r) λk v e=>h (k+1) v (by simpa using e);refine⟨u::us,.cons a c,λk w e=>?_⟩
  cases k with
  | zero=>simp at e;subst e;exact b
  | succ k=>exact ps k w (by simpa using e)
theorem K9{K:aLw}{elts:List Expr}{x1}{pos:Pos}{z TI TO:Addr}{qs:List Src}(D:pM z TI TO qs)(C:qs≠[])(hsz:qs.length<=sizeLine):
  Turn P w K (.Tuple elts x1 pos) (Itz K (qs.map λq=>(q.l,q.tup))) (z::TI::TO::qs.map (·.it)) z (λi h=>mI h z TI TO qs .none i) where
 mem:=aHx
 obj:=λi h Z b hb=>by
  rcases aI5.mp hb with rfl | hb
  ·exact⟨_,Z.obj,λv e=>by cases e⟩
  rcases aI5.mp hb with rfl | hb
  ·obtain⟨n,e⟩:=Z.aL;exact⟨_,e,λv e=>by cases e⟩
  rcases aI5.mp hb with rfl | hb
  ·obtain⟨xs,n,_,e⟩:=Z.own;exact⟨_,e,λv e=>by cases e⟩
  obtain⟨q,c,rfl⟩:=aI1.mp hb;obtain⟨o,ho,hd⟩:=(Z.at_ q c).obj;exact⟨o,ho,λv e=>by rw[hd]at e;cases e⟩
 keep:=λi h h' Z k=>by
  refine⟨k z (by simp) _ Z.obj,?_,?_,λq c=>(Z.at_ q c).to λo e=>k q.it (by simp;exact .inr (.inr (.inr ⟨q,c,rfl⟩))) o e⟩
  ·obtain⟨n,e⟩:=Z.aL;exact⟨n,k TI (by simp) _ e⟩
  ·obtain⟨xs,n,l,e⟩:=Z.own;exact⟨xs,n,l,k TO (by simp) _ e⟩
 item:=by
  intro X F G J Y i pins s σ H E I y Z hg;subst F G J;obtain⟨vs,B,hv⟩:=hg;have L:vs.length=qs.length:=by simpa using B
  obtain⟨us,ru,pu⟩:=V9 (P:=λk u=>∀q,qs[k]? =some q->∃items,q.Sq s.heap items/\items[i]? =some u) (vs:=vs) λk v e=>by
   have hk:k<qs.length:=by have:=(aHv.mp e).1;lia
   have d:qs[k]? =some qs[k]:=aIm hk;obtain⟨xs,g,hi⟩:=hv k qs[k].l qs[k].tup v (by rw[List.getElem?_map,d];rfl) e;obtain⟨aL,rv,m⟩:=I.BW g;obtain⟨u,M,r⟩:=rv.get hi;refine⟨u,r,λq c=>?_⟩;rw[d]at c;cases c;exact⟨aL.toArray,m qs[k].it,by simpa using M⟩
  have N:us.length=qs.length:=by rw[<-ru.length,L]
  refine xI D Z C N (λk q x c g=>pu k x g q c) hsz λh1 Z1 t1 z1 k1=>?_;refine⟨_,rfl,aA2 (s:={s with heap:=h1}) D Z1 λh2 Z2 p=>?_⟩;have f:s.heap.objs.size≠z:=aJ4 (aHz Z.obj)
  have kk:∀b o,b∉(z::TI::TO::qs.map (·.it))->s.heap.get? b=some o->h2.get? b=some o:=λb o hb e=>by
   have b1:b≠z:=λz=>hb (by simp[z]);have b2:b≠TO:=λz=>hb (by simp[z]);exact p.extBut _ _ b1 (k1 b o b1 b2 (λq c z=>hb (by simp;exact .inr (.inr (.inr ⟨q,c,z.symm⟩)))) e)
  refine⟨.ref s.heap.objs.size,upd H s.heap.objs.size (.tup vs),I.DM (t' :=s.toks) y kk (aHw _) ⟨by lia,us,ru,⟨_,p.extBut _ _ f t1,rfl,0,rfl⟩,λo e=>by rw[p.extBut _ _ f t1]at e;cases e;rfl⟩,rfl,?_,Z2,λb hb=>?_⟩
  ·refine⟨s.heap.objs.size,vs,I.bJ.fresh (aHw _),rfl,rfl,B,λk a t v m O xs g=>?_⟩;obtain⟨ys,R,hi⟩:=hv k a t v m O;rw[I.nX g R];exact hi
  ·have S:=(y b hb).1
   have:b≠s.heap.objs.size:=by
    rintro rfl
    have ho:∃o,s.heap.get? s.heap.objs.size=some o:=by
     rcases aI5.mp hb with e | hb
     ·rw[e];exact⟨_,Z.obj⟩
     rcases aI5.mp hb with e | hb
     ·rw[e];obtain⟨n,e⟩:=Z.aL;exact⟨_,e⟩
     rcases aI5.mp hb with e | hb
     ·rw[e];obtain⟨xs,n,_,e⟩:=Z.own;exact⟨_,e⟩
     obtain⟨q,c,e⟩:=aI1.mp hb;have e' :q.it=s.heap.objs.size:=e;rw[<-e'];obtain⟨o,ho,_⟩:=(Z.at_ q c).obj;exact⟨o,ho⟩
    obtain⟨o,ho⟩:=ho;exact absurd (aHz ho) (aJc _)
   rw[aO this];exact S
 done:=by
  intro X F G J Y i pins s σ H E I y Z hg;subst F G J;obtain⟨k,a,t,xs,hk,g,hle,T⟩:=hg;rw[List.getElem?_map]at hk
  cases d:qs[k]? with
  | none=>rw[d]at hk;cases hk
  | some q=>
   rw[d]at hk;have U :(q.l,q.tup)=(a,t):=aIn hk;injection U with e1 e2;subst e1 e2
   refine AD (k:=k) (I.ok.hd Y) D Z (λj V hj W=>?_) ⟨q,?_⟩ hsz λh' kp=>⟨rfl,I.A3 (t' :=s.toks) y λb o hb e=>kp b o (λz=>hb (by simp[z])) (λz=>hb (by simp[z])) (λq c z=>hb (by simp;exact .inr (.inr (.inr ⟨q,c,z.symm⟩)))) e⟩
   ·obtain⟨ys,R,B⟩:=T j V.l V.tup W (by rw[List.getElem?_map,hj];rfl);obtain⟨aL,r,m⟩:=I.BW R;obtain⟨u,M,_⟩:=r.get (aIm B);exact⟨aL.toArray,u,m V.it,by simpa using M⟩
   ·obtain⟨aL,r,m⟩:=I.BW g;refine⟨aL.toArray,d,m q.it,?_⟩;have:=r.length;rw[List.getElem?_toArray];exact aJu.mpr (by lia)
 self:=λA i s Q E Z h=>DA Z h
structure aEj(m:Nat):Prop where
 t:∀us:List Value,us.length=m->checkTypeCall "zip" ⟨us,[]⟩=pure ()
 n:∀us:List Value,us.length=m->checkBuiltinCall "zip.__new__" ⟨.type "zip"::us,[]⟩=pure ()
 i:∀(us:List Value) (o:Value),us.length=m->argsOk "object.__init__" ⟨o::us,[]⟩
theorem uM:aEj 2:=⟨λus h=>match us,h with | [a,b],_=>F.typeCall_zip_2 a b,λus h=>match us,h with | [a,b],_=>F.newCall_zip_2 a b,λus o h=>match us,h with | [a,b],_=>F.args_object_init_3 o a b⟩
def aDl(K:aLw)(n:Nat)(b:TA):TI:=λσ H R=>b σ H λvs a=>∃src:List (Addr×Bool),vs=src.map (λp=>V.ref p.1)/\src.length=n/\(∀p∈src,∃xs,rD K a p.2 p.1 xs)/\R (Itz K src) a
theorem fW:∀{src:List (Addr×Bool)} {us:List Value},Vals (src.map λp=>V.ref p.1) us->us=src.map λp=>Value.ref p.1
 | [],us,h=>by cases h;rfl
 | p::r,us,h=>by
  cases h with
  | cons a b=>rw[fW b];cases a;rfl
theorem vK:∀(src:List (Addr×Bool)) (m:Nat),((bF m (src.map λp=>(⟨0,p.1,p.2⟩:Src))).map λq=>(q.l,q.tup))=src
 | [],_=>rfl
 | p::r,m=>by simp only[List.map_cons,bF];rw[vK r (m+1)]
theorem XU{e:Expr}{es:List Expr}{u:TA}{p pos:Pos}{elts:List Expr}{x1}{v:Pos}(z:aEj n)(S:0<n/\n<=1000)(hg:Gl X "zip")(x:X.mg "zip"=none)(y:PA X (e::es) u)
  (hv:bootBuiltins "zip"=some (.type "zip"):=by decide+kernel)
  (he:starEach (e::es) X.env=(false,eval e X.env)::starEach es X.env:=by rfl) (k:(backTo pos (starEach es X.env)).any (·.1)=false:=by rfl):
  PI X (.Tuple elts x1 v) (.Call (.Name "zip" p) (e::es) [] pos) (aDl X.K n u):=by
 intro pins s σ H R I h;refine aJ8 (iQ I hg x hv ?_);refine aIt (b6 (y pos pins s σ H _ I h) λus s1 ⟨vs,m,g,r1,q1⟩=>?_) he k;obtain⟨src,rfl,o,A,B⟩:=q1;have C:=fW r1;subst C;have em:(src.map λp=>Value.ref p.1)=(src.map λp=>(⟨0,p.1,p.2⟩:Src)).map λq=>Value.ref q.l:=by rw[List.map_map];rfl
 have hz:src.length<=sizeLine:=aJ6 (rM (by lia));rw[em];refine sE (by simpa using hz) (z.t _ (by simpa using o)) (z.n _ (by simpa using o)) (λobj=>z.i _ obj (by simpa using o)) (λq j=>?_) λh' E TI TO F G J D Z kp=>?_
 ·obtain⟨p,L,rfl⟩:=aI1.mp j;obtain⟨xs,M⟩:=A p L;obtain⟨aL,_,r⟩:=g.BW M;exact⟨aL.toArray,r 0⟩
 ·generalize a:bF s1.heap.objs.size (src.map λp=>(⟨0,p.1,p.2⟩:Src))=qs at D Z;have d:qs.length=src.length:=by rw[<-a,jU];simp
  have c:(qs.map λq=>(q.l,q.tup))=src:=by rw[<-a];exact vK _ _
  have N:Inv X pins σ m {s1 with heap:=h'}:=g.kept (t' :=s1.toks) kp;have T:=K9 (P:=X.prog) (w:=X.w) (K:=X.K) (elts:=elts) (x1:=x1) (pos:=v) D (by intro O;rw[O]at d;simp at d;lia) (by lia);rw[c]at T;refine DA Z ⟨E,_,_,Itz X.K src,m,rfl,N,T,Z,λb hb=>?_,B⟩
  have f:s1.heap.objs.size<=b:=by
   rcases aI5.mp hb with e | hb
   ·rw[e];exact J
   rcases aI5.mp hb with e | hb
   ·rw[e];exact F
   rcases aI5.mp hb with e | hb
   ·rw[e];exact G
   obtain⟨q,j,e⟩:=aI1.mp hb;rw[<-a]at j;have Q :q.it=b:=e;rw[<-Q];exact(fZ j).1
  exact(g.DO f (g.bJ.fresh f):pO X pins m b)
variable {b:Bool}
abbrev cmA(b:Bool):String:=match b with
 | false=>"list.append"
 | true=>"set.add"
abbrev bS(b:Bool)(elt tg iter:Expr)(ifs:List Expr)(a c:Expr)(d:List Expr)(scope:Scope)(pos:Pos):Expr:=cmE b elt [⟨tg,iter,ifs,0⟩,⟨a,c,d,0⟩] scope pos
def BodyOk(X:Cx)(o1 o:Nat)(e c:Expr)(acc:Addr)(tb:TBd):Prop:=∀(pins:List (Addr×Obj)) (s:Shared) (σ:St) (H:Hp) (d:List V) (N:List V->Hp->Prop),Inv X pins σ H s->(∀j,o1<=j->j<o->σ[j]? =some none)->tb d σ H N->
 wpAny (model X.prog X.w) X.A (eval c X.env) (λx s1=>wpAny (model X.prog X.w) X.A (pyIter x) (λa s2=>
  codeAny (model X.prog X.w) X.A (.compStart e 1 a (.ref acc) X.env) (λr f =>r= .ok .next/\∃b H',Inv X pins σ H' f /\N b H') s2) (λ_ _=>False) s1) (λ_ _=>False) s
theorem BD(elt tg iter:Expr)(ifs:List Expr)(a d:Expr)(e:List Expr)(scope:Scope)(pos:Pos)(it:Value)(acc:Addr)(env:Env):
  compTurn (bS b elt tg iter ifs a d e scope pos) 0 it (.ref acc) env=(do
   standAt iter.pos
   match<-pyNext it with
   | none=>pure (.done .next)
   | some v=>
    letOwnedTupleGo tg it v
    assign tg env v
    let mut ok:=true
    for c in ifs do
     if ok then ok<-isTrue c env (eval c env)
    if ok then
     let x<-eval d env
     standAt d.pos
     let x<-foldedSetIterable d env x
     let _<-runOwn (.compStart (bS b elt tg iter ifs a d e scope pos) 1 (<-holding [x] (pyIter x)) (.ref acc) env) env
    again (.compLoop (bS b elt tg iter ifs a d e scope pos) 0 it (.ref acc) env)):=by cases b <;> rfl
theorem xP(elt tg iter:Expr)(ifs:List Expr)(a d:Expr)(e:List Expr)(scope:Scope)(pos:Pos)(it acc:Value)(env:Env):
  compTurn (bS b elt tg iter ifs a d e scope pos) 1 it acc env=(do
   standAt d.pos
   match<-pyNext it with
   | none=>pure (.done .next)
   | some v=>
    letOwnedTupleGo a it v
    assign a env v
    let mut ok:=true
    for c in e do
     if ok then ok<-isTrue c env (eval c env)
    if ok then
     (match b with | false=>(do let _<-call (.builtin "list.append") [acc,<-eval elt env]) | true=>(do let v<-eval elt env;standAt elt.pos;let _<-call (.builtin "set.add") [acc,v]))
    again (.compLoop (bS b elt tg iter ifs a d e scope pos) 1 it acc env)):=by cases b <;> rfl
variable{dA:List Expr}
theorem BE{elt a iter f q:Expr}{pos:Pos}{acc:Addr}(I:Nat->Shared->Prop)
  (t:∀n s,I n s->wpAny (model prog w) A (pyNext it) (λr d=>match r with
   | none=>R (.ok .next) d
   | some v=>wpAny (model prog w) A (letOwnedTupleGo a it v) (λ_ d=>wpAny (model prog w) A (assign a env v) (λ_ j=>
     wpAny (model prog w) A (forIn ifs true λc r=>if r=true then do let ok<-isTrue c env (eval c env);pure (ForInStep.yield ok) else pure (ForInStep.yield r)) (λok g=>
      if ok=true then wpAny (model prog w) A (eval q env) (λx k=>wpAny (model prog w) A (pyIter x) (λu l=>
       codeAny (model prog w) A (.compStart (bS b elt a iter ifs f q dA scope pos) 1 u (.ref acc) env) (λr o=>r= .ok .next/\∃m,m<n/\I m o) l) (λ_ _=>False) k) (λ_ _=>False) g
      else ∃m,m<n/\I m g) (λ_ _=>False) j) (λ_ _=>False) d) (λ_ _=>False) d) (λ_ _=>False) s)
  (n:Nat) (h:I n s) (C:∀x,foldedSetIterable q env x=pure x):codeAny (model prog w) A (.compLoop (bS b elt a iter ifs f q dA scope pos) 0 it (.ref acc) env) R s:=by
 refine codeAny_loop (by cases b <;> rfl) I (λn s D=>?_) n h;have hd:(model prog w).den (.compLoop (bS b elt a iter ifs f q dA scope pos) 0 it (.ref acc) env)=(compTurn (bS b elt a iter ifs f q dA scope pos) 0 it (.ref acc) env).onRaise (λx=>do noteFrame x env;theTreesLotGoes x):=by cases b <;> rfl
 have E:A.under (.compLoop (bS b elt a iter ifs f q dA scope pos) 0 it (.ref acc) env)=A:=by cases b <;> rfl
 rw[hd,E];refine wpAny_noted ?_;rw[BD];refine aHs (aJd (aHs (aIk (t n s D) (λr d e=>?_) λ_ _ h' =>h'.elim)))
 cases r with
 | none=>exact aHt e
 | some v=>
  refine aHs (aIk e (λ_ d e=>?_) λ_ _ h' =>h'.elim);refine aHs (aIk e (λ_ j y=>aHs (aIk y (λok g p=>?_) λ_ _ h' =>h'.elim)) λ_ _ h' =>h'.elim)
  cases ok with
  | false=>exact aHt ⟨rfl,p⟩
  | true=>
   refine aHs (aIk p (λx k z=>aHs (aJd ?_)) λ_ _ h' =>h'.elim);rw[C];refine aHs (aHt ?_);refine aHs (aIj (aIk z (λu l B=>?_) λ_ _ h' =>h'.elim));refine aHs (wpAny_runOwn (aJy B λr o i=>?_));obtain⟨rfl,i⟩:=i;exact aHt ⟨rfl,i⟩
theorem xQ{elt a iter f u:Expr}{pos:Pos}(I:Nat->Shared->Prop)
  (q:∀n s,I n s->wpAny (model prog w) A (pyNext it) (λr d=>match r with
   | none=>R (.ok .next) d
   | some v=>wpAny (model prog w) A (letOwnedTupleGo f it v) (λ_ d=>wpAny (model prog w) A (assign f env v) (λ_ p=>
     wpAny (model prog w) A (forIn dA true λc r=>if r=true then do let ok<-isTrue c env (eval c env);pure (ForInStep.yield ok) else pure (ForInStep.yield r)) (λok g=>
      if ok=true then wpAny (model prog w) A (eval elt env) (λx i=>
       wpAny (model prog w) A (call (.builtin (cmA b)) [acc,x]) (λ_ j=>∃m,m<n/\I m j) (λ_ _=>False) i) (λ_ _=>False) g
      else ∃m,m<n/\I m g) (λ_ _=>False) p) (λ_ _=>False) d) (λ_ _=>False) d) (λ_ _=>False) s)
  (n:Nat) (h:I n s):codeAny (model prog w) A (.compLoop (bS b elt a iter ifs f u dA scope pos) 1 it acc env) R s:=by
 refine codeAny_loop (by cases b <;> rfl) I (λn s y=>?_) n h;have hd:(model prog w).den (.compLoop (bS b elt a iter ifs f u dA scope pos) 1 it acc env)=(compTurn (bS b elt a iter ifs f u dA scope pos) 1 it acc env).onRaise (λx=>do noteFrame x env;theTreesLotGoes x):=by cases b <;> rfl
 have z:A.under (.compLoop (bS b elt a iter ifs f u dA scope pos) 1 it acc env)=A:=by cases b <;> rfl
 rw[hd,z];refine wpAny_noted ?_;rw[xP];refine aHs (aJd (aHs (aIk (q n s y) (λr d e=>?_) λ_ _ h' =>h'.elim)))
 cases r with
 | none=>exact aHt e
 | some v=>
  refine aHs (aIk e (λ_ d e=>?_) λ_ _ h' =>h'.elim);refine aHs (aIk e (λ_ p t=>aHs (aIk t (λok g k=>?_) λ_ _ h' =>h'.elim)) λ_ _ h' =>h'.elim)
  cases ok with
  | false=>exact aHt ⟨rfl,k⟩
  | true=>
   refine aHs ?_
   cases b with
   | false=>exact aHs (aIk k (λx i l=>aHs (aIk l (λ_ j o=>aHt (aHt ⟨rfl,o⟩)) λ_ _ h' =>h'.elim)) λ_ _ h' =>h'.elim)
   | true=>exact aHs (aIk k (λx i l=>aHs (aJd (aHs (aIk l (λ_ j o=>aHt (aHt ⟨rfl,o⟩)) λ_ _ h' =>h'.elim)))) λ_ _ h' =>h'.elim)
theorem X5{tg iter a c elt:Expr}{pos:Pos}{wi:TI}{g:TG}{tt:TT}{tb:Addr->TBd}(own:List Str)(o1:Nat)(aE:List Nat)
  (hN:X.N=N) (hsc:X.env.scope=sc) (chk:cB N sc scope aE=true) (dB:X.calm=true) (hi:PI X tg iter wi) (f:o1<=own.length) (ho:kW o1 g)
  (hg:∀cl C fp s₀ H₀,PG (aH X own aE scope cl C fp s₀ H₀) tg g) (ht:∀cl C fp s₀ H₀,QW (aH X own aE scope cl C fp s₀ H₀) ifs tt)
  (he:∀acc cl C fp s₀ H₀,BodyOk (aH X own aE scope cl C fp s₀ H₀) o1 own.length (bS b elt tg iter ifs a c dA scope pos) c acc (tb acc))
  (i:∀env x,foldedSetIterable c env x=pure x)
  (m:∀x,foldedSetIterable iter X.env x=pure x:=by intro _;rfl):PE X (bS b elt tg iter ifs a c dA scope pos) (W7 X.prog X.w b own aE wi g tt tb):=by
 intro pins s σ H Q I h;have o:eval (bS b elt tg iter ifs a c dA scope pos) X.env=comprehension (bS b elt tg iter ifs a c dA scope pos) scope X.env (firstIterPos [⟨tg,iter,ifs,0⟩,⟨a,c,dA,0⟩] pos) (cmN b) (firstAsync [⟨tg,iter,ifs,0⟩,⟨a,c,dA,0⟩]) (firstIter [⟨tg,iter,ifs,0⟩,⟨a,c,dA,0⟩] X.env):=by cases b <;> rfl
 rw[o]
 refine sC PR own o1 aE (λenv acc K s=>wpAny (model X.prog X.w) X.A (eval c env) (λx s1=>wpAny (model X.prog X.w) X.A (pyIter x) (λd s2=>
  codeAny (model X.prog X.w) X.A (.compStart (bS b elt tg iter ifs a c dA scope pos) 1 d (.ref acc) env) (λr p =>r= .ok .next/\K p) s2) (λ_ _=>False) s1) (λ_ _=>False) s)
  hN hsc chk dB hi f ho hg ht (λacc cl C fp s₀ H₀ pins s σ H t u K v fresh q k=>?_) (λit acc env R I e n s h=>BE I e n h (i _)) m I h wK
 refine b6 (he _ _ _ _ _ _ _ s σ H t u v fresh q) λx F y=>b6 y λd G z=>aJy z λr sc B=>?_;obtain⟨rfl,D,E,j,l⟩:=B;exact⟨rfl,k _ _ _ j l⟩
variable {b:Bool}
def GIn(lo hi:Nat)(g:TG):Prop:=∀v σ H Q,g v σ H Q->g v σ H λa H' =>Q a H' /\a.length=σ.length/\∀j,(j<lo\/hi<=j)->a[j]? =σ[j]?
theorem O6{lo hi i:Nat}(h:lo<=i)(a:i<hi):GIn lo hi (o7 i):=λv σ H Q q=>⟨q,by simp,λj b=>by rw[List.getElem?_set_ne (by lia)]⟩
def ES(P:Program)(w:World)(b:Bool)(wi:TI)(g:TG)(tt:TT)(te:TE)(acc:Addr):TBd:=λa σ H N=>wi σ H λJ l=>
 ∃W:Nat->Nat->List V->Hp->Prop,(∃m,W 0 m a l)/\∀i m a H,W i m a H->
  ((J.stop i H/\N a H)\/(J.go i H/\∃e:List V->Hp->Prop,(∀c H',e c H' ->∃f,f<m/\W (i+1) f c H')/\
   ∀x H',J.QZ i H x H' ->g x σ H' λd n=>tt d n λo h=>if o =true then (a.length<sizeLine/\(b=true->(ST.bN [] (a.filterMap xD)).length+1<scanBound))/\te d h λy j=>(b=true->∃k,y=kV k)/\j acc=some (EJ P w b acc a)/\e (a++[y]) (upd j acc (EJ P w b acc (a++[y]))) else e a h))
theorem aAd{σ:St}{H:Hp}{acc:Addr}{a:List V}{y:V}{d:Value}{N:Hp->Prop}(I:Inv X pins σ H s)(hz:a.length<sizeLine/\(b=true->(ST.bN [] (a.filterMap xD)).length+1<scanBound))(hk:b=true->∃k,y=kV k)
  (h:H acc=some (EJ X.prog X.w b acc a)) (g:RelV y d) (q:N (upd H acc (EJ X.prog X.w b acc (a++[y])))):
  wpAny (model X.prog X.w) X.A (call (.builtin (cmA b)) [.ref acc,d]) (λ_ m =>∃H',Inv X pins σ H' m /\N H') X.xe s:=by
 cases b with
 | false=>
  refine b6 (rP _ s σ H (.ref acc) [y] (.ref acc) [d] (λv H' =>v= .bT/\N H') I rfl (.cons g .nil) ⟨_,_,_,rfl,rfl,h,hz.1,rfl,q⟩) λ_ s1 n=>?_;obtain⟨_,o,p,_,_,q1⟩:=n;exact⟨o,p,q1⟩
 | true=>
  obtain⟨k,rfl⟩:=hk rfl;have l:ST.mO (aS X.prog X.w) (ST.fM X.w) s.heap acc (ST.bN [] (a.filterMap xD)):=(I.bJ acc _ h).1;have c:=qQ (P:=X.prog) (w:=X.w) g
  have hsc:d.scannable=true:=by
   cases k with
   | inl i=>obtain⟨t,rfl⟩:=g;rfl
   | inr x=>obtain⟨t,rfl⟩:=g;rfl
  have r:xD (kV k)=some k:=by cases k <;> rfl
  show wpAny _ _ (call (.builtin "set.add") [.ref acc,d]) _ _ _;refine aI7 F.slot_set_add l.typeIs F.entry_set_add ?_ (F.args_set_add_2 _ _);unfold Builtin.«set.add» Builtin.Frozenset.oneOther;simp only[List.isEmpty_nil,bind_assoc];unfold Builtin.Frozenset.addrOf setAdd;refine aHs (aHt ?_)
  try dsimp only
  refine aHs (aHt ?_);refine aHs (aIj (aHs ((aS X.prog X.w).pyHash (k:=k) c ?_)));refine ST.zD (s:={s with toks:=s.toks+1}) c hsc l (hz.2 rfl) λb h' j f=>?_;refine aHt ⟨_,rfl,upd H acc (EJ X.prog X.w true acc (a++[kV k])),?_,q⟩;have e:ST.bN [] ((a++[kV k]).filterMap xD)=ST.nQ (ST.bN [] (a.filterMap xD)) k:=by simp[ST.bN,r]
  refine(show Inv X pins σ _ {s with heap:=h',toks:=s.toks+1} from oE I (by rw[h];trivial) j ⟨_,f.choose_spec.choose_spec.choose_spec.choose_spec.1⟩ ?_);unfold EJ;rw[e];exact zS f
theorem KP{o1 o:Nat}{elt tg iter a C:Expr}{pos:Pos}{acc:Addr}{wi:TI}{g:TG}{tt:TT}{te:TE}(hc:X.calm=true)(D:X.xe=λ_ _=>False)(hi:PI X a C wi)(hg:PG X a g)(hn:GIn o1 o g)(ht:QW X dA tt)(he:PE X elt te):
  BodyOk X o1 o (bS b elt tg iter ifs a C dA scope pos) C acc (ES X.prog X.w b wi g tt te acc):=by
 intro pins s σ H E N I fresh h;have F :=hi pins s σ H _ I h;rw[D]at F;refine b6 F λv s1 h1=>b6 h1 λitv s2 h2=>?_;obtain⟨it,fp,tn,J,H2,e,I2,T,G,f2,W,⟨m0,w0⟩,K⟩:=h2;subst e
 have c:∀{H' :Hp},(∀b∈fp,H' b=none)->∀b∈fp,pO X pins H' b:=λhn b f=>⟨hn b f,(f2 b f).2⟩
 have l:codeAny (model X.prog X.w) X.A (.compLoop (bS b elt tg iter ifs a C dA scope pos) 1 (.ref it) (.ref acc) X.env) (λr Y =>r= .ok .next/\∃ys' H',Inv X pins σ H' Y /\N ys' H') s2:=by
  refine xQ (λn Y =>∃i E H',Inv X pins σ H' Y /\tn i Y.heap/\(∀b∈fp,H' b=none)/\W i n E H') ?_ m0 ⟨0,E,H2,I2,G,λb f=>(f2 b f).1,w0⟩;rintro n s3 ⟨i,L,Z,I3,M,O,w3⟩
  rcases K i n L Z w3 with ⟨stop,qn⟩ | ⟨go,NN,hNN,step⟩
  ·refine b6 (T.done X rfl rfl rfl hc i pins s3 σ Z (λ_ _=>False) I3 (c O) M stop) λr s4 zz0=>?_;obtain⟨hr,I4⟩:=zz0;subst hr;exact⟨rfl,L,Z,I4,qn⟩
  ·refine b6 (T.item X rfl rfl rfl hc i pins s3 σ Z (λ_ _=>False) I3 (c O) M go) λr s4 zz1=>?_;obtain⟨u,hr,h4⟩:=zz1;subst hr;refine b6 h4 λ_ s5 zz2=>?_;obtain⟨x,H5,I5,r5,y5,p,fr5⟩:=zz2;have I5' :=I5.pinned (c fr5) (T.obj _ _ p);have P :=hg _ s5 σ H5 x u _ I5' r5 (hn _ _ _ _ (step x H5 y5));rw[D]at P;refine b6 P λ_ s6 zz3=>?_;obtain⟨q,H6,I6,q6,l6,k6⟩:=zz3;have Q :=ht _ s6 q H6 _ I6 q6;rw[D]at Q;refine b6 Q λok s7 zz4=>?_;obtain⟨H7,I7,R⟩:=zz4
   have again:∀{k:List V} {t:Hp} {B:Shared},Inv X (pins++rO fp s5.heap) q t B->NN k t->∃m,m<n/\∃i E H',Inv X pins σ H' B/\tn i B.heap/\(∀b∈fp,H' b=none)/\W i m E H' :=λ{k t B} S n8=>by
    obtain⟨m',hm,w8⟩:=hNN k t n8
    have I8' :Inv X pins σ t B:=S.m6.weak l6.symm λj v e=>by
     by_cases hj:j<o1\/o<=j
     ·rw[k6 j hj];exact e
     ·rw[fresh j (by lia) (by lia)]at e;cases e
    refine⟨m',hm,i+1,k,t,I8',T.keep _ _ _ p λb f o e=>(S.pin (b,o) (aIh _ (aIh _ (fY f e)))).1,λb f=>?_,w8⟩;obtain⟨o,e,d⟩:=T.obj _ _ p b f;exact(S.pin (b,o) (aIh _ (aIh _ (fY f e)))).2.1
   cases ok with
   | false=>exact again I7 R
   | true=>
    rw[if_pos rfl]at R⊢;obtain⟨hsz,R⟩:=R;have U :=he _ s7 q H7 _ I7 R;rw[D]at U;refine b6 U λyv B zz5=>?_;obtain⟨y,t,S,ry,hk8,z,q8⟩:=zz5;have ma:=aAd (b:=b) S hsz hk8 z ry q8;rw[D]at ma;refine b6 ma λ_ s9 zz6=>?_;obtain⟨H9,I9,q9⟩:=zz6;exact again I9 q9
 exact D2 PR (g:=⟨a,C,dA,0⟩) rfl rfl l (T.self _ 0 _ _ _ G l)
end L2
namespace TS
open PySem PyProof.Rows
structure Wk(lt:aLy):Prop where
 QF:∀x y,lt x y=true->lt y x=false
 tr:∀x y z,lt y x=false->lt z y=false->lt z x=false
theorem Wk.OV{lt:aLy}(O:Wk lt)(x:Keyed):lt x x=false:=by
 cases h:lt x x with
 | false=>rfl
 | true=>exact(O.QF x x h).symm.trans h |>.symm▸rfl
def eO(xs:aM0)(i:Nat):Keyed:=(xs[i]?).getD (Value.none,Value.none)
variable{xs:aM0}{i:Nat}
theorem HL(h:i<xs.size):xs[i]? =some (eO xs i):=by unfold eO;rw[getElem?_pos xs i h];rfl
def Seg(lt:aLy)(xs:aM0)(i j:Nat):Prop:=∀p q,i<=p->p<=q->q<j->lt (eO xs q) (eO xs p)=false
def VW(lt:aLy)(xs:aM0)(i j:Nat):Prop:=∀p q,i<=p->p<=q->q<j->lt (eO xs p) (eO xs q)=false
structure Base(κ:SortKind)(a₀:aM0)(st:SortSt):Prop where
 perm:(arrOf st).Perm a₀
 kind:kindOf st=κ
 aA7:failedOf st=none
variable{κ:SortKind}{st:SortSt}
theorem Base.size{a₀:aM0}(h:Base κ a₀ st):(arrOf st).size=a₀.size:=h.perm.size_eq
theorem Base.arr{a₀:aM0}(h:Base κ a₀ st)(p:xs.Perm (arrOf st)):Base κ a₀ (setArr st xs):=⟨p.trans h.perm,h.kind,h.aA7⟩
theorem Base.mem{a₀:aM0}(h:Base κ a₀ st)(hi:i<a₀.size):eO (arrOf st) i∈a₀.toList:=by
 have hz:i<(arrOf st).size:=by rw[h.size];exact hi
 have e:=HL hz;have:eO (arrOf st) i∈arrOf st:=Array.mem_of_getElem? e;exact(Array.perm_iff_toList_perm.mp h.perm).mem_iff.mp this.val
def GQ(prog:Program)(w:World)(A:Around)(s:Shared)(κ:SortKind)(lt:aLy)(a₀:aM0):Prop:=
 ∀x y,x∈a₀.toList->y∈a₀.toList->∀Q:Bool->Shared->Prop,Q (lt x y) s->wpAny (model prog w) A (keyLt' κ x.1 y.1) Q (λ_ _=>False) s
section
variable {prog:Program}{w:World}{A:Around}{E:aLx}{s:Shared}{a₀:aM0}{κ:SortKind}{lt:aLy}
variable{Q:Option Bool->SortSt->Prop}
theorem wlt{x y:Keyed}(C:GQ prog w A s κ lt a₀)(hk:kindOf st=κ)(c:x∈a₀.toList)(d:y∈a₀.toList)(h:Q (some (lt x y)) st):wpS (model prog w) A E s (lt' x y) Q st:=by
 rw[lt'_eq];refine aIv (wpS_get ?_);rw[hk];refine aIv (wpS_lift (aJ5 (aIk (C x y c d (λb a =>b=lt x y/\a =s) ⟨rfl,rfl⟩) (λb a f=>?_) λ_ _ e=>e.elim)));obtain⟨rfl,rfl⟩:=f;exact⟨rfl,aJh h⟩
theorem V1{arr:aM0}{Q:Keyed->SortSt->Prop}(hi:i<arr.size)(h:Q (eO arr i) st):wpS (model prog w) A E s (elem' arr i) Q st:=by
 rw[elem'_eq,HL hi];exact aJh h
theorem BY{i j:Nat}(C:GQ prog w A s κ lt a₀)(a:Base κ a₀ st)(hi:i<a₀.size)(b:j<a₀.size)(h:Q (some (lt (eO (arrOf st) i) (eO (arrOf st) j))) st):
  wpS (model prog w) A E s (ltAt' i j) Q st:=by
 rw[ltAt'_eq];refine aIv (wpS_get ?_);have z:=a.size;exact aIv (V1 (by rw[z];exact hi) (aIv (V1 (by rw[z];exact b) (wlt C a.kind (a.mem hi) (a.mem b) h))))
theorem pG{src d:Nat}(a:src<xs.size)(hd:d<=src)(k:Nat):eO (bubble xs src d) k=if k=src-d then eO xs src else if src-d<k/\k<=src then eO xs (k-1) else eO xs k:=by
 have e:=getElem?_bubble a d hd k;unfold eO;rw[e]
 repeat' split
 all_goals rfl
theorem iR{i j:Nat}(a:j<=xs.size)(k:Nat):eO (mirror xs i j ((j-i) / 2)) k=if i<=k/\k<j then eO xs (i+j-1-k) else eO xs k:=by
 have e:=getElem?_mirror_all (i:=i) a k;unfold eO;rw[e];split <;> rfl
theorem Q3(O:Wk lt)(C:GQ prog w A s κ lt a₀){lo n ok:Nat}{Q:Bool->SortSt->Prop}(H:lo+n<=a₀.size)(bJ:ok<=n)(K:Base κ a₀ st)(L:Seg lt (arrOf st) lo (lo+ok))
  (h:∀a,Base κ a₀ a ->Seg lt (arrOf a) lo (lo+n)->(∀k,k<lo->eO (arrOf a) k=eO (arrOf st) k)->pendingOf a =pendingOf st->Q true a):wpS (model prog w) A E s (binarySort' lo n ok) Q st:=by
 rw[binarySort'_eq]
 refine aIv (wpS_mono (aL6 (I:=λk c a =>c=(none,())/\Base κ a₀ a /\Seg lt (arrOf a) lo (lo+min k n)/\(∀k,k<lo->eO (arrOf a) k=eO (arrOf st) k)/\pendingOf a =pendingOf st)
  (Q:=λc a =>c=(none,())/\Base κ a₀ a /\Seg lt (arrOf a) lo (lo+n)/\(∀k,k<lo->eO (arrOf a) k=eO (arrOf st) k)/\pendingOf a =pendingOf st) ?step ?fin ?init) ?post)
 case post=>
  rintro c a ⟨rfl,e,d,o,t⟩;exact aJh (h a e d o t)
 case init=>
  refine⟨rfl,K,λp q B u J=>?_,λ_ _=>rfl,rfl⟩;by_cases z:p=q
  ·subst z;exact O.OV _
  ·exact L p q B u (by lia)
 case fin=>
  rintro c a ⟨M,e,d,r⟩;refine⟨M,e,?_,r⟩
  rwa [show min (max (max ok 1) n) n=n by (clear r bJ H;lia)]at d
 case step=>
  rintro k c a D F ⟨rfl,e,d,o,t⟩;rw[show min k n=k by lia]at d;have hk:lo+k<a₀.size:=by lia
  refine aIv (wpS_mono (aL6 (I:=λx c b =>b =a /\∃l r,c=(none,l,r)/\l<=r/\r<=k/\r-l<=k-x/\
    (∀i,i<l->lt (eO (arrOf a) (lo+k)) (eO (arrOf a) (lo+i))=false)/\(∀i,r<=i->i<k->lt (eO (arrOf a) (lo+k)) (eO (arrOf a) (lo+i))=true))
   (Q:=λc b =>b =a /\∃l r,c=(none,l,r)/\l<=k/\
    (∀i,i<l->lt (eO (arrOf a) (lo+k)) (eO (arrOf a) (lo+i))=false)/\(∀i,l<=i->i<k->lt (eO (arrOf a) (lo+k)) (eO (arrOf a) (lo+i))=true)) ?istep ?ifin ?iinit) ?ipost)
  case iinit=>exact⟨rfl,0,k,rfl,by lia,by lia,by lia,λi hi=>by lia,λi z N=>by lia⟩
  case ifin=>
   rintro c b ⟨rfl,l,r,rfl,G,v,P,f,g⟩;obtain rfl:l=r:=by lia
   exact⟨rfl,l,l,rfl,v,f,g⟩
  case istep=>
   rintro x c b _ R ⟨rfl,l,r,rfl,G,v,P,f,g⟩;dsimp only;by_cases y:l>=r
   ·rw[if_pos y];obtain rfl:l=r:=by lia
    exact aJh ⟨rfl,l,l,rfl,v,f,g⟩
   ·rw[if_neg y];refine aIv (BY C e hk (by lia) ?_)
    cases hless:lt (eO (arrOf b) (lo+k)) (eO (arrOf b) (lo+(l+r) / 2)) with
    | true=>
     simp only[if_true];refine aJh ⟨rfl,l,(l+r) / 2,rfl,by lia,by lia,by lia,f,λi z N=>?_⟩
     cases hx:lt (eO (arrOf b) (lo+k)) (eO (arrOf b) (lo+i)) with
     | true=>rfl
     | false=>rw[O.tr _ _ _ (d (lo+(l+r) / 2) (lo+i) (by lia) (by lia) (by lia)) hx]at hless;cases hless
    | false=>
     simp only[Bool.false_eq_true,if_false];refine aJh ⟨rfl,(l+r) / 2+1,r,rfl,by lia,by lia,by lia,λi z=>?_,g⟩;exact O.tr _ _ _ (d (lo+i) (lo+(l+r) / 2) (by lia) (by lia) (by lia)) hless
  case ipost=>
   rintro c b ⟨rfl,l,r,rfl,S,f,g⟩;show wpS _ _ _ _ (do moveDown' (lo+k) (lo+l);pure (ForInStep.yield (none,()))) _ _;rw[moveDown'_eq];have m:lo+k<(arrOf b).size:=by rw[e.size];exact hk
   have T:lo+k-(lo+l)=k-l:=by lia
   refine aIv (wpS_modify (aJh ⟨rfl,e.arr (bubble_perm _ _ _),?_,λj U=>?_,t⟩))
   ·rw[show min (k+1) n=k+1 by lia];intro p q B u J;show lt (eO (bubble (arrOf b) (lo+k) (lo+k-(lo+l))) q) (eO (bubble (arrOf b) (lo+k) (lo+k-(lo+l))) p)=false;rw[pG m (by lia),pG m (by lia),show lo+k-(lo+k-(lo+l))=lo+l by (clear J u B T m hk F D bJ H;lia)]
    repeat' split
    all_goals first
     | (exfalso;lia)
     | exact O.OV _
     | (have:=f (p-lo) (by lia);rwa [show lo+(p-lo)=p by lia]at this)
     | (have:=O.QF _ _ (g (q-1-lo) (by lia) (by lia));rwa [show lo+(q-1-lo)=q-1 by lia]at this)
     | exact d _ _ (by lia) (by lia) (by lia)
   ·show eO (bubble (arrOf b) (lo+k) (lo+k-(lo+l))) j=_;rw[pG m (by lia),if_neg (by lia),if_neg (by lia)];exact o j U
end
def upL(lo a d:Nat):StateT SortSt Sem (Option (Option Nat)×Nat):=
 forIn [a:d] ((none,a):Option (Option Nat)×Nat) λ_ c=>do
  let x<-ltAt' (lo+c.snd) (lo+c.snd-1)
  match x with
  | some b=>if b=true then pure (ForInStep.done (none,c.snd)) else pure (ForInStep.yield (none,c.snd+1))
  | _=>pure (ForInStep.done (some none,c.snd))
def C5(lo n a:Nat):StateT SortSt Sem (Option Nat):=do
 reverseSlice' lo (lo+n)
 let c<-upL lo n a
 match c.fst with
 | some r=>pure r
 | none=>pure (some c.snd)
def HZ(lo n d:Nat):StateT SortSt Sem (Option (Option Nat)×Nat×Nat):=
 forIn [n:d] ((none,n,0):Option (Option Nat)×Nat×Nat) λ_ c=>do
  let x<-ltAt' (lo+c.snd.fst) (lo+c.snd.fst-1)
  match x with
  | some a=>
   if a=true then
    if c.snd.snd > 0 then do
     reverseSlice' (lo+c.snd.fst-(c.snd.snd+1)) (lo+c.snd.fst)
     pure (ForInStep.yield (none,c.snd.fst+1,0))
    else pure (ForInStep.yield (none,c.snd.fst+1,0))
   else do
    let y<-ltAt' (lo+c.snd.fst-1) (lo+c.snd.fst)
    match y with
    | some b=>if b=true then pure (ForInStep.done (none,c.snd.fst,c.snd.snd)) else pure (ForInStep.yield (none,c.snd.fst+1,c.snd.snd+1))
    | _=>pure (ForInStep.done (some none,c.snd.fst,c.snd.snd))
  | _=>pure (ForInStep.done (some none,c.snd.fst,c.snd.snd))
def DQ(lo n a:Nat):StateT SortSt Sem (Option Nat):=do
 liftM (rule "list.sort.descending-run")
 let c<-HZ lo (n+1) a
 match c.fst with
 | some r=>pure r
 | none=>
  if c.snd.snd > 0 then do
   reverseSlice' (lo+c.snd.fst-(c.snd.snd+1)) (lo+c.snd.fst)
   C5 lo c.snd.fst a
  else C5 lo c.snd.fst a
theorem KH(lo d:Nat):countRun' lo d=(do
  let c<-upL lo 1 d
  match c.fst with
  | some r=>pure r
  | none=>
   if (c.snd==d)=true then pure (some c.snd)
   else if c.snd > 1 then do
    let x<-ltAt' lo (lo+c.snd-1)
    match x with
    | some b=>if b=true then pure (some c.snd) else do
      reverseSlice' lo (lo+c.snd)
      DQ lo c.snd d
    | _=>pure none
   else DQ lo c.snd d):=by
 rw[countRun'_eq];dsimp only;unfold DQ C5 HZ upL;congr 1;funext c;obtain⟨r,n⟩:=c
 cases r with
 | some r=>rfl
 | none=>
  dsimp only;have e:∀(a:Option (Option Nat)×Nat),(match a.fst with | some r=>(pure r:StateT SortSt Sem (Option Nat)) | none=>pure (some a.snd))=(match a.fst with | some r=>pure r | none=>pure (some a.snd)):=λ_=>rfl;split
  ·rfl
  ·split
   ·congr 1;funext x
    cases x with
    | none=>rfl
    | some b=>
     dsimp only;split
     ·rfl
     ·congr 1;funext u;congr 1;funext u1;congr 1;congr 1;funext c2;obtain⟨r2,n2,q2⟩:=c2
      cases r2 with
      | some r2=>rfl
      | none=>
       dsimp only;split
       ·congr 1;funext v;congr 1;funext v1;congr 1;funext a;obtain⟨r3,n3⟩:=a;cases r3 <;> rfl
       ·congr 1;funext v1;congr 1;funext a;obtain⟨r3,n3⟩:=a;cases r3 <;> rfl
   ·congr 1;funext u1;congr 1;congr 1;funext c2;obtain⟨r2,n2,q2⟩:=c2
    cases r2 with
    | some r2=>rfl
    | none=>
     dsimp only;split
     ·congr 1;funext v;congr 1;funext v1;congr 1;funext a;obtain⟨r3,n3⟩:=a;cases r3 <;> rfl
     ·congr 1;funext v1;congr 1;funext a;obtain⟨r3,n3⟩:=a;cases r3 <;> rfl
section
variable {prog:Program}{w:World}{A:Around}{E:aLx}{s:Shared}{a₀:aM0}{κ:SortKind}{lt:aLy}
theorem Q0{i j:Nat}{Q:Unit->SortSt->Prop}(h:Q () (setArr st (mirror (arrOf st) i j ((j-i) / 2)))):wpS (model prog w) A E s (reverseSlice' i j) Q st:=by
 rw[reverseSlice'_eq];exact wpS_modify h
def kU(lo:Nat)(st a :SortSt):Prop:=(∀k,k<lo->eO (arrOf a) k=eO (arrOf st) k)/\pendingOf a =pendingOf st
variable{lo:Nat}
theorem kU.refl:kU lo st st:=⟨λ_ _=>rfl,rfl⟩
theorem kU.trans{a b c:SortSt}(h:kU lo a b)(h' :kU lo b c):kU lo a c:=⟨λk hk=>(h'.1 k hk).trans (h.1 k hk),h'.2.trans h.2⟩
theorem kU.mirror{lo i j:Nat}(hi:lo<=i)(a:j<=(arrOf st).size):kU lo st (setArr st (PyProof.Rows.mirror (arrOf st) i j ((j-i) / 2))):=
 ⟨λk hk=>by show eO (PyProof.Rows.mirror (arrOf st) i j ((j-i) / 2)) k=_;rw[iR a,if_neg (by lia)],rfl⟩
theorem wup(O:Wk lt)(C:GQ prog w A s κ lt a₀){lo a e:Nat}{Q:Option (Option Nat)×Nat->SortSt->Prop}(t:lo+e<=a₀.size)(u:1<=a)(f:a<=e)(m:Base κ a₀ st)(o:Seg lt (arrOf st) lo (lo+a))
  (h:∀n,a<=n->n<=e->Seg lt (arrOf st) lo (lo+n)->(n=e\/lt (eO (arrOf st) (lo+n)) (eO (arrOf st) (lo+n-1))=true)->Q (none,n) st):wpS (model prog w) A E s (upL lo a e) Q st:=by
 unfold upL;refine aL6 (I:=λx c d =>d =st/\c=(none,x)/\Seg lt (arrOf st) lo (lo+x)) ?step ?fin ⟨rfl,rfl,o⟩
 case fin=>
  rintro c d ⟨rfl,rfl,b⟩;rw[show max a e=e by lia]at b ⊢;exact h e f (aHw _) b (.inl rfl)
 case step=>
  rintro x c d g r ⟨rfl,rfl,b⟩;dsimp only;refine aIv (BY C m (by lia) (by lia) ?_)
  cases hless:lt (eO (arrOf d) (lo+x)) (eO (arrOf d) (lo+x-1)) with
  | true=>
   simp only[if_true];exact aJh (h x g (by lia) b (.inr hless))
  | false=>
   simp only[Bool.false_eq_true,if_false];refine aJh ⟨rfl,rfl,λp q l i v=>?_⟩;by_cases j:q<lo+x
   ·exact b p q l i j
   ·obtain rfl:q=lo+x:=by lia
    by_cases k :p=lo+x
    ·subst k;exact O.OV _
    ·exact O.tr _ _ _ (b p (lo+x-1) l (by lia) (by lia)) hless
variable{n cI:Nat}{Q:Option Nat->SortSt->Prop}
theorem VZ(O:Wk lt)(C:GQ prog w A s κ lt a₀)(g:lo+cI<=a₀.size)(i:1<=n)(c:n<=cI)(f:Base κ a₀ st)(j:VW lt (arrOf st) lo (lo+n))
  (h:∀m a,Base κ a₀ a ->1<=m->m<=cI->Seg lt (arrOf a) lo (lo+m)->kU lo st a ->Q (some m) a):wpS (model prog w) A E s (C5 lo n cI) Q st:=by
 unfold C5;have hsz:lo+n<=(arrOf st).size:=by rw[f.size];lia
 refine aIv (Q0 ?_);have b :Base κ a₀ (setArr st (mirror (arrOf st) lo (lo+n) ((lo+n-lo) / 2))):=f.arr (mirror_perm _ _ _ _);refine aIv (wup O C g i c b ?_ λm k d e _=>aJh (h m _ b (by lia) d e (kU.mirror (aHw _) hsz)));intro p q o l r;show lt (eO (mirror (arrOf st) lo (lo+n) ((lo+n-lo) / 2)) q) (eO (mirror (arrOf st) lo (lo+n) ((lo+n-lo) / 2)) p)=false;rw[iR hsz,iR hsz,if_pos (by lia),if_pos (by lia)];exact j _ _ (by lia) (by lia) (by lia)
def Alike(lt:aLy)(xs:aM0)(i j:Nat):Prop:=∀p q,i<=p->p<j->i<=q->q<j->lt (eO xs p) (eO xs q)=false
theorem pI(O:Wk lt){lo i j n:Nat}(d:j<=xs.size)(he:Alike lt xs i j)(b:VW lt xs lo n)(hi:lo<=i)(h:j<=n):VW lt (mirror xs i j ((j-i) / 2)) lo n:=by
 intro p q e c f;rw[iR d,iR d];by_cases g:i<=p/\p<j
 ·rw[if_pos g];by_cases a:i<=q/\q<j
  ·rw[if_pos a];exact he _ _ (by lia) (by lia) (by lia) (by lia)
  ·rw[if_neg a];exact b _ _ (by lia) (by lia) f
 ·rw[if_neg g];by_cases a:i<=q/\q<j
  ·rw[if_pos a];exact b _ _ e (by lia) (by lia)
  ·rw[if_neg a];exact b _ _ e c f
theorem aBc(O:Wk lt)(C:GQ prog w A s κ lt a₀){Q:Option (Option Nat)×Nat×Nat->SortSt->Prop}(J:lo+cI<=a₀.size)(t:1<=n)(u:n<=cI)(z:Base κ a₀ st)(B:VW lt (arrOf st) lo (lo+n))
  (h:∀m b a,Base κ a₀ a ->n<=m->m<=cI->VW lt (arrOf a) lo (lo+m)->b+1<=m->Alike lt (arrOf a) (lo+m-(b+1)) (lo+m)->kU lo st a ->Q (none,m,b) a):wpS (model prog w) A E s (HZ lo n cI) Q st:=by
 unfold HZ
 have one:∀(xs:aM0) (x:Nat),1<=x->Alike lt xs (lo+x-(0+1)) (lo+x):=λxs x K p q t D F G=>by
  obtain rfl:p=q:=by lia
  exact O.OV _
 refine aL6 (I:=λx c a =>∃b,c=(none,x,b)/\Base κ a₀ a /\VW lt (arrOf a) lo (lo+x)/\b+1<=x/\Alike lt (arrOf a) (lo+x-(b+1)) (lo+x)/\kU lo st a) ?step ?fin ⟨0,rfl,z,B,by lia,one _ _ t,kU.refl⟩
 case fin=>
  rintro c a ⟨b,rfl,d,e,l,he,o⟩;rw[show max n cI=cI by lia]at e l he⊢;exact h cI b a d u (aHw _) e l he o
 case step=>
  rintro x c a v H ⟨b,rfl,d,e,l,he,o⟩;dsimp only;have hsz:lo+x<=(arrOf a).size:=by rw[d.size];lia
  refine aIv (BY C d (by lia) (by lia) ?_)
  cases hless:lt (eO (arrOf a) (lo+x)) (eO (arrOf a) (lo+x-1)) with
  | true=>
   simp only[if_true]
   have g:VW lt (arrOf a) lo (lo+x+1):=by
    intro p q r j l;by_cases f:q<lo+x
    ·exact e p q r j f
    ·obtain rfl:q=lo+x:=by lia
     by_cases k :p=lo+x
     ·subst k;exact O.OV _
     ·exact O.tr _ _ _ (O.QF _ _ hless) (e p (lo+x-1) r (by lia) (by lia))
   by_cases i:b > 0
   ·rw[if_pos i];refine aIv (Q0 (aJh ⟨0,rfl,d.arr (mirror_perm _ _ _ _),?_,by lia,one _ _ (by lia),o.trans (kU.mirror (by lia) hsz)⟩));exact pI O hsz he g (by lia) (by lia)
   ·rw[if_neg i];exact aJh ⟨0,rfl,d,g,by lia,one _ _ (by lia),o⟩
  | false=>
   simp only[Bool.false_eq_true,if_false];refine aIv (BY C d (by lia) (by lia) ?_)
   cases hlarger:lt (eO (arrOf a) (lo+x-1)) (eO (arrOf a) (lo+x)) with
   | true=>
    simp only[if_true];exact aJh (h x b a d v (by lia) e l he o)
   | false=>
    simp only[Bool.false_eq_true,if_false];refine aJh ⟨b+1,rfl,d,λp q r j l=>?_,by lia,λp q t D F G=>?_,o⟩
    ·by_cases f:q<lo+x
     ·exact e p q r j f
     ·obtain rfl:q=lo+x:=by lia
      by_cases k :p=lo+x
      ·subst k;exact O.OV _
      ·exact O.tr _ _ _ hlarger (e p (lo+x-1) r (by lia) (by lia))
    ·by_cases y:p=lo+x
     ·subst y;by_cases f:q=lo+x
      ·subst f;exact O.OV _
      ·exact O.tr _ _ _ (he (lo+x-1) q (by lia) (by lia) (by lia) (by lia)) hless
     ·by_cases f:q=lo+x
      ·subst f;exact O.tr _ _ _ hlarger (he p (lo+x-1) (by lia) (by lia) (by lia) (by lia))
      ·exact he p q (by lia) (by lia) (by lia) (by lia)
theorem V0(O:Wk lt)(C:GQ prog w A s κ lt a₀)(g:lo+cI<=a₀.size)(i:n+1<=cI)(t:Base κ a₀ st)(u:VW lt (arrOf st) lo (lo+(n+1)))
  (h:∀m a,Base κ a₀ a ->1<=m->m<=cI->Seg lt (arrOf a) lo (lo+m)->kU lo st a ->Q (some m) a):wpS (model prog w) A E s (DQ lo n cI) Q st:=by
 unfold DQ;refine aIv (wpS_lift (aJ0 ⟨rfl,?_⟩));refine aIv (aBc O C g (by lia) i t u λm j a c v e f x he r=>?_);dsimp only;have hsz:lo+m<=(arrOf a).size:=by rw[c.size];lia
 by_cases b:j > 0
 ·rw[if_pos b];refine aIv (Q0 (VZ O C g (by lia) e (c.arr (mirror_perm _ _ _ _)) ?_ λm d k l o p q=>h m d k l o p (r.trans ((kU.mirror (by lia) hsz).trans q))));exact pI O hsz he f (by lia) (aHw _)
 ·rw[if_neg b];exact VZ O C g (by lia) e c f λm d k l o p q=>h m d k l o p (r.trans q)
theorem WV(O:Wk lt)(C:GQ prog w A s κ lt a₀)(l:lo+cI<=a₀.size)(x:1<=cI)(d:Base κ a₀ st)
  (h:∀m b,Base κ a₀ b ->1<=m->m<=cI->Seg lt (arrOf b) lo (lo+m)->kU lo st b ->Q (some m) b):wpS (model prog w) A E s (countRun' lo cI) Q st:=by
 rw[KH]
 refine aIv (wup O C l (aHw 1) x d (λp q x K L=>by
  obtain rfl:p=q:=by lia
  exact O.OV _) λn g i c o=>?_)
 dsimp only;by_cases e:n=cI
 ·rw[if_pos (by simpa using e)];exact aJh (h n st d g i c kU.refl)
 ·rw[if_neg (by simpa using e)];have j:lt (eO (arrOf st) (lo+n)) (eO (arrOf st) (lo+n-1))=true:=o.resolve_left e;by_cases k:n > 1
  ·rw[if_pos k];refine aIv (BY C d (by lia) (by lia) ?_)
   cases hrose:lt (eO (arrOf st) lo) (eO (arrOf st) (lo+n-1)) with
   | true=>
    simp only[if_true];exact aJh (h n st d g i c kU.refl)
   | false=>
    simp only[Bool.false_eq_true,if_false];have hsz:lo+n<=(arrOf st).size:=by rw[d.size];lia
    have a:Alike lt (arrOf st) lo (lo+n):=λp q M N y P=>by
     have z:=c lo p (aHw _) (by lia) (by lia);have B:=c q (lo+n-1) y (by lia) (by lia);exact O.tr _ _ _ (O.tr _ _ _ B hrose) z
    have hd:VW lt (arrOf st) lo (lo+(n+1)):=λp q r t D=>by
     by_cases u:q<lo+n
     ·exact a p q r (by lia) (by lia) u
     ·obtain rfl:q=lo+n:=by lia
      by_cases f :p=lo+n
      ·subst f;exact O.OV _
      ·exact O.tr _ _ _ (O.QF _ _ j) (a p (lo+n-1) r (by lia) (by lia) (by lia))
    refine aIv (Q0 (V0 O C l (by lia) (d.arr (mirror_perm _ _ _ _)) ?_ λm v F G H I J=>h m v F G H I ((kU.mirror (aHw _) hsz).trans J)));exact pI O hsz a hd (aHw _) (by lia)
  ·rw[if_neg k];obtain rfl:n=1:=by lia
   refine V0 O C l (by lia) d (λp q r t D=>?_) h;by_cases f :p=q
   ·subst f;exact O.OV _
   ·obtain rfl:p=lo:=by lia
    obtain rfl:q=p+1:=by lia
    exact O.QF _ _ j
end
section
variable {prog:Program}{w:World}{A:Around}{E:aLx}{s:Shared}{a₀:aM0}{κ:SortKind}{lt:aLy}
theorem aBb(O:Wk lt)(C:GQ prog w A s κ lt a₀){Q:Unit->SortSt->Prop}(B:Base κ a₀ st)(v:pendingOf st= #[])(F:2<=a₀.size)(g:a₀.size<64)
  (h:∀a,Base κ a₀ a ->Seg lt (arrOf a) 0 a₀.size->Q () a):wpS (model prog w) A E s sortRuns' Q st:=by
 have k:minRun' a₀.size a₀.size 0=a₀.size:=by
  cases hz:a₀.size with
  | zero=>(clear g;omega)
  | succ f=>rw[minRun'_succ,if_pos (by omega)];try rfl
 have l:=B.size;rw[sortRuns'_eq];refine aIv (wpS_get ?_);dsimp only;simp only[l,k]
 refine aIv (wpS_mono (aL6
  (I:=λx c a =>(x=0/\c=(none,0)/\Base κ a₀ a /\pendingOf a = #[])\/(0<x/\c=(none,a₀.size)/\Base κ a₀ a /\Seg lt (arrOf a) 0 a₀.size/\(pendingOf a).size<=1))
  (Q:=λc a =>c=(none,a₀.size)/\Base κ a₀ a /\Seg lt (arrOf a) 0 a₀.size/\(pendingOf a).size<=1) ?turn ?last (.inl ⟨rfl,rfl,B,v⟩)) ?rest)
 case last=>
  rintro c a (⟨u,_⟩ | ⟨_,r⟩)
  ·(clear l k g;omega)
  ·exact r
 case turn=>
  have i:∀{d:SortSt},Base κ a₀ d->Seg lt (arrOf d) 0 a₀.size->pendingOf d= #[]->∀n,Base κ a₀ (setPending d ((pendingOf d).push (0,n,0)))/\Seg lt (arrOf (setPending d ((pendingOf d).push (0,n,0)))) 0 a₀.size/\(pendingOf (setPending d ((pendingOf d).push (0,n,0)))).size<=1:=λ{d} b y p n=>by
   refine⟨⟨b.perm,b.kind,b.aA7⟩,y,?_⟩;show ((pendingOf d).push (0,n,0)).size<=1;rw[p];simp
  rintro x c a _ u (⟨rfl,rfl,b,p⟩ | ⟨_,rfl,r⟩)
  ·dsimp only;rw[if_neg (by (clear u l k g;omega))];simp only[Nat.sub_zero,Nat.min_self,Nat.zero_add];refine aIv (WV O C (by omega) (by (clear u l k g;omega)) b λm e D m1 G j o=>?_);have z:pendingOf e= #[]:=o.2.trans p;simp only[Nat.zero_add]at j;dsimp only;by_cases less:m<a₀.size
   ·rw[if_pos less];refine aIv (wpS_lift (aJ0 ⟨rfl,?_⟩));refine aIv (Q3 O C (by omega) G D (by simpa using j) λd H q _ J=>?_);have t :pendingOf d= #[]:=J.trans z;simp only[Nat.zero_add]at q;simp only[Bool.not_true,Bool.false_eq_true,if_false];refine aIv (wpS_get ?_);rw[show (pendingOf d).back? =none by rw[t];rfl];dsimp only;obtain⟨q1,q2,q3⟩:=i H q t a₀.size;exact aIv (wpS_modify (aJh (.inr ⟨by omega,rfl,q1,q2,q3⟩)))
   ·obtain rfl:m=a₀.size:=by (clear m1 u l k g F;omega)
    rw[if_neg less];refine aIv (wpS_get ?_);rw[show (pendingOf e).back? =none by rw[z];rfl];dsimp only;obtain⟨q1,q2,q3⟩:=i D j z a₀.size;exact aIv (wpS_modify (aJh (.inr ⟨by omega,rfl,q1,q2,q3⟩)))
  ·dsimp only;rw[if_pos (Nat.le_refl _)];exact aJh ⟨rfl,r⟩
 case rest=>
  rintro c a ⟨rfl,b,y,p⟩;dsimp only;refine aIv (wpS_mono (aL6 (I:=λ_ c e=>c=(none,())/\e=a) (Q:=λc e=>c=(none,())/\e=a) ?_ (λ_ _ r=>r) ⟨rfl,rfl⟩) ?_)
  ·rintro x c e _ _ ⟨rfl,rfl⟩;refine aIv (wpS_get ?_);rw[if_pos p];exact aJh ⟨rfl,rfl⟩
  ·rintro c e ⟨rfl,rfl⟩;exact aJh (h _ b y)
variable{vs:List Value}
theorem RI(g:xs.Perm (pairsOf vs))(m:Seg lt xs 0 vs.length):
  ((xs.map (·.2)).toList).Perm vs/\((xs.map (·.2)).toList).Pairwise (λx y=>lt (y,y) (x,x)=false):=by
 have h:xs.toList.Perm (vs.zip vs):=by rw[<-pairsOf_toList];exact Array.perm_iff_toList_perm.mp g
 have same:∀p∈xs.toList,p=(p.2,p.2):=λp b=>by
  have n:=h.mem_iff.mp b
  have:∀(l:List Value) (q:Keyed),q∈l.zip l->q=(q.2,q.2):=λl q c=>by
   induction l with
   | nil=>simp at c
   | cons v r o=>
    rw[List.zip_cons_cons]at c;rcases aI5.mp c with e | e
    ·rw[e]
    ·exact o e
  exact this vs p n
 have hsz:xs.size=vs.length:=by have:=g.size_eq;rw[pairsOf_size]at this;exact this
 refine⟨?_,?_⟩
 ·rw[Array.toList_map];have:=h.map (·.2)
  rwa [show (vs.zip vs).map (·.2)=vs from List.map_snd_zip (aHw _)]at this
 ·rw[Array.toList_map,List.pairwise_map];rw[List.pairwise_iff_getElem];intro i j hi k d;have f :i<xs.size:=by simpa using hi
  have a :j<xs.size:=by simpa using k
  have q:=m i j (aIx _) (aJ6 d) (by rw[<-hsz];exact a);have s:eO xs i=xs.toList[i]:=by unfold eO;rw[getElem?_pos xs i f];simp
  have t:eO xs j=xs.toList[j]:=by unfold eO;rw[getElem?_pos xs j a];simp
  rw[s,t]at q;rw[same _ (List.getElem_mem hi),same _ (List.getElem_mem k)]at q;exact q
theorem EV(O:Wk lt){a:Addr}{n:Nat}{P:PySem.Fin->Shared->Prop}(ho:s.heap.get? a=some (seqObj "list" vs.toArray n))(k:vs.length<64)
  (t:2<=vs.length->∀h' :Heap,(∀b o,b≠a->s.heap.get? b=some o->h'.get? b=some o)->GQ prog w A {s with heap:=h'} κ lt (pairsOf vs)/\
   ∀v,v κ {s with heap:=h'}->wpAny (model prog w) A (keyKind' vs.toArray) v E {s with heap:=h'})
  (h:∀out:List Value,out.Perm vs->out.Pairwise (λx y=>lt (y,y) (x,x)=false)->P (.done (.ret .none)) {s with heap:=sortedHeap s.heap a vs out.toArray}):
  wpAny (model prog w) A (Builtin.«list.sort» ⟨[.ref a],[]⟩) P E s:=by
 have z:a<s.heap.objs.size:=aHz ho;have B:sizeLine=16777216:=aIf
 obtain⟨m,o1⟩:∃m,(s.heap.update a (Obj.mapSeq λ_=>#[])).get? a=some (seqObj "list" #[] m):=⟨_,get?_update_seq ho λ_=>#[]⟩
 have C:(((s.heap.update a (Obj.mapSeq λ_=>#[])).push (seqObj "tuple" vs.toArray 0)).push (seqObj "list" #[] 0)).get? a=some (seqObj "list" #[] m):=aHu _ (aHu _ o1)
 have g:∀b o,b≠a->s.heap.get? b=some o->(((s.heap.update a (Obj.mapSeq λ_=>#[])).push (seqObj "tuple" vs.toArray 0)).push (seqObj "list" #[] 0)).get? b=some o:=λb o F e=>
  aHu _ (aHu _ (by rw[Heap.get?_update_ne _ _ _ _ F];exact e))
 have d:∀c :SortSt,(arrOf c).Perm (pairsOf vs)->Seg lt (arrOf c) 0 vs.length->failedOf c =none->wpAny (model prog w) A (do
   let touched:=(<-seqEpoch a) !=m
   Builtin.List.listUpdate (.ref a) λ_=>(arrOf c).map (·.2)
   if let some e:=failedOf c then rule "list.sort.comparison-raised";throw e
   if touched then rule "list.sort.modified";raiseError "ValueError" "list modified during sort"
   ret .none) P E {s with heap:=((s.heap.update a (Obj.mapSeq λ_=>#[])).push (seqObj "tuple" vs.toArray 0)).push (seqObj "list" #[] 0)}:=λc D j G=>by
  obtain⟨H,I⟩:=RI D j
  have L:((arrOf c).map (·.2)).size<=sizeLine:=by
   rw[Array.size_map];have:=D.size_eq;rw[pairsOf_size]at this;omega
  refine aHs (seqEpoch_at C rfl ?_);refine aHs (listUpdate_at C rfl ?_ (hsz2:=by (clear B z t k;omega)));rw[G];simp only[bne_self_eq_false,Bool.false_eq_true,if_false];have l:=h _ H I;rw[Array.toArray_toList]at l;exact aHt l
 rw[list_sort_plain];refine aHs (listItems_at ho rfl ?_);refine aHs (listUpdate_at ho rfl ?_ (by rw[List.size_toArray];omega) (aIx _));refine aHs (seqEpoch_at o1 rfl ?_);refine aHs (aJn ?_ (by show vs.length<=_;omega));refine aHs (aLr ?_ (aIx _));refine aIj ?_;dsimp only;by_cases UW:vs.length<2
 ·have f :vs.toArray.size<2:=by rw[List.size_toArray];exact UW
  rw[if_pos f,if_pos f];refine aHs (aHt ?_);rw[StateT.run_pure];refine aHs (aHt ?_)
  exact d (SortSt.mk' general' (vs.toArray.zip vs.toArray) #[] 7 none) (Array.Perm.refl _) (λp q _ J M=>by
   obtain rfl:p=q:=by (clear f B z t k;omega)
   exact O.OV _) rfl
 ·have i:¬vs.toArray.size<2:=by rw[List.size_toArray];exact UW
  rw[if_neg i,if_neg i];obtain⟨u,kind⟩:=t (by omega) _ g;refine aHs (kind _ ?_)
  refine aHs (aIk (aBb (Q:=λ_ c =>Base κ (pairsOf vs) c /\Seg lt (arrOf c) 0 (pairsOf vs).size) O u (st:=SortSt.mk' κ (vs.toArray.zip vs.toArray) #[] 7 none) ⟨Array.Perm.refl _,rfl,rfl⟩ rfl
   (by rw[pairsOf_size];omega) (by rw[pairsOf_size];omega) λc b j=>⟨b,j⟩) (λr N K=>?_) λ_ _ e=>e)
  obtain⟨⟨⟩,c⟩:=r;obtain⟨rfl,b,j⟩:=K;rw[pairsOf_size]at j;exact d c b.perm j b.aA7
theorem LV(O:Wk lt){l:Addr}{Q:aLx}(d:s.heap.IsList l vs.toArray)(c:vs.length<64)
  (f:2<=vs.length->∀h' :Heap,(∀b o,s.heap.get? b=some o->h'.get? b=some o)->GQ prog w A.in1.in1 {s with heap:=h'} κ lt (pairsOf vs)/\
   ∀a g,a κ {s with heap:=h'}->wpAny (model prog w) A.in1.in1 (keyKind' vs.toArray) a g {s with heap:=h'})
  (h:∀out:List Value,out.Perm vs->out.Pairwise (λx y=>lt (y,y) (x,x)=false)->Q (.ref (s.heap.objs.size+1)) {s with heap:=sortedAll s.heap vs out.toArray}):
  wpAny (model prog w) A (call (.builtin "sorted") [.ref l]) Q E s:=by
 have u:sizeLine=16777216:=aIf;have grown:((s.heap.push (seqObj "list" #[] 0)).update s.heap.objs.size (Obj.mapSeq (· ++vs.toArray))).objs.size=s.heap.objs.size+1:=by rw[Heap.size_update,size_push']
 have kept:∀b o,s.heap.get? b=some o->(((s.heap.push (seqObj "list" #[] 0)).update s.heap.objs.size (Obj.mapSeq (· ++vs.toArray))).push (seqObj "list" vs.toArray 0)).get? b=some o:=λb o e=>by
  have i:=aHz e;refine aHu _ ?_;rw[Heap.get?_update_ne _ _ _ _ (Nat.ne_of_lt i)];exact aHu _ e
 refine aKk kind_sorted plain_sorted entry_sorted (args_sorted1 _) ?_;unfold Builtin.«sorted»;refine aHs (m:=checkCount "sorted" 1 1 _) (aHt ?_);refine aHs (collect_list d ?_ (by omega));refine aHs (aLr ?_ (by omega))
 have ob:(((s.heap.push (seqObj "list" #[] 0)).update s.heap.objs.size (Obj.mapSeq (· ++vs.toArray))).push (seqObj "list" vs.toArray 0)).get? (s.heap.objs.size+1)=some (seqObj "list" vs.toArray 0):=by
  rw[<-grown];exact aHy _ rfl
 show wpAny _ _ _ _ _ {s with heap:=((s.heap.push (seqObj "list" #[] 0)).update s.heap.objs.size (Obj.mapSeq (· ++vs.toArray))).push (seqObj "list" vs.toArray 0)};rw[grown];refine aHs (aIj (aI7 slot_list_sort ⟨_,ob,rfl⟩ entry_list_sort (EV (κ:=κ) (s:={s with heap:=((s.heap.push (seqObj "list" #[] 0)).update s.heap.objs.size (Obj.mapSeq (· ++vs.toArray))).push (seqObj "list" vs.toArray 0)}) O ob c (λj h' k=>?_) λout n p=>⟨_,rfl,aHt ⟨_,rfl,h out n p⟩⟩) (args_list_sort _)));obtain⟨r,t⟩:=f j h' λb o e=>k b o (aI4 (aIr (aHz e))) (kept b o e);exact⟨r,λa q=>t a _ q⟩
end
end TS
namespace D3
open PySem PySem.Spec PyProof.Rows L2
inductive D where
 | bT | bl (b:Bool) | int (i:Int) | str (x:Str) | ty (n:String)
 | tup (ds:List D) | fl (ds:List D) | ref (n:Nat)
inductive MO where
 | lst (ds:List D)
 | bM (t:Bool) (kvs:List (D×D))
 | gD (t:Bool) (kvs:List (D×D)) (ob:Obj)
 | oth (ds:List D) (f:Addr->List V->HO)
abbrev MH:=List MO
abbrev dY:=List (Option D)
def QV(K:aLw)(H:Hp)(a:Addr)(xs:List V):Prop:=
 (∃o,H a=some (.tP o (.lst xs)))\/
  ∃(o:Obj) (aL:Array Value) (n:Nat),K.lookup a=some o/\o.cls= .type "list"/\o.dict=none/\o.data= .seq aL n/\aL.size<=sizeLine/\Vals xs aL.toList
variable{K:aLw}{H:Hp}{a:Addr}{xs:List V}
theorem QV.sq(h:QV K H a xs):rB K H a xs:=by
 rcases h with h | h
 ·exact .inl (.inr h)
 ·exact .inr h
def KU(K:aLw)(H:Hp)(a:Addr)(xs:List V):Prop:=
 H a=some (.tup xs)\/
  ∃(o:Obj) (aL:Array Value) (n:Nat),K.lookup a=some o/\o.cls= .type "tuple"/\o.dict=none/\o.data= .seq aL n/\aL.size<=sizeLine/\Vals xs aL.toList
theorem KU.of(h:H a=some (.tup xs)):KU K H a xs:= .inl h
theorem KU.sq(h:KU K H a xs):uL K H a xs:=by
 rcases h with h | h
 ·exact .inl (.inl h)
 ·exact .inr h
mutual
def Is(K:aLw)(μ:List Addr)(H:Hp):D->V->Prop
 | .bT,v=>v= .bT
 | .bl b,v=>v= .bl b
 | .int i,v=>v= .int i
 | .str x,v=>v= .str x
 | .ty n,v=>v= .ty n
 | .tup ds,v=>∃a vs,v= .ref a/\KU K H a vs/\IsL K μ H ds vs
 | .fl ds,v=>∃a vs,v= .ref a/\QV K H a vs/\IsL K μ H ds vs
 | .ref n,v=>∃a,μ[n]? =some a/\v= .ref a
def IsL(K:aLw)(μ:List Addr)(H:Hp):List D->List V->Prop
 | [],vs=>vs=[]
 | d::ds,vs=>∃v r,vs=v::r/\Is K μ H d v/\IsL K μ H ds r
end
def aW:Key->D
 | .inl i=>.int i
 | .inr x=>.str x
def tH(o:Option HO)(ks:List D)(vs:List V):Bool->Prop
 | false=>∃kk:List (Key×V),o=some (.dK kk)/\ks=kk.map (λp=>aW p.1)/\vs=kk.map (·.2)
 | true=>∃kk:List (List Key×V),o=some (.dT kk)/\ks=kk.map (λp=>.tup (p.1.map aW))/\vs=kk.map (·.2)
def Own:Option HO->Prop
 | some (.tP _ (.dK _))=>True
 | some (.tP _ (.dT _))=>True
 | o=>GK o
def nS(K:aLw)(μ:List Addr)(H:Hp):MO->Addr->Prop
 | .lst ds,a=>∃vs,H a=some (.lst vs)/\IsL K μ H ds vs
 | .bM t kvs,a=>∃vs,tH (H a) (kvs.map (·.1)) vs t/\IsL K μ H (kvs.map (·.2)) vs
 | .gD t kvs ob,a=>∃vs u,H a=some (.tP ob u)/\tH (some u) (kvs.map (·.1)) vs t/\IsL K μ H (kvs.map (·.2)) vs
 | .oth ds f,a=>∃vs,(H a=some (f a vs)/\Own (some (f a vs)))/\IsL K μ H ds vs
structure Rep(K:aLw)(μ:List Addr)(mh:MH)(H:Hp):Prop where
 len:μ.length=mh.length
 nd:μ.Nodup
 obj:∀(n:Nat) a o,μ[n]? =some a->mh[n]? =some o->nS K μ H o a
structure aJ(μ:List Addr)(H:Hp)(μ' :List Addr)(H' :Hp):Prop where
 pre:∃t,μ' =μ++t
 fr:∀b o,H b=some o->b∉μ->H' b=some o
 nw:∀a∈μ',a∈μ\/H a=none
def cD(K:aLw)(μ:List Addr)(H:Hp)(a:dY)(σ:L2.St):Prop:=
 a.length=σ.length/\∀(i:Nat) d,a[i]? =some (some d)->∃v,σ[i]? =some (some v)/\Is K μ H d v
section
variable {K:aLw}{μ μ1 μ2 μ' :List Addr}{mh mh' :MH}{H H1 H2 H' :Hp}
theorem nS.mut{o:MO}(h:nS K μ H o a):Own (H a):=by
 cases o with
 | lst ds=>obtain⟨vs,e,_⟩:=h;rw[e];trivial
 | bM t kvs=>cases t <;> (obtain⟨vs,⟨kk,e,_⟩,_⟩:=h;rw[e];trivial)
 | gD t kvs ob=>cases t <;> (obtain⟨vs,u,e,⟨kk,b,_⟩,_⟩:=h;cases b;rw[e];trivial)
 | oth ds f=>obtain⟨vs,⟨e,m⟩,_⟩:=h;rw[e];exact m
theorem Rep.at(R:Rep K μ mh H)(h:a∈μ):∃(n:Nat) (o:MO),μ[n]? =some a/\mh[n]? =some o/\nS K μ H o a:=by
 obtain⟨n,b⟩:=aJb.mp h;have c:n<mh.length:=by rw[<-R.len];exact(aHv.mp b).1
 exact⟨n,mh[n],b,by simp[c],R.obj n a _ b (by simp[c])⟩
theorem Rep.mut(R:Rep K μ mh H)(h:a∈μ):Own (H a):=let ⟨_,_,_,_,q⟩:=R.at h;q.mut
theorem aJ.refl:aJ μ H μ H:=⟨⟨[],by simp⟩,λ_ _ h _=>h,λ_ h=>.inl h⟩
theorem aJ.trans(p:aJ μ H μ1 H1)(q:aJ μ1 H1 μ2 H2):aJ μ H μ2 H2:=by
 refine⟨?_,λb o e n=>?_,λa d=>?_⟩
 ·obtain⟨t,rfl⟩:=p.pre;obtain⟨u,rfl⟩:=q.pre;exact⟨t++u,by simp⟩
 ·refine q.fr b o (p.fr b o e n) λf=>?_;rcases p.nw b f with z | z
  ·exact n z
  ·rw[e]at z;cases z
 ·rcases q.nw a d with z | z
  ·exact p.nw a z
  ·by_cases c:a∈μ
   ·exact .inl c
   ·right
    cases e:H a with
    | none=>rfl
    | some o=>rw[p.fr a o e c]at z;cases z
variable{n:Nat}
theorem aJ.get(p:aJ μ H μ' H')(h:μ[n]? =some a):μ'[n]? =some a:=by
 obtain⟨t,rfl⟩:=p.pre;rw[List.getElem?_append_left (List.getElem?_eq_some_iff.mp h).1];exact h
variable{vs:List V}
theorem Rep.sqT(R:Rep K μ mh H)(p:aJ μ H μ' H')(h:KU K H a vs):KU K H' a vs:=by
 rcases h with h | h
 ·refine .inl (p.fr _ _ h λb=>?_);have:=R.mut b;rw[h]at this;exact this
 ·exact .inr h
theorem Rep.sqF(R:Rep K μ mh H)(p:aJ μ H μ' H')(h:QV K H a vs):QV K H' a vs:=by
 rcases h with ⟨o,h⟩ | h
 ·refine .inl ⟨o,p.fr _ _ h λb=>?_⟩;have:=R.mut b;rw[h]at this;exact this
 ·exact .inr h
mutual
theorem Is.mono(R:Rep K μ mh H)(p:aJ μ H μ' H'):∀(d:D) (v:V),Is K μ H d v->Is K μ' H' d v
 | .bT,v,h=>by unfold Is at*;exact h
 | .bl _,v,h=>by unfold Is at*;exact h
 | .int _,v,h=>by unfold Is at*;exact h
 | .str _,v,h=>by unfold Is at*;exact h
 | .ty _,v,h=>by unfold Is at*;exact h
 | .tup ds,v,h=>by
  unfold Is at*;obtain⟨a,vs,e,s,l⟩:=h;exact⟨a,vs,e,R.sqT p s,IsL.mono R p ds vs l⟩
 | .fl ds,v,h=>by
  unfold Is at*;obtain⟨a,vs,e,s,l⟩:=h;exact⟨a,vs,e,R.sqF p s,IsL.mono R p ds vs l⟩
 | .ref n,v,h=>by
  unfold Is at*;obtain⟨a,e,q⟩:=h;exact⟨a,p.get e,q⟩
theorem IsL.mono(R:Rep K μ mh H)(p:aJ μ H μ' H'):∀(ds:List D) (vs:List V),IsL K μ H ds vs->IsL K μ' H' ds vs
 | [],vs,h=>by unfold IsL at*;exact h
 | d::ds,vs,h=>by
  unfold IsL at*;obtain⟨v,r,e,q,l⟩:=h;exact⟨v,r,e,Is.mono R p d v q,IsL.mono R p ds r l⟩
end
theorem cD.mono{a:dY}{σ:L2.St}(R:Rep K μ mh H)(p:aJ μ H μ' H')(E:cD K μ H a σ):cD K μ' H' a σ:=⟨E.1,λi d e=>by
 obtain⟨v,b,c⟩:=E.2 i d e
 exact⟨v,b,Is.mono R p d v c⟩⟩
theorem nS.mono{o:MO}(R:Rep K μ mh H)(p:aJ μ H μ' H')(e:H' a=H a)(h:nS K μ H o a):nS K μ' H' o a:=by
 cases o with
 | lst ds=>obtain⟨vs,q,l⟩:=h;exact⟨vs,by rw[e];exact q,IsL.mono R p ds vs l⟩
 | bM t kvs=>obtain⟨vs,q,l⟩:=h;exact⟨vs,by rw[e];exact q,IsL.mono R p _ vs l⟩
 | gD t kvs ob=>obtain⟨vs,u,q,q2,l⟩:=h;exact⟨vs,u,by rw[e];exact q,q2,IsL.mono R p _ vs l⟩
 | oth ds f=>obtain⟨vs,⟨q,m⟩,l⟩:=h;exact⟨vs,⟨by rw[e];exact q,m⟩,IsL.mono R p ds vs l⟩
variable{q:Addr}
theorem aJ.new{o:HO}(R:Rep K μ mh H)(a:H q=none):aJ μ H μ (upd H q o):=
 ⟨⟨[],by simp⟩,λb u e _=>by rw[aO (bR e a)];exact e,λ_ h=>.inl h⟩
theorem Rep.ne(R:Rep K μ mh H)(b:H q=none)(h:a∈μ):a≠q:=by
 rintro rfl;have:=R.mut h;rw[b]at this;exact this
theorem Rep.new{o:HO}(R:Rep K μ mh H)(b:H q=none):Rep K μ mh (upd H q o):=
 ⟨R.len,R.nd,λn a ob c d=>(R.obj n a ob c d).mono R (aJ.new R b) (aO (R.ne b (aI2 c)))⟩
theorem aJ.CZ{o:HO}(R:Rep K μ mh H)(c:H q=none):aJ μ H (μ++[q]) (upd H q o):=
 ⟨⟨[q],rfl⟩,λb u e _=>by rw[aO (bR e c)];exact e,λa h=>by
  rcases aI9.mp h with h | h
  ·exact .inl h
  ·simp at h;subst h;exact .inr c⟩
theorem Rep.CZ{ds:List D}(R:Rep K μ mh H)(e:H q=none)(l:IsL K μ H ds vs):Rep K (μ++[q]) (mh++[.lst ds]) (upd H q (.lst vs)):=by
 have P:aJ μ H (μ++[q]) (upd H q (.lst vs)):=aJ.CZ R e;refine⟨by simp[R.len],?_,λn a ob c d=>?_⟩
 ·rw[List.nodup_append];refine⟨R.nd,by simp,λa h b f=>?_⟩;simp at f;subst f;exact R.ne e h
 ·by_cases g:n<μ.length
  ·rw[List.getElem?_append_left g]at c;rw[List.getElem?_append_left (by rw[<-R.len];exact g)]at d;exact(R.obj n a ob c d).mono R P (aO (R.ne e (aI2 c)))
  ·rw[List.getElem?_append_right (by lia)]at c;rw[List.getElem?_append_right (by rw[<-R.len];lia)]at d
   have hz:n-μ.length=0:=by
    have:=(aHv.mp c).1;simp at this;lia
   rw[hz]at c;rw[<-R.len,hz]at d;simp at c d;subst c d;exact⟨vs,aR,l.mono R P⟩
theorem aJ.set{o:HO}(R:Rep K μ mh H)(h:μ[n]? =some a):aJ μ H μ (upd H a o):=
 ⟨⟨[],by simp⟩,λb u e c=>by rw[aO (λz=>c (by rw[z];exact List.mem_of_getElem? h))];exact e,λ_ h=>.inl h⟩
theorem HD{n m:Nat}(nd:μ.Nodup)(b:μ[n]? =some a)(c:μ[m]? =some a):n=m:=by
 obtain⟨l1,d⟩:=aHv.mp b;obtain⟨l2,e⟩:=aHv.mp c;exact(List.getElem_inj nd).mp (d.trans e.symm)
theorem Rep.set{ds:List D}(R:Rep K μ mh H)(h:μ[n]? =some a)(l:IsL K μ H ds vs):Rep K μ (mh.set n (.lst ds)) (upd H a (.lst vs)):=by
 have P:aJ μ H μ (upd H a (.lst vs)):=aJ.set R h;refine⟨by simp[R.len],R.nd,λm b ob c d=>?_⟩;by_cases e:m=n
 ·subst e;rw[h]at c;cases c;have f:m<mh.length:=by rw[<-R.len];exact(aHv.mp h).1
  rw[List.getElem?_set_self f]at d;cases d;exact⟨vs,aR,l.mono R P⟩
 ·rw[List.getElem?_set_ne (Ne.symm e)]at d;exact(R.obj m b ob c d).mono R P (aO λz=>e (HD R.nd c (by rw[z];exact h)))
end
abbrev DK:=D->MH->Prop
abbrev WE:=dY->MH->DK->Prop
def Fin(K:aLw)(μ:List Addr)(H:Hp)(R:DK)(Q:VK):Prop:=
 ∀d mh',R d mh' ->∀μ' v H',aJ μ H μ' H' ->Rep K μ' mh' H' ->Is K μ' H' d v->Q v H'
def tL(K:aLw)(w:WE):TE:=λσ H Q=>∃μ a mh R,Rep K μ mh H/\cD K μ H a σ/\w a mh R/\Fin K μ H R Q
def LE(X:Cx)(e:Expr)(w:WE):Prop:=PE X e (tL X.K w)
variable{X:Cx}
theorem PE.imp{e:Expr}{t t' :TE}(h:PE X e t)(i:∀σ H Q,t' σ H Q->t σ H Q):PE X e t' :=λpins s σ H Q I q=>h pins s σ H Q I (i σ H Q q)
variable{μ μ1:List Addr}{R:DK}{Q:VK}
theorem Fin.at{H a:Hp}(F:Fin K μ H R Q)(P:aJ μ H μ1 a):Fin K μ1 a R Q:=
 λd mh' r μ' v H' b c I=>F d mh' r μ' v H' (P.trans b) c I
def aA(i:Nat):WE:=λa mh Q=>∃d,a[i]? =some (some d)/\Q d mh
def wC(d:D):WE:=λ_ mh Q=>Q d mh
section
variable {X:Cx}{a b c:Expr}{wa wb wc:WE}{pos:Pos}
theorem Y9(i:Nat){x:Str}(hN:X.N[i]? =some x:=by rfl)(hv:Vis X.env.scope x:=by first | exact Or.inl rfl | exact Or.inr (Or.inl rfl) | exact Or.inr (Or.inr rfl))(hd:(x==("__debug__":Str))=false:=by decide)
  (a:(x==("__classdict__":Str))=false:=by decide):LE X (.Name x pos) (aA i):=PE.imp (XZ hN hv hd a) λσ H Q h=>by
 obtain⟨μ,c,mh,R,r,E,⟨d,hd,b⟩,F⟩:=h;obtain⟨v,e,i⟩:=E.2 _ d hd;exact⟨v,e,F d mh b μ v H aJ.refl r i⟩
theorem N8{e:Expr}{v:V}{d:D}(h:PE X e (tC v))(a:∀μ H,Is X.K μ H d v):LE X e (wC d):=PE.imp h λσ H Q h=>by
 obtain⟨μ,c,mh,R,r,E,b,F⟩:=h;exact F d mh b μ v H aJ.refl r (a μ H)
theorem le_int{i:Int}{j}:LE X (.Constant (.int i) j pos) (wC (.int i)):=N8 X6 λ_ _=>by unfold Is;rfl
theorem aDg{i:Bool}{j}:LE X (.Constant (.bool i) j pos) (wC (.bl i)):=N8 aCj λ_ _=>by unfold Is;rfl
theorem ZE{j}:LE X (.Constant .none j pos) (wC .bT):=N8 X3 λ_ _=>by unfold Is;rfl
theorem le_str{i:Str}{j}:LE X (.Constant (.str i) j pos) (wC (.str i)):=N8 X0 λ_ _=>by unfold Is;rfl
theorem UA{x:Str}{T:String}(hg:Gl X x)(a:X.mg x=none)(hv:bootBuiltins x=some (.type T))(b:x≠ "__name__":=by decide)(hd:(x==("__debug__":Str))=false:=by decide):LE X (.Name x pos) (wC (.ty T)):=
 N8 (SY (v:= .ty T) hg a hv rfl b hd) λ_ _=>by unfold Is;rfl
abbrev O1:=D->MH->DK->Prop
abbrev O2:=D->D->MH->DK->Prop
def bC(K:aLw)(f:O2):R2:=λx y H Q=>∃μ mh dx a R,Rep K μ mh H/\Is K μ H dx x/\Is K μ H a y/\f dx a mh R/\Fin K μ H R Q
def NW(K:aLw)(f:O1):V->Hp->VK->Prop:=λx H Q=>∃μ mh dx R,Rep K μ mh H/\Is K μ H dx x/\f dx mh R/\Fin K μ H R Q
def bE(f:O2)(wa wb:WE):WE:=λc mh Q=>wa c mh λx a=>wb c a λy b=>f x y b Q
def wUn(f:O1)(wa:WE):WE:=λb mh Q=>wa b mh λx a=>f x a Q
variable{f:O2}{σ:L2.St}
theorem CS(h:tL K (bE f wa wb) σ H Q):tOp (bC K f) (tL K wa) (tL K wb) σ H Q:=by
 obtain⟨μ,d,mh,R,e,E,h,F⟩:=h;refine⟨μ,d,mh,_,e,E,h,λdx a k μ1 l q g i m=>⟨μ1,d,a,_,i,E.mono e g,k,λn b o c r s j R2 p=>?_⟩⟩;exact⟨c,b,dx,n,R,R2,Is.mono i j dx l m,p,o,F.at (g.trans j)⟩
theorem aBg{f:O1}(h:tL K (wUn f wa) σ H Q):tUn (NW K f) (tL K wa) σ H Q:=by
 obtain⟨μ,b,mh,R,c,E,h,F⟩:=h;exact⟨μ,b,mh,_,c,E,h,λdx a d μ1 j k e g i=>⟨μ1,a,dx,R,g,i,d,F.at e⟩⟩
theorem aDa{c:Operator}(ho:dW X (binaryOp c) (bC X.K f))(d:LE X a wa)(e:LE X b wb):LE X (.BinOp a c b pos) (bE f wa wb):=PE.imp (aCe ho d e) λ_ _ _ h=>CS h
theorem aD9{b:UnaryOp}{f:O1}(ho:UnR X (unaryOp b) (NW X.K f))(c:LE X a wa):LE X (.UnaryOp b a pos) (wUn f wa):=PE.imp (aCd ho c) λ_ _ _ h=>aBg h
variable{op:CmpOp}
theorem N0(ho:dW X (compareOp op) (bC X.K f))(c:LE X a wa)(d:LE X b wb)(e:behindInMarks op b=false):LE X (.Compare a [op] [b] pos) (bE f wa wb):=PE.imp (SW ho c d e) λ_ _ _ h=>CS h
theorem HH(ho:QX X (bC X.K f))(c:LE X a wa)(d:LE X b wb)(e:IG b):LE X (.Subscript a b pos) (bE f wa wb):=PE.imp (aCg ho c d e) λ_ _ _ h=>CS h
def rE(f g:O2)(wa wb wc:WE):WE:=λb mh Q=>wa b mh λx c=>wb b c λy d=>f x y d λz a=>∃k,z= .bl k/\if k=true then wc b a λu e=>g y u e Q else Q (.bl false) a
theorem PY{f g:O2}(h:tL K (rE f g wa wb wc) σ H Q):LP (bC K f) (bC K g) (tL K wa) (tL K wb) (tL K wc) σ H Q:=by
 obtain⟨μ,i,mh,R,j,E,h,F⟩:=h;refine⟨μ,i,mh,_,j,E,h,λdx l z μ1 A M r s B=>⟨μ1,i,l,_,s,E.mono j r,z,λe m C n t N u R2 v=>?_⟩⟩;refine⟨n,m,dx,e,_,R2,Is.mono s u dx A B,v,C,λO c b d P D w o x=>?_⟩;obtain⟨k,rfl,b⟩:=b;unfold Is at x;refine⟨k,x,?_⟩;have a:=(r.trans u).trans w
 cases k with
 | false=>rw[if_neg Bool.false_ne_true]at b⊢;exact F _ c b d _ D a o (by unfold Is;rfl)
 | true=>
  rw[if_pos rfl]at b⊢;refine⟨d,i,c,_,o,(E.mono j a),b,λG p I q S T y J L=>?_⟩;exact⟨q,p,e,G,R,J,Is.mono o y e t (Is.mono R2 w e t v),L,I,F.at (a.trans y)⟩
abbrev WT:=dY->MH->(Bool->MH->Prop)->Prop
def VT(K:aLw)(μ:List Addr)(H:Hp)(R:Bool->MH->Prop)(Q:Bool->Hp->Prop):Prop:=
 ∀b mh',R b mh' ->∀μ' H',aJ μ H μ' H' ->Rep K μ' mh' H' ->Q b H'
def G1(K:aLw)(w:WT):TT:=λσ H Q=>∃μ a mh R,Rep K μ mh H/\cD K μ H a σ/\w a mh R/\VT K μ H R Q
def LT(X:Cx)(e:Expr)(w:WT):Prop:=PT X e (G1 X.K w)
def LW(X:Cx)(e:Expr)(w:WT):Prop:=PW X e (G1 X.K w)
theorem PT.imp{X:Cx}{e:Expr}{t t' :TT}(h:PT X e t)(i:∀σ H Q,t' σ H Q->t σ H Q):PT X e t' :=λpins s σ H Q I q=>h pins s σ H Q I (i σ H Q q)
theorem PW.imp{X:Cx}{e:Expr}{t t' :TT}(h:PW X e t)(i:∀σ H Q,t' σ H Q->t σ H Q):PW X e t' :=λa pins s σ H Q I q=>h a pins s σ H Q I (i σ H Q q)
variable{Q:Bool->Hp->Prop}
theorem VT.at{H a:Hp}{R:Bool->MH->Prop}(F:VT K μ H R Q)(P:aJ μ H μ1 a):VT K μ1 a R Q:=
 λb mh' r μ' H' c d =>F b mh' r μ' H' (P.trans c) d
def cJ(w:WE):WT:=λb mh Q=>w b mh λx a=>∃k,x= .bl k/\Q k a
theorem LD{t:TE}{w:WE}(i:∀σ H Q,tL K w σ H Q->t σ H Q)(h:G1 K (cJ w) σ H Q):LJ t σ H Q:=by
 obtain⟨μ,d,mh,R,e,E,h,F⟩:=h;refine i σ H _ ⟨μ,d,mh,_,e,E,h,λdx a b μ1 l f g j c=>?_⟩;obtain⟨k,rfl,b⟩:=b;unfold Is at c;exact⟨k,c,F k a b μ1 f g j⟩
theorem NO(ho:dW X (compareOp op) (bC X.K f))(c:LE X a wa)(d:LE X b wb)(e:behindInMarks op b=false):LT X (.Compare a [op] [b] pos) (cJ (bE f wa wb)):=
 PT.imp (SG ho c d e) λ_ _ _ h=>LD (λ_ _ _ z=>CS z) h
theorem NP{op d :CmpOp}{f g:O2}(ho:dW X (compareOp op) (bC X.K f))(e :dW X (compareOp d) (bC X.K g))(i:LE X a wa)(j:LE X b wb)(k:LE X c wc)
  (l:lastMarks [op,d] [b,c]=false:=by with_unfolding_all rfl):LT X (.Compare a [op,d] [b,c] pos) (cJ (rE f g wa wb wc)):=
 PT.imp (MJ ho e i j k l) λ_ _ _ h=>LD (λ_ _ _ z=>PY z) h
def i6(mh:MH):D->Option Bool
 | .bT=>some false
 | .bl b=>some b
 | .int i=>some (i !=0)
 | .str y=>if y.length<=sizeLine then some ((y.length:Int) !=0) else none
 | .tup ds=>some !ds.isEmpty
 | .fl ds=>some !ds.isEmpty
 | .ref n=>match mh[n]? with | some (.lst ds)=>some !ds.isEmpty | _=>none
 | .ty _=>none
theorem aV{K:aLw}{μ:List Addr}{H:Hp}:∀{ds:List D} {vs:List V},IsL K μ H ds vs->vs.length=ds.length
 | [],vs,h=>by unfold IsL at h;subst h;rfl
 | d::ds,vs,h=>by unfold IsL at h;obtain⟨v,r,rfl,_,l⟩:=h;simp[aV l]
theorem AY{ds:List D}{vs:List V}(h:IsL K μ H ds vs):vs.isEmpty=ds.isEmpty:=by
 have:=aV h;cases vs <;> cases ds <;> simp_all
theorem W4{mh:MH}{d:D}{v:V}{k:Bool}(R:Rep K μ mh H)(h:Is K μ H d v)(e:i6 mh d=some k):aAv K v H k:=by
 cases d with
 | bT=>unfold Is at h;subst h;simp[i6]at e;subst e;rfl
 | bl b=>unfold Is at h;subst h;simp[i6]at e;subst e;rfl
 | int i=>unfold Is at h;subst h;simp[i6]at e;subst e;rfl
 | str y=>
  unfold Is at h;subst h;simp only[i6]at e;split at e
  ·rename_i hl;exact⟨hl,(aIn e).symm⟩
  ·cases e
 | ty n=>simp[i6]at e
 | tup ds=>
  unfold Is at h;obtain⟨a,vs,rfl,s,l⟩:=h;obtain rfl:(!ds.isEmpty)=k:=aIn e;exact .inr (.inl ⟨vs,s.sq,by rw[AY l]⟩)
 | fl ds=>
  unfold Is at h;obtain⟨a,vs,rfl,s,l⟩:=h;obtain rfl:(!ds.isEmpty)=k:=aIn e;exact .inl ⟨vs,s.sq,by rw[AY l]⟩
 | ref n=>
  unfold Is at h;obtain⟨a,q,rfl⟩:=h;simp only[i6]at e
  cases o:mh[n]? with
  | none=>rw[o]at e;cases e
  | some ob=>
   cases ob with
   | lst ds=>
    rw[o]at e;cases e;obtain⟨vs,hv,l⟩:=R.obj n a _ q o;exact .inl ⟨vs,.of hv,by rw[AY l]⟩
   | bM t kvs=>rw[o]at e;cases e
   | gD t kvs ob=>rw[o]at e;cases e
   | oth ds f=>rw[o]at e;cases e
def oH(w:WE):WT:=λb mh Q=>w b mh λx a=>∃k,i6 a x=some k/\Q k a
theorem NM(g:LE X a wa)(he:∀b,isTrue a X.env b=(do let v<-b;standAt a.pos;holding [v] (truthy v)):=by intro _;rfl):LT X a (oH wa):=PT.imp (MI g he) λσ H Q h=>by
 obtain⟨μ,i,mh,R,j,E,h,F⟩:=h;refine⟨μ,i,mh,_,j,E,h,λdx c d μ1 o l m f n=>?_⟩;obtain⟨k,e,d⟩:=d;exact⟨k,W4 f n e,F k c d μ1 l m f⟩
def oX(t u:WT):WT:=λb mh Q=>t b mh λc a=>if c=true then u b a Q else Q false a
def zI(t u:WT):WT:=λb mh Q=>t b mh λc a=>if c=true then Q true a else u b a Q
def mX(t:WT):WT:=λb mh Q=>t b mh λc a=>Q (!c) a
variable {ta tb:WT}{rest:List Expr}
theorem TV(b:LT X a ta):LW X (.BoolOp .And [a] pos) ta:=SD b
theorem YW(b:LT X a ta):LW X (.BoolOp .Or [a] pos) ta:=XM b
theorem NL(k:LT X a ta)(l:LW X (.BoolOp .And (b::rest) pos) tb):LW X (.BoolOp .And (a::b::rest) pos) (oX ta tb):=PW.imp (XN k l) λσ H Q h=>by
 obtain⟨μ,g,mh,R,i,E,h,F⟩:=h;refine⟨μ,g,mh,_,i,E,h,λc d e μ1 m f j=>?_⟩
 cases c with
 | true=>rw[if_pos rfl]at e⊢;exact⟨μ1,g,d,R,j,E.mono i f,e,F.at f⟩
 | false=>rw[if_neg Bool.false_ne_true]at e⊢;exact F false d e μ1 m f j
theorem WK(k:LT X a ta)(l:LW X (.BoolOp .Or (b::rest) pos) tb):LW X (.BoolOp .Or (a::b::rest) pos) (zI ta tb):=PW.imp (aCa k l) λσ H Q h=>by
 obtain⟨μ,g,mh,R,i,E,h,F⟩:=h;refine⟨μ,g,mh,_,i,E,h,λc d e μ1 m f j=>?_⟩
 cases c with
 | true=>rw[if_pos rfl]at e⊢;exact F true d e μ1 m f j
 | false=>rw[if_neg Bool.false_ne_true]at e⊢;exact⟨μ1,g,d,R,j,E.mono i f,e,F.at f⟩
theorem LW.lt(h:LW X a ta):LT X a ta:=PW.pt h
theorem YX(d:LT X a ta):LT X (.UnaryOp .Not a pos) (mX ta):=PT.imp (XO d) λσ H Q h=>by
 obtain⟨μ,e,mh,R,f,E,h,F⟩:=h;exact⟨μ,e,mh,_,f,E,h,λc b g μ1 i j k=>F (!c) b g μ1 i j k⟩
def sO(wa wb:WE):WE:=λb mh Q=>wa b mh λx a=>∃c,x= .bl c/\if c=true then wb b a Q else Q (.bl false) a
theorem ZC{op}(b:LE X a wa):LE X (.BoolOp op [a] pos) wa:=X1 b
theorem ZL(l:LE X a wa)(m:LE X (.BoolOp .And (b::rest) pos) wb):LE X (.BoolOp .And (a::b::rest) pos) (sO wa wb):=PE.imp (X7 l m) λσ H Q h=>by
 obtain⟨μ,g,mh,R,i,E,h,F⟩:=h;refine⟨μ,g,mh,_,i,E,h,λdx e d μ1 o n f j k=>?_⟩;obtain⟨c,rfl,d⟩:=d;unfold Is at k;refine⟨c,k,?_⟩
 cases c with
 | true=>rw[if_pos rfl]at d⊢;exact⟨μ1,g,e,R,j,E.mono i f,d,F.at f⟩
 | false=>rw[if_neg Bool.false_ne_true]at d⊢;exact F _ e d μ1 _ n f j (by unfold Is;rfl)
def GW(wa:WE):WE:=λb mh Q=>wa b mh λx a=>∃c,x= .bl c/\Q (.bl !c) a
theorem ZD(f:LE X a wa):LE X (.UnaryOp .Not a pos) (GW wa):=PE.imp (X2 f) λσ H Q h=>by
 obtain⟨μ,g,mh,R,i,E,h,F⟩:=h;refine⟨μ,g,mh,_,i,E,h,λdx b d μ1 m j k l e=>?_⟩;obtain⟨c,rfl,d⟩:=d;unfold Is at e;exact⟨c,e,F _ b d μ1 _ j k l (by unfold Is;rfl)⟩
end
abbrev WA:=dY->MH->(List D->MH->Prop)->Prop
def FinA(K:aLw)(μ:List Addr)(H:Hp)(R:List D->MH->Prop)(Q:List V->Hp->Prop):Prop:=
 ∀ds mh',R ds mh' ->∀μ' vs H',aJ μ H μ' H' ->Rep K μ' mh' H' ->IsL K μ' H' ds vs->Q vs H'
def tLA(K:aLw)(w:WA):TA:=λσ H Q=>∃μ a mh R,Rep K μ mh H/\cD K μ H a σ/\w a mh R/\FinA K μ H R Q
def LA(X:Cx)(es:List Expr)(w:WA):Prop:=PA X es (tLA X.K w)
theorem PA.imp{e:List Expr}{t t' :TA}(h:PA X e t)(i:∀σ H Q,t' σ H Q->t σ H Q):PA X e t' :=λpos pins s σ H Q I q=>h pos pins s σ H Q I (i σ H Q q)
def aI:WA:=λ_ mh Q=>Q [] mh
def aB(w:WE)(d:WA):WA:=λc mh Q=>w c mh λx a=>d c a λxs b=>Q (x::xs) b
def YT(ds:List D)(mh:MH)(Q:DK):Prop:=ds.length<=sizeLine/\Q (.tup ds) mh
def FF(ds:List D)(mh:MH)(Q:DK):Prop:=ds.length<=sizeLine/\Q (.ref mh.length) (mh++[.lst ds])
section
variable {K:aLw}{μ:List Addr}{mh:MH}{H:Hp}{R:DK}{Q:VK}{ds:List D}{vs:List V}
theorem oA(a:Rep K μ mh H)(F:Fin K μ H R Q)(l:IsL K μ H ds vs)(h:R (.tup ds) mh):∀p,H p=none->Q (.ref p) (upd H p (.tup vs)):=λp b=>
 F _ mh h μ _ _ (aJ.new a b) (a.new b) (by unfold Is;exact⟨p,vs,rfl,.of aR,IsL.mono a (aJ.new a b) ds vs l⟩)
theorem jM(a:Rep K μ mh H)(F:Fin K μ H R Q)(l:IsL K μ H ds vs)(h:R (.ref mh.length) (mh++[.lst ds])):∀p,H p=none->Q (.ref p) (upd H p (.lst vs)):=λp b=>
 F _ _ h (μ++[p]) _ _ (aJ.CZ a b) (a.CZ b l) (by unfold Is;exact⟨p,by rw[<-a.len];simp,rfl⟩)
end
def mJ(w:WA):WE:=λb mh Q=>w b mh λds a=>YT ds a Q
def oI(w:WA):WE:=λb mh Q=>w b mh λds a=>FF ds a Q
section
variable {X:Cx}{e:Expr}{es:List Expr}{w:WE}{wr:WA}{pos:Pos}
theorem ZP:LA X [] aI:=PA.imp vB λσ H Q h=>by
 obtain⟨μ,b,mh,R,a,E,h,F⟩:=h;exact F [] mh h μ [] H aJ.refl a (by unfold IsL;rfl)
theorem UM(l:LE X e w)(m:LA X es wr)(n:starEach (e::es) X.env=(false,eval e X.env)::starEach es X.env:=by rfl):LA X (e::es) (aB w wr):=PA.imp (uB l m n) λσ H Q h=>by
 obtain⟨μ,d,mh,R,f,E,h,F⟩:=h;refine⟨μ,d,mh,_,f,E,h,λdx a o μ1 g t i j p=>⟨μ1,d,a,_,j,E.mono f i,o,λds b q c vs r k R2 s=>?_⟩⟩;exact F _ b q c _ r (i.trans k) R2 (by unfold IsL;exact⟨g,vs,rfl,Is.mono j k dx g p,s⟩)
theorem ZA{x1}(h:LA X es wr):LE X (.Tuple es x1 pos) (mJ wr):=PE.imp (MT h) λσ H Q h=>by
 obtain⟨μ,c,mh,R,d,E,h,F⟩:=h;refine⟨μ,c,mh,_,d,E,h,λds e a μ1 vs i f g b=>⟨by rw[aV b];exact a.1,oA g (F.at f) b a.2⟩⟩
theorem ZG(h:LA X es wr):LE X (.List es pos) (oI wr):=PE.imp (X4 h) λσ H Q h=>by
 obtain⟨μ,c,mh,R,d,E,h,F⟩:=h;refine⟨μ,c,mh,_,d,E,h,λds e a μ1 vs i f g b=>⟨by rw[aV b];exact a.1,jM g (F.at f) b a.2⟩⟩
abbrev OA:=List D->MH->DK->Prop
def dU(K:aLw)(f:OA):List V->Hp->VK->Prop:=λxs H Q=>∃μ mh ds R,Rep K μ mh H/\IsL K μ H ds xs/\f ds mh R/\Fin K μ H R Q
def aG(f:OA)(w:WA):WE:=λb mh Q=>w b mh λds a=>f ds a Q
theorem call_in{f:OA}{σ:L2.St}(h:tL K (aG f wr) σ H Q):tCB (dU K f) (tLA K wr) σ H Q:=by
 obtain⟨μ,b,mh,R,c,E,h,F⟩:=h;exact⟨μ,b,mh,_,c,E,h,λds a d μ1 vs j e g i=>⟨μ1,a,ds,R,g,i,d,F.at e⟩⟩
theorem N7{x:Str}{p:Pos}{id:String}{f:OA}(c:cE X (.builtin id) (dU X.K f))(hg:Gl X x)(d:X.mg x=none)(hv:bootBuiltins x=some (.builtin id))(g:LA X (e::es) wr)(i:x≠ "__name__":=by decide)(a:(x==("__debug__":Str))=false:=by decide)
  (he:starEach (e::es) X.env=(false,eval e X.env)::starEach es X.env:=by rfl) (b:(backTo pos (starEach es X.env)).any (·.1)=false:=by rfl):LE X (.Call (.Name x p) (e::es) [] pos) (aG f wr):=
 PE.imp (vA c hg d hv g i a he b) λ_ _ _ h=>call_in h
theorem JU{x:Str}{p:Pos}{T:String}{f:OA}(c:cE X (.type T) (dU X.K f))(hg:Gl X x)(d:X.mg x=none)(hv:bootBuiltins x=some (.type T))(g:LA X (e::es) wr)(i:x≠ "__name__":=by decide)(a:(x==("__debug__":Str))=false:=by decide)
  (he:starEach (e::es) X.env=(false,eval e X.env)::starEach es X.env:=by rfl) (b:(backTo pos (starEach es X.env)).any (·.1)=false:=by rfl):LE X (.Call (.Name x p) (e::es) [] pos) (aG f wr):=
 PE.imp (yK c hg d hv g i a he b) λ_ _ _ h=>call_in h
def QT(K:aLw)(f:OA):Sp:=λvs H Q _=>dU K f vs H Q
theorem UJ{k:Nat}{f:Addr}{fd:FuncData}{ps:List Str}{x:Str}{p:Pos}{s:OA}(F:kX X.prog X.w X.K X.mg X.base EF k f fd ps (QT X.K s))(d:gX k X.A)(hg:Gl X x)(g:X.mg x=some (.ref f))(hk:PySem.W.keepIn X.K (.ref f)=true)(i:Binds X.K fd ps [])
  (j:LA X (e::es) wr) (a:(x==("__debug__":Str))=false:=by decide) (he:starEach (e::es) X.env=(false,eval e X.env)::starEach es X.env:=by rfl) (b:(backTo pos (starEach es X.env)).any (·.1)=false:=by rfl):
  LE X (.Call (.Name x p) (e::es) [] pos) (aG s wr):=PE.imp (SX F d hg g hk i .nil aCk j a he b) λσ H Q h=>by
 obtain⟨μ,l,mh,R,m,E,h,n⟩:=h;refine⟨μ,l,mh,_,m,E,h,λds c o μ1 vs q r t u=>?_⟩;show dU X.K s (vs++[]) q Q;rw[List.append_nil];exact⟨μ1,c,ds,R,t,u,o,n.at r⟩
end
section
variable {K:aLw}{μ:List Addr}{mh:MH}{H:Hp}
theorem Is.int{i:Int}:Is K μ H (.int i) (.int i):=by unfold Is;rfl
theorem Is.str{i:Str}:Is K μ H (.str i) (.str i):=by unfold Is;rfl
theorem Is.bl{i:Bool}:Is K μ H (.bl i) (.bl i):=by unfold Is;rfl
theorem Is.bT:Is K μ H .bT .bT:=by unfold Is;rfl
variable{v:V}
theorem bK{i:Int}(h:Is K μ H (.int i) v):v= .int i:=by unfold Is at h;exact h
theorem d4{i:Str}(h:Is K μ H (.str i) v):v= .str i:=by unfold Is at h;exact h
theorem DC{i:Bool}(h:Is K μ H (.bl i) v):v= .bl i:=by unfold Is at h;exact h
theorem AX(h:Is K μ H .bT v):v= .bT:=by unfold Is at h;exact h
variable{ds:List D}
theorem AW(h:Is K μ H (.tup ds) v):∃a vs,v= .ref a/\KU K H a vs/\IsL K μ H ds vs:=by unfold Is at h;exact h
theorem dS(h:Is K μ H (.tup ds) v):∃a vs,v= .ref a/\uL K H a vs/\IsL K μ H ds vs:=by obtain⟨a,vs,e,s,l⟩:=AW h;exact⟨a,vs,e,s.sq,l⟩
theorem o6(h:Is K μ H (.fl ds) v):∃a vs,v= .ref a/\QV K H a vs/\IsL K μ H ds vs:=by unfold Is at h;exact h
theorem jV{n:Nat}(h:Is K μ H (.ref n) v):∃a,μ[n]? =some a/\v= .ref a:=by unfold Is at h;exact h
theorem d9:∀{ds:List D} {vs:List V} {i:Nat} {d:D},IsL K μ H ds vs->ds[i]? =some d->∃v,vs[i]? =some v/\Is K μ H d v
 | [],_,_,_,_,e=>by simp at e
 | x::ds,vs,i,d,h,e=>by
  unfold IsL at h;obtain⟨v,r,rfl,q,l⟩:=h
  cases i with
  | zero=>simp at e;subst e;exact⟨v,rfl,q⟩
  | succ i=>obtain⟨u,a,b⟩:=d9 (i:=i) l (by simpa using e);exact⟨u,by simpa using a,b⟩
theorem lR:∀{ds es:List D} {vs us:List V},IsL K μ H ds vs->IsL K μ H es us->IsL K μ H (ds++es) (vs++us)
 | [],es,vs,us,h,q=>by unfold IsL at h;subst h;exact q
 | d::ds,es,vs,us,h,q=>by
  unfold IsL at h;obtain⟨v,r,rfl,i,l⟩:=h;show IsL K μ H (d::(ds++es)) (v::(r++us));unfold IsL;exact⟨v,_,rfl,i,lR l q⟩
variable{d:D}
theorem fN(h:Is K μ H d v):IsL K μ H [d] [v]:=by unfold IsL;exact⟨v,[],rfl,h,by unfold IsL;rfl⟩
theorem DF:∀(n:Nat) {ds:List D} {vs:List V},IsL K μ H ds vs->IsL K μ H (ds.drop n) (vs.drop n)
 | 0,_,_,h=>by simpa using h
 | n+1,[],vs,h=>by unfold IsL at h;subst h;simp[IsL]
 | n+1,d::ds,vs,h=>by unfold IsL at h;obtain⟨v,r,rfl,_,l⟩:=h;simpa using DF n l
theorem DD:∀(n:Nat) {ds:List D} {vs:List V},IsL K μ H ds vs->IsL K μ H (ds.take n) (vs.take n)
 | 0,_,_,h=>by simp[IsL]
 | n+1,[],vs,h=>by unfold IsL at h;subst h;simp[IsL]
 | n+1,d::ds,vs,h=>by
  unfold IsL at h;obtain⟨v,r,rfl,i,l⟩:=h;simp only[List.take_succ_cons];unfold IsL;exact⟨v,_,rfl,i,DD n l⟩
theorem HR:∀(n:Nat) {ds:List D} {vs:List V} {d:D} {v:V},Is K μ H d v->IsL K μ H ds vs->IsL K μ H (ds.set n d) (vs.set n v)
 | n,[],vs,d,v,_,h=>by unfold IsL at h;subst h;simp[IsL]
 | 0,x::ds,vs,d,v,i,h=>by unfold IsL at h;obtain⟨u,r,rfl,_,l⟩:=h;simp only[List.set_cons_zero];unfold IsL;exact⟨v,r,rfl,i,l⟩
 | n+1,x::ds,vs,d,v,i,h=>by unfold IsL at h;obtain⟨u,r,rfl,q,l⟩:=h;simp only[List.set_cons_succ];unfold IsL;exact⟨u,_,rfl,q,HR n i l⟩
theorem Z6{vs:List V}{i:Int}(l:IsL K μ H ds vs)(e:pP ds i=some d):∃v,pP vs i=some v/\Is K μ H d v:=by
 unfold pP at*;rw[aV l]
 cases q:FP ds.length i with
 | none=>rw[q]at e;cases e
 | some j=>rw[q]at e;exact d9 l e
def aX(mh:MH):D->Option (List D)
 | .tup ds=>some ds
 | .fl ds=>some ds
 | .ref n=>match mh[n]? with | some (.lst ds)=>some ds | _=>none
 | _=>none
theorem pC(R:Rep K μ mh H)(h:Is K μ H d v)(e:aX mh d=some ds):∃a vs,v= .ref a/\(rB K H a vs\/uL K H a vs)/\IsL K μ H ds vs:=by
 cases d with
 | tup es=>obtain⟨a,vs,rfl,s,l⟩:=dS h;cases e;exact⟨a,vs,rfl,.inr s,l⟩
 | fl es=>obtain⟨a,vs,rfl,s,l⟩:=o6 h;cases e;exact⟨a,vs,rfl,.inl s.sq,l⟩
 | ref n=>
  obtain⟨a,q,rfl⟩:=jV h;simp only[aX]at e
  cases o:mh[n]? with
  | none=>rw[o]at e;cases e
  | some ob=>
   cases ob with
   | lst es=>
    rw[o]at e;cases e;obtain⟨vs,hv,l⟩:=R.obj n a _ q o;exact⟨a,vs,rfl,.inl (.of hv),l⟩
   | bM t kvs=>rw[o]at e;cases e
   | gD t kvs ob=>rw[o]at e;cases e
   | oth ds f=>rw[o]at e;cases e
 | _=>cases e
def i7(mh:MH):D->Option (List D)
 | .fl ds=>some ds
 | .ref n=>match mh[n]? with | some (.lst ds)=>some ds | _=>none
 | _=>none
theorem nE(R:Rep K μ mh H)(h:Is K μ H d v)(e:i7 mh d=some ds):∃a vs,v= .ref a/\rB K H a vs/\IsL K μ H ds vs:=by
 cases d with
 | fl es=>obtain⟨a,vs,rfl,s,l⟩:=o6 h;cases e;exact⟨a,vs,rfl,s.sq,l⟩
 | ref n=>
  obtain⟨a,q,rfl⟩:=jV h;simp only[i7]at e
  cases o:mh[n]? with
  | none=>rw[o]at e;cases e
  | some ob=>
   cases ob with
   | lst es=>
    rw[o]at e;cases e;obtain⟨vs,hv,l⟩:=R.obj n a _ q o;exact⟨a,vs,rfl,.of hv,l⟩
   | bM t kvs=>rw[o]at e;cases e
   | gD t kvs ob=>rw[o]at e;cases e
   | oth ds f=>rw[o]at e;cases e
 | _=>cases e
theorem lN{n:Nat}(R:Rep K μ mh H)(h:Is K μ H (.ref n) v)(e:mh[n]? =some (.lst ds)):∃a vs,v= .ref a/\μ[n]? =some a/\H a=some (.lst vs)/\IsL K μ H ds vs:=by
 obtain⟨a,q,rfl⟩:=jV h;obtain⟨vs,hv,l⟩:=R.obj n a _ q e;exact⟨a,vs,rfl,q,hv,l⟩
theorem Fin.here(F:Fin K μ H R Q)(a:Rep K μ mh H)(h:R d mh)(i:Is K μ H d v):Q v H:=F d mh h μ v H aJ.refl a i
theorem Fin.put{n:Nat}{vs:List V}(F:Fin K μ H R Q)(b:Rep K μ mh H)(c:μ[n]? =some a)(l:IsL K μ H ds vs)(h:R d (mh.set n (.lst ds)))(i:Is K μ H d v):Q v (upd H a (.lst vs)):=
 F d _ h μ v _ (aJ.set b c) (b.set c l) (Is.mono b (aJ.set b c) d v i)
end
def CT(C:Int->Int->Prop)(g:Int->Int->D):O2:=λx y mh Q=>∃i j,x= .int i/\y= .int j/\C i j/\Q (g i j) mh
section
variable {X:Cx}
variable{f:Value->Value->Sem Value}{g:Int->Int->V}
theorem vE{C:Int->Int->Prop}{g' :Int->Int->D}(h:dW X f (rI C g))(hg:∀μ H i j,Is X.K μ H (g' i j) (g i j)):dW X f (bC X.K (CT C g')):=by
 intro pins s σ H x y v u Q I a b q;obtain⟨μ,mh,dx,l,R,d,e,k,⟨i,j,rfl,rfl,c,q⟩,F⟩:=q;cases bK e;cases bK k;exact h pins s σ H _ _ v u Q I a b ⟨i,j,rfl,rfl,c,F.here d q (hg _ _ _ _)⟩
theorem aC8(h:dW X f (R0 g)):dW X f (rI (λ_ _=>True) g):=λpins s σ H x y v u Q I b c a=>by obtain⟨i,j,d,e,_,q⟩:=a;exact h pins s σ H x y v u Q I b c ⟨i,j,d,e,q⟩
abbrev YN:O2:=CT (λ_ _=>True) λi j=>.int (i-j)
abbrev vG:O2:=CT KW λi j=>.int (i*j)
abbrev HA:O2:=CT aEu λi j=>.int (i / j)
abbrev oMod:O2:=CT (λ_ j=>0<j) λi j=>.int (i % j)
abbrev MZ:O2:=CT aAz λi j=>.int (i^j.toNat)
theorem YE:dW X (binaryOp .Sub) (bC X.K YN):=vE (aC8 X8) λ_ _ _ _=>.int
theorem YI:dW X (binaryOp .Mult) (bC X.K vG):=vE YA λ_ _ _ _=>.int
theorem S8:dW X (binaryOp .FloorDiv) (bC X.K HA):=vE S4 λ_ _ _ _=>.int
theorem YJ:dW X (binaryOp .Mod) (bC X.K oMod):=vE YB λ_ _ _ _=>.int
theorem YF:dW X (binaryOp .Pow) (bC X.K MZ):=vE X9 λ_ _ _ _=>.int
def JH:O1:=λx mh Q=>∃i,x= .int i/\Q (.int (-i)) mh
theorem WY:UnR X (unaryOp .USub) (NW X.K JH):=by
 intro pins s σ H x v Q I a q;obtain⟨μ,mh,dx,R,b,c,⟨i,rfl,q⟩,F⟩:=q;cases bK c;exact WX pins s σ H _ v Q I a ⟨i,rfl,F.here b q .int⟩
def iP:O2:=λx y mh Q=>match x with
 | .int i=>match y with | .int j=>Q (.int (i+j)) mh | _=>False
 | .str i=>match y with | .str j=>i.length+j.length<=sizeLine/\Q (.str (i++j)) mh | _=>False
 | .tup i=>match y with | .tup j=>i.length+j.length<=sizeLine/\Q (.tup (i++j)) mh | _=>False
 | .ref n=>match y with | .ref m=>∃i j,mh[n]? =some (.lst i)/\mh[m]? =some (.lst j)/\FF (i++j) mh Q | _=>False
 | _=>False
theorem PZ{prog:Program}{w:World}{A:Around}{E:aLx}{s:Shared}{t b:Addr}{g:List Value}{Q:aLx}(ht:IsTup s.heap t ([]:List Value).toArray)(k:IsTup s.heap b g.toArray)
  (h:Q (.ref b) s):wpAny (model prog w) A (binaryOp .Add (.ref t) (.ref b)) Q E s:=by
 obtain⟨⟨cls,l,data,sl⟩,ho,i,n,hd⟩:=id ht;obtain⟨⟨j,e,data2,f⟩,a,c,n2,d⟩:=id k;simp only at i hd c d;subst i hd c d
 exact concat_meets ⟨_,ho,rfl⟩ ⟨_,a,rfl⟩ noFill_tuple_add seq_tuple_add aKz aKw (aKq _ _)
   (tuple_addW0 t b _ g.toArray n n2 l e sl f (by simp)) ⟨ho,a,h⟩
theorem YM:dW X (binaryOp .Add) (bC X.K iP):=by
 intro pins s σ H x y v u Q I g h q;obtain⟨μ,mh,dx,o,R,c,k,l,q,F⟩:=q
 cases dx with
 | int i=>cases o with
  | int j=>cases bK k;cases bK l;exact YD pins s σ H _ _ v u Q I g h ⟨i,j,rfl,rfl,F.here c q .int⟩
  | _=>exact False.elim q
 | str i=>cases o with
  | str j=>cases d4 k;cases d4 l;exact FA pins s σ H _ _ v u Q I g h ⟨i,j,rfl,rfl,q.1,F.here c q.2 .str⟩
  | _=>exact False.elim q
 | tup i=>cases o with
  | tup j=>
   obtain⟨a,xs,rfl,p,d⟩:=dS k;obtain⟨b,t,rfl,r,f⟩:=dS l;by_cases w:xs=[]
   ·subst w;cases g;cases h;obtain⟨aL,r1,A,_⟩:=I.tuple p;obtain⟨z,r2,B,_⟩:=I.tuple r;cases r1;have hi:i=[]:=by have:=aV d;cases i <;> simp_all
    subst hi;exact PZ A B ⟨.ref b,H,I,rfl,F.here c q.2 l⟩
   ·refine S5 pins s σ H _ _ v u Q I g h ⟨a,b,xs,t,rfl,rfl,p,r,w,by rw[aV d,aV f];exact q.1,λe=>?_,λ_=>oA c F (lR d f) q.2⟩;subst e;have C:j=[]:=by have:=aV f;cases j <;> simp_all
    subst C;exact F.here c q.2 (by simpa using k)
  | _=>exact False.elim q
 | ref n=>cases o with
  | ref m=>
   obtain⟨i,j,D,E,q⟩:=q;obtain⟨a,xs,rfl,_,p,d⟩:=lN c k D;obtain⟨b,t,rfl,_,r,f⟩:=lN c l E;exact YC pins s σ H _ _ v u Q I g h ⟨a,b,xs,t,rfl,rfl,p,r,by rw[aV d,aV f,<-List.length_append];exact q.1,jM c F (lR d f) q.2⟩
  | _=>exact False.elim q
 | _=>exact False.elim q
def gV:O2:=λx y mh Q=>∃i,y= .int i/\match x with
 | .str z=>z.length<=sizeLine/\∃c,pP z.cps.toList i=some c/\Q (.str ⟨#[c]⟩) mh
 | _=>∃ds d,aX mh x=some ds/\pP ds i=some d/\Q d mh
theorem ixl:QX X (bC X.K gV):=by
 intro b f pins s σ H x y v u Q I h j q k;obtain⟨μ,mh,dx,C,R,g,n,r,⟨i,rfl,q⟩,F⟩:=q;cases bK r
 have go:(∃ds d,aX mh dx=some ds/\pP ds i=some d/\R d mh)->wpAny (model X.prog X.w) X.A (subscriptTail b f v u) (EP X pins σ Q) X.xe s:=λm=>by
  obtain⟨ds,d,t,B,q⟩:=m;obtain⟨a,vs,rfl,sq,l⟩:=pC g n t;obtain⟨z,o,p⟩:=Z6 l B;rcases sq with sq | sq
  ·exact UO b f pins s σ H _ _ v u Q I h j ⟨a,vs,i,z,rfl,rfl,sq,o,F.here g q p⟩ k
  ·exact ZY b f pins s σ H _ _ v u Q I h j ⟨a,vs,i,z,rfl,rfl,sq,o,F.here g q p⟩ k
 cases dx with
 | str z=>
  obtain⟨hz,c,e,q⟩:=q;cases d4 n;exact ZZ b f pins s σ H _ _ v u Q I h j ⟨z,i,c,rfl,rfl,hz,e,F.here g q .str⟩ k
 | _=>exact go q
def iS:D->Bool | .bT=>true | _=>false
theorem OR{d:D}{v:V}(h:Is K μ H d v):decide (v= .bT)=iS d:=by
 cases d with
 | bT=>cases AX h;rfl
 | bl _=>cases DC h;rfl
 | int _=>cases bK h;rfl
 | str _=>cases d4 h;rfl
 | ty _=>unfold Is at h;subst h;rfl
 | tup _=>obtain⟨a,vs,rfl,_,_⟩:=dS h;rfl
 | fl _=>obtain⟨a,vs,rfl,_,_⟩:=o6 h;rfl
 | ref _=>obtain⟨a,_,rfl⟩:=jV h;rfl
def nB:O2:=λx y mh Q=>y= .bT/\Q (.bl !iS x) mh
theorem S7:dW X (compareOp .IsNot) (bC X.K nB):=by
 intro pins s σ H x y v u Q I a b q;obtain⟨μ,mh,dx,f,R,c,d,e,⟨rfl,q⟩,F⟩:=q;cases AX e;exact S3 pins s σ H x _ v u Q I a b ⟨rfl,F.here c q (by rw[OR d];exact .bl)⟩
def gC:OA:=λxs mh Q=>∃x,xs=[x]/\match x with
 | .str z=>z.length<=sizeLine/\Q (.int z.length) mh
 | _=>∃ds,aX mh x=some ds/\Q (.int ds.length) mh
variable{vs:List V}
theorem hJ{d:D}(h:IsL K μ H [d] vs):∃v,vs=[v]/\Is K μ H d v:=by
 unfold IsL at h;obtain⟨v,r,rfl,i,l⟩:=h;unfold IsL at l;subst l;exact⟨v,rfl,i⟩
theorem vQ{d e:D}(h:IsL K μ H [d,e] vs):∃v u,vs=[v,u]/\Is K μ H d v/\Is K μ H e u:=by
 unfold IsL at h;obtain⟨v,r,rfl,i,l⟩:=h;obtain⟨u,rfl,j⟩:=hJ l;exact⟨v,u,rfl,i,j⟩
theorem aAe:cE X (.builtin "len") (dU X.K gC):=by
 intro pins s σ H xs us Q I r q;obtain⟨μ,mh,ds,R,b,f,⟨x,rfl,q⟩,F⟩:=q;obtain⟨v,rfl,d⟩:=hJ f
 have go:(∃ds,aX mh x=some ds/\R (.int ds.length) mh)->wpAny (model X.prog X.w) X.A (call (.builtin "len") us) (EP X pins σ Q) X.xe s:=λc=>by
  obtain⟨es,e,q⟩:=c;obtain⟨a,vs,rfl,sq,l⟩:=pC b d e;exact BI pins s σ H _ us Q I r ⟨a,vs,rfl,sq,F.here b q (by rw[aV l];exact .int)⟩
 cases x with
 | str z=>cases d4 d;exact BH pins s σ H _ us Q I r ⟨z,rfl,q.1,F.here b q.2 .int⟩
 | _=>exact go q
def QI:OA:=λxs mh Q=>∃i,xs=[.int i]/\Q (.int (if i<0 then -i else i)) mh
theorem aAi:cE X (.builtin "abs") (dU X.K QI):=by
 intro pins s σ H xs us Q I r q;obtain⟨μ,mh,ds,R,a,b,⟨i,rfl,q⟩,F⟩:=q;obtain⟨v,rfl,c⟩:=hJ b;cases bK c;exact QA pins s σ H _ us Q I r ⟨i,rfl,F.here a q .int⟩
def zF:OA:=λxs mh Q=>∃i j,xs=[.int i,.int j]/\Q (.int (if j > i then j else i)) mh
def zE:OA:=λxs mh Q=>∃i j,xs=[.int i,.int j]/\Q (.int (if j<i then j else i)) mh
theorem U9(a:X.calm=true):cE X (.builtin "max") (dU X.K zF):=by
 intro pins s σ H xs us Q I r q;obtain⟨μ,mh,ds,R,b,c,⟨i,j,rfl,q⟩,F⟩:=q;obtain⟨v,u,rfl,d,e⟩:=vQ c;cases bK d;cases bK e;exact KO a pins s σ H _ us Q I r ⟨i,j,rfl,F.here b q .int⟩
theorem U7(a:X.calm=true):cE X (.builtin "min") (dU X.K zE):=by
 intro pins s σ H xs us Q I r q;obtain⟨μ,mh,ds,R,b,c,⟨i,j,rfl,q⟩,F⟩:=q;obtain⟨v,u,rfl,d,e⟩:=vQ c;cases bK d;cases bK e;exact KN a pins s σ H _ us Q I r ⟨i,j,rfl,F.here b q .int⟩
theorem XA{pins:List (Addr×Obj)}{σ:L2.St}{s:Shared}(I:Inv X pins σ H s)(h:rB X.K H a vs\/uL X.K H a vs):vs.length<=sizeLine:=by
 rcases h with h | h
 ·obtain⟨_,_,_,z⟩:=I.list h;exact z
 ·obtain⟨_,_,_,z⟩:=I.tuple h;exact z
def nR:OA:=λxs mh Q=>∃x ds,xs=[x]/\aX mh x=some ds/\Q (.tup ds) mh
theorem PU:cE X (.type "tuple") (dU X.K nR):=by
 intro pins s σ H xs us Q I r q;obtain⟨μ,mh,ds,R,b,d,⟨x,es,rfl,e,q⟩,F⟩:=q;obtain⟨v,rfl,c⟩:=hJ d
 cases x with
 | tup f=>
  cases e;obtain⟨a,vs,rfl,sq,l⟩:=dS c;exact jX pins s σ H _ us Q I r ⟨a,vs,rfl,.inr ⟨sq,F.here b q c⟩⟩
 | fl f=>
  cases e;obtain⟨a,vs,rfl,sq,l⟩:=o6 c;exact jX pins s σ H _ us Q I r ⟨a,vs,rfl,.inl ⟨sq.sq,oA b F l q⟩⟩
 | ref n=>
  obtain⟨a,vs,rfl,sq,l⟩:=nE b c (show i7 mh (.ref n)=some es from e);exact jX pins s σ H _ us Q I r ⟨a,vs,rfl,.inl ⟨sq,oA b F l q⟩⟩
 | _=>cases e
end
def QS(mh:MH):D->Option String
 | .bT=>some "NoneType"
 | .bl _=>some "bool"
 | .int _=>some "int"
 | .str _=>some "str"
 | .tup _=>some "tuple"
 | .fl _=>some "list"
 | .ref n=>match mh[n]? with | some (.lst _)=>some "list" | _=>none
 | .ty _=>none
def rH(t c:String):Bool:=t==c || (t== "bool" && c== "int")
def bO:List String:=["int","bool","str","tuple","list"]
theorem WN:∀t∈ "NoneType"::bO,∀c∈bO,PySem.W.kitOne K (.type t) (.type c)=some (rH t c):=by
 intro t ht c a;simp only[bO,List.mem_cons,List.not_mem_nil,or_false]at ht a;rcases ht with rfl | rfl | rfl | rfl | rfl | rfl <;> rcases a with rfl | rfl | rfl | rfl | rfl <;> kernel_rfl
theorem HK{K:aLw}{t:String}(ht:t∈ "NoneType"::bO):∀a:List String,(∀c∈a,c∈bO)->PySem.W.kitAny K (.type t) (a.map Value.type)=some (a.any (rH t))
 | [],_=>rfl
 | c::a,h=>by
  have e:=WN (K:=K) t ht c (h c aHx);have b:=HK (K:=K) ht a λx d=>h x (aI0 _ d);simp only[List.map_cons,PySem.W.kitAny,e,List.any_cons]
  cases rH t c with
  | true=>rfl
  | false=>simpa using b
def wZ:OA:=λxs mh Q=>∃x c t,xs=[x,c]/\QS mh x=some t/\
 ((∃T,c= .ty T/\T∈bO/\Q (.bl (rH t T)) mh)\/∃a:List String,c= .tup (a.map .ty)/\(∀T∈a,T∈bO)/\Q (.bl (a.any (rH t))) mh)
section
variable {X:Cx}
theorem ZS{pins:List (Addr×Obj)}{σ:L2.St}{s:Shared}{mh:MH}{d:D}{v:V}{u:Value}{t:String}(I:Inv X pins σ H s)(R:Rep X.K μ mh H)(h:Is X.K μ H d v)(r:RelV v u)(e:QS mh d=some t):
  t∈ "NoneType"::bO/\u≠ .builtin "__main__.__loader__#opaque"/\∃P,PySem.W.KitX X.K u (.type t) P/\P s.heap:=by
 have i:∀{a:Addr} {vs:List V},rB X.K H a vs->∃P,PySem.W.KitX X.K (.ref a) (.type "list") P/\P s.heap:=λ{a vs} sq=>by
  obtain⟨aL,_,⟨o,n,c,g,_⟩,_⟩:=I.list sq;exact⟨_,PySem.W.kitx_list,⟨o,c,g⟩⟩
 cases d with
 | bT=>cases AX h;cases r;cases e;exact⟨by simp[bO],nofun,_,PySem.W.kitx_none,trivial⟩
 | bl b=>cases DC h;cases r;cases e;exact⟨by simp[bO],nofun,_,PySem.W.kitx_bool,trivial⟩
 | int b=>cases bK h;obtain⟨tk,rfl⟩:=r;cases e;exact⟨by simp[bO],nofun,_,PySem.W.kitx_int,trivial⟩
 | str b=>cases d4 h;obtain⟨tk,rfl⟩:=r;cases e;exact⟨by simp[bO],nofun,_,PySem.W.kitx_str,trivial⟩
 | ty b=>cases e
 | tup ds=>
  obtain⟨a,vs,rfl,sq,_⟩:=dS h;cases r;cases e;obtain⟨aL,_,⟨o,c,g,_⟩,_⟩:=I.tuple sq;exact⟨by simp[bO],nofun,_,PySem.W.kitx_tuple,⟨o,c,g⟩⟩
 | fl ds=>
  obtain⟨a,vs,rfl,sq,_⟩:=o6 h;cases r;cases e;exact⟨by simp[bO],nofun,i sq.sq⟩
 | ref n=>
  obtain⟨a,q,rfl⟩:=jV h;cases r;simp only[QS]at e
  cases o:mh[n]? with
  | none=>rw[o]at e;cases e
  | some ob=>
   cases ob with
   | lst es=>
    rw[o]at e;cases e;obtain⟨vs,hv,l⟩:=R.obj n a _ q o;exact⟨by simp[bO],nofun,i (.of hv)⟩
   | bM t kvs=>rw[o]at e;cases e
   | gD t kvs ob=>rw[o]at e;cases e
   | oth ds f=>rw[o]at e;cases e
theorem HQ{K:aLw}{μ:List Addr}{H:Hp}:∀{a:List String} {vs:List V} {us:List Value},IsL K μ H (a.map .ty) vs->Vals vs us->us=a.map Value.type
 | [],vs,us,h,r=>by simp only[List.map_nil]at h;unfold IsL at h;subst h;cases r;rfl
 | T::a,vs,us,h,r=>by
  simp only[List.map_cons]at h;unfold IsL at h;obtain⟨v,c,rfl,i,l⟩:=h
  cases r with
  | cons r1 r2=>
   unfold Is at i;subst i;have b :_=Value.type T:=r1;subst b;rw[HQ l r2];rfl
theorem aAf:cE X (.builtin "isinstance") (dU X.K wZ):=by
 intro pins s σ H xs us Q I r q;obtain⟨μ,mh,ds,R,d,p,⟨x,c,t,rfl,u,q⟩,F⟩:=q;obtain⟨v,w,rfl,y,e⟩:=vQ p
 cases r with
 | cons r1 r2=>
  cases r2 with
  | cons r2 r3=>
   cases r3;obtain⟨g,h,P,i,j⟩:=ZS I d y r1 u
   rcases q with ⟨T,rfl,f,q⟩ | ⟨z,rfl,f,q⟩
   ·unfold Is at e;subst e;have b :_=Value.type T:=r2;subst b
    exact PySem.W.kia_one i I.ZX j (WN t g T f) h λtk=>⟨.bl _,H,I.tok tk,rfl,F.here d q .bl⟩
   ·obtain⟨a,vs,rfl,sq,l⟩:=dS e;have b :_=Value.ref a:=r2;subst b;obtain⟨aL,A,⟨o,B,k,n,m⟩,_⟩:=I.tuple sq;have C:=HQ l A;obtain⟨oc,od,D,osl⟩:=o;simp only at k m;subst k m
    exact PySem.W.kia_tup i I.ZX j B (by rw[C];exact HK g z f) h λtk=>⟨.bl _,H,I.tok tk,rfl,F.here d q .bl⟩
def ED:OA:=λxs mh Q=>∃(x:D) (bs:List Bool),xs=[x]/\i7 mh x=some (bs.map .bl)/\Q (.bl (bs.all id)) mh
def GH:OA:=λxs mh Q=>∃(x:D) (bs:List Bool),xs=[x]/\i7 mh x=some (bs.map .bl)/\Q (.bl (bs.any id)) mh
theorem AZ{K:aLw}{μ:List Addr}{H:Hp}:∀{bs:List Bool} {vs:List V} {us:List Value},IsL K μ H (bs.map .bl) vs->Vals vs us->us=bs.map Value.bool
 | [],vs,us,h,r=>by simp only[List.map_nil]at h;unfold IsL at h;subst h;cases r;rfl
 | T::Ts,vs,us,h,r=>by
  simp only[List.map_cons]at h;unfold IsL at h;obtain⟨v,b,rfl,i,l⟩:=h
  cases r with
  | cons r1 r2=>
   cases DC i;have a :_=Value.bool T:=r1;subst a;rw[AZ l r2];rfl
theorem range_all:∀bs:List Bool,(List.range bs.length).all (λi=>bs.getD i true)=bs.all id
 | []=>rfl
 | b::bs=>by
  have:=range_all bs;simp only[List.length_cons,List.range_succ_eq_map,List.all_cons,List.all_map];simp only[Function.comp_def,List.getD_cons_zero,List.getD_cons_succ,this,id]
theorem range_any:∀bs:List Bool,(List.range bs.length).any (λi=>bs.getD i false)=bs.any id
 | []=>rfl
 | b::bs=>by
  have:=range_any bs;simp only[List.length_cons,List.range_succ_eq_map,List.any_cons,List.any_map];simp only[Function.comp_def,List.getD_cons_zero,List.getD_cons_succ,this,id]
theorem nZ{prog:Program}{w:World}{A:Around}{E:aLx}{s:Shared}{l:Addr}{items:Array Value}{Q:aLx}(b:s.heap.IsList l items)
  (h:∀a:Shared,a={s with heap:=s.heap.push {cls:= .type "list_iterator",data:= .fields #[.ref l,.int 0 0]}}->
   (a.heap.IsListIter s.heap.objs.size l 0/\a.heap.IsList l items)->l≠s.heap.objs.size->Q (.ref s.heap.objs.size) a):
  wpAny (model prog w) A (pyIter (.ref l)) Q E s:=by
 have c:l<s.heap.objs.size:=by obtain⟨_,e,_⟩:=b;exact aHz e
 exact aL4 b (h _ rfl ⟨⟨_,aHy _ rfl,rfl,rfl⟩,b.push _⟩ (aI4 c))
theorem aAh(h:X.calm=true):cE X (.builtin "all") (dU X.K ED):=by
 intro pins s σ H xs us Q I r q;obtain⟨μ,mh,ds,R,f,j,⟨x,bs,rfl,e,q⟩,F⟩:=q;obtain⟨v,rfl,k⟩:=hJ j;obtain⟨a,vs,rfl,sq,l⟩:=nE f k e;obtain⟨u,rfl,m⟩:=vals1 r;cases m;obtain⟨aL,n,p,hz⟩:=I.list sq;have t:=AZ l n;subst t;refine call_all_walk (nZ p.isList λg w st d=>?_);subst w;refine⟨_,_,_,_,_,_,λi=>bs.getD i true,rfl,Walks.list (A:=X.A.in1) (I.ok.hd h) _ a d (bs.map Value.bool).toArray,st,?_,λh' tk hk=>?_⟩
 ·intro i v D E G y z;have c :(bs.map Value.bool).toArray[i]? =some v:=y;rw[List.getElem?_toArray,List.getElem?_map]at c;obtain⟨b,B,rfl⟩:=aI3.mp c;have:bs.getD i true=b:=by rw[List.getD_eq_getElem?_getD,B];rfl
  refine aJa ?_;rw[<-this];exact z
 ·have J:Inv X pins σ H {s with heap:=s.heap.push {cls:= .type "list_iterator",data:= .fields #[.ref a,.int 0 0]}}:=I.kept (t' :=s.toks) λb o e=>aHu _ e;have C:Inv X pins σ H {s with heap:=h',toks:=tk}:=I.kept (t' :=tk) λb o e=>hk b o (by simp;exact aI4 (aHz e)) (aHu _ e);refine⟨.bl (bs.all id),H,C,?_,F.here f q .bl⟩;have:=range_all bs;simp only[List.size_toArray,List.length_map,this];rfl
theorem aAg(h:X.calm=true):cE X (.builtin "any") (dU X.K GH):=by
 intro pins s σ H xs us Q I r q;obtain⟨μ,mh,ds,R,f,j,⟨x,bs,rfl,e,q⟩,F⟩:=q;obtain⟨v,rfl,k⟩:=hJ j;obtain⟨a,vs,rfl,sq,l⟩:=nE f k e;obtain⟨u,rfl,m⟩:=vals1 r;cases m;obtain⟨aL,n,p,hz⟩:=I.list sq;have t:=AZ l n;subst t;refine call_any_walk (nZ p.isList λg w st d=>?_);subst w;refine⟨_,_,_,_,_,_,λi=>bs.getD i false,rfl,Walks.list (A:=X.A.in1) (I.ok.hd h) _ a d (bs.map Value.bool).toArray,st,?_,λh' tk hk=>?_⟩
 ·intro i v D E G y z;have c :(bs.map Value.bool).toArray[i]? =some v:=y;rw[List.getElem?_toArray,List.getElem?_map]at c;obtain⟨b,B,rfl⟩:=aI3.mp c;have:bs.getD i false=b:=by rw[List.getD_eq_getElem?_getD,B];rfl
  refine aJa ?_;rw[<-this];exact z
 ·have C:Inv X pins σ H {s with heap:=h',toks:=tk}:=I.kept (t' :=tk) λb o e=>hk b o (by simp;exact aI4 (aHz e)) (aHu _ e);refine⟨.bl (bs.any id),H,C,?_,F.here f q .bl⟩;have:=range_any bs;simp only[List.size_toArray,List.length_map,this];rfl
end
mutual
def Vl(h:Heap):D->Value->Prop
 | .bT,u=>u= .none
 | .bl b,u=>u= .bool b
 | .int i,u=>∃t,u= .int i t
 | .str x,u=>∃t,u= .str x t
 | .ty _,_=>False
 | .tup ds,u=>∃a us,u= .ref a/\IsTup h a us.toArray/\eA h ds us
 | .fl ds,u=>∃a us,u= .ref a/\h.IsList a us.toArray/\eA h ds us
 | .ref _,_=>False
def eA(h:Heap):List D->List Value->Prop
 | [],us=>us=[]
 | d::ds,us=>∃u r,us=u::r/\Vl h d u/\eA h ds r
end
mutual
def bare:D->Bool
 | .ty _=>false
 | .ref _=>false
 | .tup ds=>fR ds
 | .fl ds=>fR ds
 | _=>true
def fR:List D->Bool
 | []=>true
 | d::ds=>bare d && fR ds
end
mutual
def deep:D->Nat
 | .tup ds=>tB ds+1
 | .fl ds=>tB ds+1
 | _=>0
def tB:List D->Nat
 | []=>0
 | d::ds=>max (deep d) (tB ds)
end
mutual
def hU:D->D->Bool
 | .bT,y=>iS y
 | .bl a,y=>match y with | .bl b=>a==b | .int j=>(if a then 1 else 0)==j | _=>false
 | .int i,y=>match y with | .int j=>i==j | .bl b=>i==(if b then 1 else 0) | _=>false
 | .str a,y=>match y with | .str b=>a==b | _=>false
 | .tup as,y=>match y with | .tup bs=>iU as bs | _=>false
 | .fl as,y=>match y with | .fl bs=>iU as bs | _=>false
 | .ref _,_=>false
 | .ty _,_=>false
def iU:List D->List D->Bool
 | [],y=>y.isEmpty
 | a::as,y=>match y with | b::bs=>hU a b && iU as bs | []=>false
end
theorem cW:∀(as bs:List D),iU as bs=((List.range (min as.length bs.length)).all (λj=>hU (as.getD j .bT) (bs.getD j .bT)) && as.length==bs.length)
 | [],[]=>by simp[iU]
 | [],b::bs=>by simp[iU]
 | a::as,[]=>by simp[iU]
 | a::as,b::bs=>by
  have c:=cW as bs;simp only[iU,List.length_cons,Nat.succ_min_succ,List.range_succ_eq_map,List.all_cons,List.all_map,Function.comp_def,List.getD_cons_zero,List.getD_cons_succ,c];cases hU a b <;> simp
theorem bL{h:Heap}:∀{ds:List D} {us:List Value},eA h ds us->us.length=ds.length
 | [],us,q=>by unfold eA at q;subst q;rfl
 | d::ds,us,q=>by unfold eA at q;obtain⟨u,r,rfl,_,l⟩:=q;simp[bL l]
theorem d6{h:Heap}:∀{ds:List D} {us:List Value} {j:Nat} {u:Value},eA h ds us->us[j]? =some u->Vl h (ds.getD j .bT) u
 | [],us,j,u,q,e=>by unfold eA at q;subst q;simp at e
 | d::ds,us,j,u,q,e=>by
  unfold eA at q;obtain⟨w,r,rfl,i,l⟩:=q
  cases j with
  | zero=>simp at e;subst e;exact i
  | succ j=>exact d6 (j:=j) l (by simpa using e)
theorem gB:∀(ds:List D) (j:Nat),deep (ds.getD j .bT)<=tB ds
 | [],j=>by simp[deep]
 | d::ds,0=>by simp[tB];lia
 | d::ds,j+1=>by have:=gB ds j;simp[tB]at*;lia
variable{h:Heap}
theorem uD{x y:Array Value}(d:h.IsList a x)(e:IsTup h a y):False:=by
 obtain⟨o,ho,f,_⟩:=d;obtain⟨g,b,c,_⟩:=e;rw[ho]at b;cases b;rw[f]at c;exact absurd c (by simp)
mutual
theorem zK{h:Heap}:∀{d e:D} {u:Value},Vl h d u->Vl h e u->hU d e=true
 | .bT,e,u,p,q=>by
  unfold Vl at p;subst p
  cases e <;> unfold Vl at q <;> first | rfl | (cases q;done) | (obtain⟨_,q⟩:=q;cases q;done) | (obtain⟨_,_,q,_⟩:=q;cases q;done)
 | .bl a,e,u,p,q=>by
  unfold Vl at p;subst p
  cases e <;> unfold Vl at q <;> first | (subst q;simp[hU];done) | (cases q;simp[hU];done) | (cases q;done) | (obtain⟨_,q⟩:=q;cases q;done) | (obtain⟨_,_,q,_⟩:=q;cases q;done)
 | .int a,e,u,p,q=>by
  unfold Vl at p;obtain⟨t,rfl⟩:=p
  cases e <;> unfold Vl at q <;> first | (cases q;done) | (obtain⟨_,q⟩:=q;cases q;simp[hU];done) | (obtain⟨_,q⟩:=q;cases q;done) | (obtain⟨_,_,q,_⟩:=q;cases q;done)
 | .str a,e,u,p,q=>by
  unfold Vl at p;obtain⟨t,rfl⟩:=p
  cases e <;> unfold Vl at q <;> first | (cases q;done) | (obtain⟨_,q⟩:=q;cases q;simp[hU];done) | (obtain⟨_,q⟩:=q;cases q;done) | (obtain⟨_,_,q,_⟩:=q;cases q;done)
 | .ty _,e,u,p,q=>by unfold Vl at p;exact p.elim
 | .ref _,e,u,p,q=>by unfold Vl at p;exact p.elim
 | .tup as,e,u,p,q=>by
  unfold Vl at p;obtain⟨a,us,rfl,ht,l⟩:=p
  cases e with
  | tup bs=>
   unfold Vl at q;obtain⟨b,f,e,c,l2⟩:=q;cases e;obtain⟨o,j,_,n,k⟩:=ht;obtain⟨s,g,_,n2,i⟩:=c;rw[j]at g;cases g;rw[k]at i;injection i with m;have r:us=f:=by simpa using aJ7 Array.toList m
   subst r;show iU as bs=true;exact uS l l2
  | fl bs=>
   unfold Vl at q;obtain⟨b,f,e,c,l2⟩:=q;cases e;exact(uD c ht).elim
  | _=>unfold Vl at q;first | (cases q;done) | (obtain⟨_,q⟩:=q;cases q;done)
 | .fl as,e,u,p,q=>by
  unfold Vl at p;obtain⟨a,us,rfl,ht,l⟩:=p
  cases e with
  | fl bs=>
   unfold Vl at q;obtain⟨b,f,e,c,l2⟩:=q;cases e;obtain⟨o,j,_,n,k⟩:=ht;obtain⟨s,g,_,n2,i⟩:=c;rw[j]at g;cases g;rw[k]at i;injection i with m;have r:us=f:=by simpa using aJ7 Array.toList m
   subst r;show iU as bs=true;exact uS l l2
  | tup bs=>
   unfold Vl at q;obtain⟨b,f,e,c,l2⟩:=q;cases e;exact(uD ht c).elim
  | _=>unfold Vl at q;first | (cases q;done) | (obtain⟨_,q⟩:=q;cases q;done)
theorem uS{h:Heap}:∀{ds es:List D} {us:List Value},eA h ds us->eA h es us->iU ds es=true
 | [],es,us,p,q=>by unfold eA at p;subst p;cases es with | nil=>rfl | cons=>unfold eA at q;obtain⟨_,_,e,_⟩:=q;cases e
 | d::ds,es,us,p,q=>by
  unfold eA at p;obtain⟨u,r,rfl,i,l⟩:=p
  cases es with
  | nil=>unfold eA at q;cases q
  | cons e es=>
   unfold eA at q;obtain⟨b,r2,a,i2,l2⟩:=q;cases a;simp only[iU,zK i i2,uS l l2,Bool.and_self]
end
open SeqAt in
theorem lT{s:Shared}:∀(k:Nat) {A:Around} {d e:D} {u v:Value},deep d<=k->A.units+k+1<cLine->Vl s.heap d u->Vl s.heap e v->EqAt A s u v (hU d e)
 | k,A,.bT,e,u,v,hk,hu,p,q=>by
  unfold Vl at p;subst p;cases e <;> unfold Vl at q
  ·subst q;exact EqAt.same _
  ·subst q;exact EqAt.none_bool _
  ·obtain⟨t,rfl⟩:=q;exact EqAt.none_int _ t
  ·obtain⟨t,rfl⟩:=q;exact EqAt.none_str _ t
  ·exact q.elim
  ·obtain⟨a,us,rfl,ht,_⟩:=q;exact EqAt.none_tuple ht (by lia)
  ·obtain⟨a,us,rfl,ht,_⟩:=q;exact EqAt.none_list ht (by lia)
  ·exact q.elim
 | k,A,.bl x,e,u,v,hk,hu,p,q=>by
  unfold Vl at p;subst p;cases e <;> unfold Vl at q
  ·subst q;exact EqAt.bool_none _
  ·subst q;exact EqAt.bool_bool _ _
  ·obtain⟨t,rfl⟩:=q;exact EqAt.bool_int _ _ t
  ·obtain⟨t,rfl⟩:=q;exact EqAt.bool_str _ _ t
  ·exact q.elim
  ·obtain⟨a,us,rfl,ht,_⟩:=q;exact EqAt.bool_tuple _ ht (by lia)
  ·obtain⟨a,us,rfl,ht,_⟩:=q;exact EqAt.bool_list _ ht (by lia)
  ·exact q.elim
 | k,A,.int x,e,u,v,hk,hu,p,q=>by
  unfold Vl at p;obtain⟨o,rfl⟩:=p;cases e <;> unfold Vl at q
  ·subst q;exact EqAt.int_none _ _
  ·subst q;exact EqAt.int_bool _ _ _
  ·obtain⟨t,rfl⟩:=q;exact EqAt.int_int _ _ _ t
  ·obtain⟨t,rfl⟩:=q;exact EqAt.int_str _ _ _ t
  ·exact q.elim
  ·obtain⟨a,us,rfl,ht,_⟩:=q;exact EqAt.int_tuple _ _ ht (by lia)
  ·obtain⟨a,us,rfl,ht,_⟩:=q;exact EqAt.int_list _ _ ht (by lia)
  ·exact q.elim
 | k,A,.str x,e,u,v,hk,hu,p,q=>by
  unfold Vl at p;obtain⟨o,rfl⟩:=p;cases e <;> unfold Vl at q
  ·subst q;exact EqAt.str_none _ _
  ·subst q;exact EqAt.str_bool _ _ _
  ·obtain⟨t,rfl⟩:=q;exact EqAt.str_int _ _ _ t
  ·obtain⟨t,rfl⟩:=q;exact EqAt.str_str _ _ _ t
  ·exact q.elim
  ·obtain⟨a,us,rfl,ht,_⟩:=q;exact EqAt.str_tuple _ _ ht (by lia)
  ·obtain⟨a,us,rfl,ht,_⟩:=q;exact EqAt.str_list _ _ ht (by lia)
  ·exact q.elim
 | k,A,.ty x,e,u,v,hk,hu,p,q=>by unfold Vl at p;exact p.elim
 | k,A,.ref x,e,u,v,hk,hu,p,q=>by unfold Vl at p;exact p.elim
 | k,A,.tup as,e,u,v,hk,hu,p,q=>by
  have n:=p;unfold Vl at p;obtain⟨a,us,rfl,ht,l⟩:=p
  cases e with
  | tup bs=>
   by_cases f:Value.ref a=v
   ·subst f;rw[zK n q];exact EqAt.same _
   unfold Vl at q;obtain⟨b,m,rfl,c,l2⟩:=q;have g:a≠b:=λz=>f (by rw[z])
   cases k with
   | zero=>simp[deep]at hk
   | succ k=>
    refine EqAt.of_refs g ?_;have r:=RcAt.tuples (e:=λj=>hU (as.getD j .bT) (bs.getD j .bT)) ht c (by lia) (λj h i=>lT k (A:=A.in1) (aIa (gB as j) (by simp[deep]at hk;exact hk)) (by show A.units+1+k+1<_;lia) (d6 l (by simp at h;simp[h])) (d6 l2 (by simp at i;simp[i])));show RcAt A s _ _ (iU as bs);rw[cW,<-bL l,<-bL l2];simpa using r
  | bT=>unfold Vl at q;subst q;exact EqAt.tuple_none ht (by lia)
  | bl x=>unfold Vl at q;subst q;exact EqAt.tuple_bool _ ht (by lia)
  | int x=>unfold Vl at q;obtain⟨t,rfl⟩:=q;exact EqAt.tuple_int _ _ ht (by lia)
  | str x=>unfold Vl at q;obtain⟨t,rfl⟩:=q;exact EqAt.tuple_str _ _ ht (by lia)
  | fl bs=>unfold Vl at q;obtain⟨b,m,rfl,c,l2⟩:=q;exact EqAt.tuple_list ht c (by lia)
  | ty x=>unfold Vl at q;exact q.elim
  | ref x=>unfold Vl at q;exact q.elim
 | k,A,.fl as,e,u,v,hk,hu,p,q=>by
  have n:=p;unfold Vl at p;obtain⟨a,us,rfl,ht,l⟩:=p
  cases e with
  | fl bs=>
   by_cases f:Value.ref a=v
   ·subst f;rw[zK n q];exact EqAt.same _
   unfold Vl at q;obtain⟨b,m,rfl,c,l2⟩:=q;have g:a≠b:=λz=>f (by rw[z])
   cases k with
   | zero=>simp[deep]at hk
   | succ k=>
    refine EqAt.of_refs g ?_;show RcAt A s _ _ (iU as bs);by_cases hsz:us.length=m.length
    ·have r:=RcAt.lists (e:=λj=>hU (as.getD j .bT) (bs.getD j .bT)) ht c (by simpa using hsz) (by lia) (λj h i=>lT k (A:=A.in1) (aIa (gB as j) (by simp[deep]at hk;exact hk)) (by show A.units+1+k+1<_;lia) (d6 l (by simp at h;simp[h])) (d6 l2 (by simp at i;simp[i])));rw[cW,<-bL l,<-bL l2,<-hsz,Nat.min_self,beq_self_eq_true,Bool.and_true];simpa using r
    ·have r:=RcAt.lists_lengths (A:=A) ht c (by simpa using hsz) (by lia);rw[cW,<-bL l,<-bL l2,beq_eq_false_iff_ne.mpr hsz,Bool.and_false];exact r
  | bT=>unfold Vl at q;subst q;exact EqAt.list_none ht (by lia)
  | bl x=>unfold Vl at q;subst q;exact EqAt.list_bool _ ht (by lia)
  | int x=>unfold Vl at q;obtain⟨t,rfl⟩:=q;exact EqAt.list_int _ _ ht (by lia)
  | str x=>unfold Vl at q;obtain⟨t,rfl⟩:=q;exact EqAt.list_str _ _ ht (by lia)
  | tup bs=>unfold Vl at q;obtain⟨b,m,rfl,c,l2⟩:=q;exact EqAt.list_tuple ht c (by lia)
  | ty x=>unfold Vl at q;exact q.elim
  | ref x=>unfold Vl at q;exact q.elim
open SeqAt in
theorem XI{s:Shared}{A:Around}{d e:D}{u v:Value}(hk:deep d<=40)(k:A.units+64<cLine)(p:Vl s.heap d u)(q:Vl s.heap e v):RcAt A s u v (hU d e):=by
 cases d with
 | bT=>
  unfold Vl at p;subst p;cases e <;> unfold Vl at q
  ·subst q;exact RcAt.none_none
  ·subst q;exact RcAt.none_bool _
  ·obtain⟨t,rfl⟩:=q;exact RcAt.none_int _ _
  ·obtain⟨t,rfl⟩:=q;exact RcAt.none_str _ _
  ·exact q.elim
  ·obtain⟨a,us,rfl,ht,_⟩:=q;exact RcAt.none_tuple ht (by lia)
  ·obtain⟨a,us,rfl,ht,_⟩:=q;exact RcAt.none_list ht (by lia)
  ·exact q.elim
 | bl x=>
  unfold Vl at p;subst p;cases e <;> unfold Vl at q
  ·subst q;exact RcAt.bool_none _
  ·subst q;exact RcAt.bool_bool _ _
  ·obtain⟨t,rfl⟩:=q;exact RcAt.bool_int _ _ _
  ·obtain⟨t,rfl⟩:=q;exact RcAt.bool_str _ _ _
  ·exact q.elim
  ·obtain⟨a,us,rfl,ht,_⟩:=q;exact RcAt.bool_tuple _ ht (by lia)
  ·obtain⟨a,us,rfl,ht,_⟩:=q;exact RcAt.bool_list _ ht (by lia)
  ·exact q.elim
 | int x=>
  unfold Vl at p;obtain⟨i,rfl⟩:=p;cases e <;> unfold Vl at q
  ·subst q;exact RcAt.int_none _ _
  ·subst q;exact RcAt.int_bool _ _ _
  ·obtain⟨t,rfl⟩:=q;exact RcAt.int_int _ _ _ _
  ·obtain⟨t,rfl⟩:=q;exact RcAt.int_str _ _ _ _
  ·exact q.elim
  ·obtain⟨a,us,rfl,ht,_⟩:=q;exact RcAt.int_tuple _ _ ht (by lia)
  ·obtain⟨a,us,rfl,ht,_⟩:=q;exact RcAt.int_list _ _ ht (by lia)
  ·exact q.elim
 | str x=>
  unfold Vl at p;obtain⟨i,rfl⟩:=p;cases e <;> unfold Vl at q
  ·subst q;exact RcAt.str_none _ _
  ·subst q;exact RcAt.str_bool _ _ _
  ·obtain⟨t,rfl⟩:=q;exact RcAt.str_int _ _ _ _
  ·obtain⟨t,rfl⟩:=q;exact RcAt.str_str _ _ _ _
  ·exact q.elim
  ·obtain⟨a,us,rfl,ht,_⟩:=q;exact RcAt.str_tuple _ _ ht (by lia)
  ·obtain⟨a,us,rfl,ht,_⟩:=q;exact RcAt.str_list _ _ ht (by lia)
  ·exact q.elim
 | ty x=>unfold Vl at p;exact p.elim
 | ref x=>unfold Vl at p;exact p.elim
 | tup as=>
  unfold Vl at p;obtain⟨a,us,rfl,ht,l⟩:=p
  cases e with
  | tup bs=>
   unfold Vl at q;obtain⟨b,h,rfl,c,l2⟩:=q;have r:=RcAt.tuples (e:=λj=>hU (as.getD j .bT) (bs.getD j .bT)) ht c (by lia) (λj f g=>lT 40 (A:=A.in1) (aIa (gB as j) (by simp[deep]at hk;lia)) (by show A.units+1+40+1<_;lia) (d6 l (by simp at f;simp[f])) (d6 l2 (by simp at g;simp[g])));show RcAt A s _ _ (iU as bs);rw[cW,<-bL l,<-bL l2];simpa using r
  | fl bs=>unfold Vl at q;obtain⟨b,h,rfl,c,l2⟩:=q;exact RcAt.tuple_list ht c (by lia)
  | bT=>unfold Vl at q;subst q;exact RcAt.tuple_none ht (by lia)
  | bl x=>unfold Vl at q;subst q;exact RcAt.tuple_bool _ ht (by lia)
  | int x=>unfold Vl at q;obtain⟨t,rfl⟩:=q;exact RcAt.tuple_int _ _ ht (by lia)
  | str x=>unfold Vl at q;obtain⟨t,rfl⟩:=q;exact RcAt.tuple_str _ _ ht (by lia)
  | ty x=>unfold Vl at q;exact q.elim
  | ref x=>unfold Vl at q;exact q.elim
 | fl as=>
  unfold Vl at p;obtain⟨a,us,rfl,ht,l⟩:=p
  cases e with
  | fl bs=>
   unfold Vl at q;obtain⟨b,h,rfl,c,l2⟩:=q;show RcAt A s _ _ (iU as bs);by_cases hsz:us.length=h.length
   ·have r:=RcAt.lists (e:=λj=>hU (as.getD j .bT) (bs.getD j .bT)) ht c (by simpa using hsz) (by lia) (λj f g=>lT 40 (A:=A.in1) (aIa (gB as j) (by simp[deep]at hk;lia)) (by show A.units+1+40+1<_;lia) (d6 l (by simp at f;simp[f])) (d6 l2 (by simp at g;simp[g])));rw[cW,<-bL l,<-bL l2,<-hsz,Nat.min_self,beq_self_eq_true,Bool.and_true];simpa using r
   ·have r:=RcAt.lists_lengths (A:=A) ht c (by simpa using hsz) (by lia);rw[cW,<-bL l,<-bL l2,beq_eq_false_iff_ne.mpr hsz,Bool.and_false];exact r
  | tup bs=>unfold Vl at q;obtain⟨b,h,rfl,c,l2⟩:=q;exact RcAt.list_tuple ht c (by lia)
  | bT=>unfold Vl at q;subst q;exact RcAt.list_none ht (by lia)
  | bl x=>unfold Vl at q;subst q;exact RcAt.list_bool _ ht (by lia)
  | int x=>unfold Vl at q;obtain⟨t,rfl⟩:=q;exact RcAt.list_int _ _ ht (by lia)
  | str x=>unfold Vl at q;obtain⟨t,rfl⟩:=q;exact RcAt.list_str _ _ ht (by lia)
  | ty x=>unfold Vl at q;exact q.elim
  | ref x=>unfold Vl at q;exact q.elim
open SeqAt in
theorem CJ{s:Shared}{A:Around}{d e:D}{u v:Value}(hk:deep d<=40)(k:A.units+64<cLine)(p:Vl s.heap d u)(q:Vl s.heap e v):RcNeAt A s u v (!hU d e):=by
 cases d with
 | bT=>
  unfold Vl at p;subst p;cases e <;> unfold Vl at q
  ·subst q;exact RcNeAt.none_none
  ·subst q;exact RcNeAt.none_bool _
  ·obtain⟨t,rfl⟩:=q;exact RcNeAt.none_int _ _
  ·obtain⟨t,rfl⟩:=q;exact RcNeAt.none_str _ _
  ·exact q.elim
  ·obtain⟨a,us,rfl,ht,_⟩:=q;exact RcNeAt.none_tuple ht (by lia)
  ·obtain⟨a,us,rfl,ht,_⟩:=q;exact RcNeAt.none_list ht (by lia)
  ·exact q.elim
 | bl x=>
  unfold Vl at p;subst p;cases e <;> unfold Vl at q
  ·subst q;exact RcNeAt.bool_none _
  ·subst q;exact RcNeAt.bool_bool _ _
  ·obtain⟨t,rfl⟩:=q;exact RcNeAt.bool_int _ _ _
  ·obtain⟨t,rfl⟩:=q;exact RcNeAt.bool_str _ _ _
  ·exact q.elim
  ·obtain⟨a,us,rfl,ht,_⟩:=q;exact RcNeAt.bool_tuple _ ht (by lia)
  ·obtain⟨a,us,rfl,ht,_⟩:=q;exact RcNeAt.bool_list _ ht (by lia)
  ·exact q.elim
 | int x=>
  unfold Vl at p;obtain⟨i,rfl⟩:=p;cases e <;> unfold Vl at q
  ·subst q;exact RcNeAt.int_none _ _
  ·subst q;exact RcNeAt.int_bool _ _ _
  ·obtain⟨t,rfl⟩:=q;exact RcNeAt.int_int _ _ _ _
  ·obtain⟨t,rfl⟩:=q;exact RcNeAt.int_str _ _ _ _
  ·exact q.elim
  ·obtain⟨a,us,rfl,ht,_⟩:=q;exact RcNeAt.int_tuple _ _ ht (by lia)
  ·obtain⟨a,us,rfl,ht,_⟩:=q;exact RcNeAt.int_list _ _ ht (by lia)
  ·exact q.elim
 | str x=>
  unfold Vl at p;obtain⟨i,rfl⟩:=p;cases e <;> unfold Vl at q
  ·subst q;exact RcNeAt.str_none _ _
  ·subst q;exact RcNeAt.str_bool _ _ _
  ·obtain⟨t,rfl⟩:=q;exact RcNeAt.str_int _ _ _ _
  ·obtain⟨t,rfl⟩:=q;exact RcNeAt.str_str _ _ _ _
  ·exact q.elim
  ·obtain⟨a,us,rfl,ht,_⟩:=q;exact RcNeAt.str_tuple _ _ ht (by lia)
  ·obtain⟨a,us,rfl,ht,_⟩:=q;exact RcNeAt.str_list _ _ ht (by lia)
  ·exact q.elim
 | ty x=>unfold Vl at p;exact p.elim
 | ref x=>unfold Vl at p;exact p.elim
 | tup as=>
  unfold Vl at p;obtain⟨a,us,rfl,ht,l⟩:=p
  cases e with
  | tup bs=>
   unfold Vl at q;obtain⟨b,h,rfl,c,l2⟩:=q;have r:=RcNeAt.tuples (e:=λj=>hU (as.getD j .bT) (bs.getD j .bT)) ht c (by lia) (λj f g=>lT 40 (A:=A.in1) (aIa (gB as j) (by simp[deep]at hk;lia)) (by show A.units+1+40+1<_;lia) (d6 l (by simp at f;simp[f])) (d6 l2 (by simp at g;simp[g])));show RcNeAt A s _ _ (!iU as bs);rw[cW,<-bL l,<-bL l2];simpa using r
  | fl bs=>unfold Vl at q;obtain⟨b,h,rfl,c,l2⟩:=q;exact RcNeAt.tuple_list ht c (by lia)
  | bT=>unfold Vl at q;subst q;exact RcNeAt.tuple_none ht (by lia)
  | bl x=>unfold Vl at q;subst q;exact RcNeAt.tuple_bool _ ht (by lia)
  | int x=>unfold Vl at q;obtain⟨t,rfl⟩:=q;exact RcNeAt.tuple_int _ _ ht (by lia)
  | str x=>unfold Vl at q;obtain⟨t,rfl⟩:=q;exact RcNeAt.tuple_str _ _ ht (by lia)
  | ty x=>unfold Vl at q;exact q.elim
  | ref x=>unfold Vl at q;exact q.elim
 | fl as=>
  unfold Vl at p;obtain⟨a,us,rfl,ht,l⟩:=p
  cases e with
  | fl bs=>
   unfold Vl at q;obtain⟨b,h,rfl,c,l2⟩:=q;show RcNeAt A s _ _ (!iU as bs);by_cases hsz:us.length=h.length
   ·have r:=RcNeAt.lists (e:=λj=>hU (as.getD j .bT) (bs.getD j .bT)) ht c (by simpa using hsz) (by lia) (λj f g=>lT 40 (A:=A.in1) (aIa (gB as j) (by simp[deep]at hk;lia)) (by show A.units+1+40+1<_;lia) (d6 l (by simp at f;simp[f])) (d6 l2 (by simp at g;simp[g])));rw[cW,<-bL l,<-bL l2,<-hsz,Nat.min_self,beq_self_eq_true,Bool.and_true];simpa using r
   ·have r:=RcNeAt.lists_lengths (A:=A) ht c (by simpa using hsz) (by lia);rw[cW,<-bL l,<-bL l2,beq_eq_false_iff_ne.mpr hsz,Bool.and_false];exact r
  | tup bs=>unfold Vl at q;obtain⟨b,h,rfl,c,l2⟩:=q;exact RcNeAt.list_tuple ht c (by lia)
  | bT=>unfold Vl at q;subst q;exact RcNeAt.list_none ht (by lia)
  | bl x=>unfold Vl at q;subst q;exact RcNeAt.list_bool _ ht (by lia)
  | int x=>unfold Vl at q;obtain⟨t,rfl⟩:=q;exact RcNeAt.list_int _ _ ht (by lia)
  | str x=>unfold Vl at q;obtain⟨t,rfl⟩:=q;exact RcNeAt.list_str _ _ ht (by lia)
  | ty x=>unfold Vl at q;exact q.elim
  | ref x=>unfold Vl at q;exact q.elim
def cL(mh:MH):D->D
 | .ref n=>match mh[n]? with | some (.lst ds)=>.fl ds | _=>.ref n
 | d=>d
section
variable {X:Cx}{pins:List (Addr×Obj)}{σ:L2.St}{H:Hp}{s:Shared}{μ:List Addr}{mh:MH}
mutual
theorem p9(I:Inv X pins σ H s):∀(d:D) {v:V} {u:Value},bare d=true->Is X.K μ H d v->RelV v u->Vl s.heap d u
 | .bT,v,u,_,i,r=>by cases AX i;unfold Vl;exact r
 | .bl _,v,u,_,i,r=>by cases DC i;unfold Vl;exact r
 | .int _,v,u,_,i,r=>by cases bK i;unfold Vl;exact r
 | .str _,v,u,_,i,r=>by cases d4 i;unfold Vl;exact r
 | .ty _,v,u,b,i,r=>by simp[bare]at b
 | .ref _,v,u,b,i,r=>by simp[bare]at b
 | .tup ds,v,u,b,i,r=>by
  obtain⟨a,vs,rfl,sq,l⟩:=dS i;have c :u=Value.ref a:=r;subst c;obtain⟨aL,e,p,_⟩:=I.tuple sq;unfold Vl;exact⟨a,aL,rfl,p,iM I ds (by simpa[bare] using b) l e⟩
 | .fl ds,v,u,b,i,r=>by
  obtain⟨a,vs,rfl,sq,l⟩:=o6 i;have c :u=Value.ref a:=r;subst c;obtain⟨aL,e,p,_⟩:=I.list sq.sq;unfold Vl;exact⟨a,aL,rfl,p.isList,iM I ds (by simpa[bare] using b) l e⟩
theorem iM(I:Inv X pins σ H s):∀(ds:List D) {vs:List V} {us:List Value},fR ds=true->IsL X.K μ H ds vs->Vals vs us->eA s.heap ds us
 | [],vs,us,_,l,r=>by unfold IsL at l;subst l;cases r;unfold eA;rfl
 | d::ds,vs,us,b,l,r=>by
  unfold IsL at l;obtain⟨v,a,rfl,i,l⟩:=l
  cases r with
  | cons r1 r2=>
   simp only[fR,Bool.and_eq_true]at b;unfold eA;exact⟨_,_,rfl,p9 I d b.1 i r1,iM I ds b.2 l r2⟩
end
theorem rF(I:Inv X pins σ H s)(R:Rep X.K μ mh H){d:D}{v:V}{u:Value}(b:bare (cL mh d)=true)(i:Is X.K μ H d v)(r:RelV v u):Vl s.heap (cL mh d) u:=by
 cases d with
 | ref n=>
  simp only[cL]at b⊢
  cases o:mh[n]? with
  | none=>rw[o]at b;simp[bare]at b
  | some ob=>
   cases ob with
   | lst ds=>
    rw[o]at b;simp only;obtain⟨a,vs,rfl,_,hv,l⟩:=lN R i o;have c :u=Value.ref a:=r;subst c;obtain⟨aL,e,p,_⟩:=I.list (.of hv);unfold Vl;exact⟨a,aL,rfl,p.isList,iM I ds (by simpa[bare] using b) l e⟩
   | bM t kvs=>rw[o]at b;simp[bare]at b
   | gD t kvs ob=>rw[o]at b;simp[bare]at b
   | oth ds f=>rw[o]at b;simp[bare]at b
 | _=>exact p9 I _ b i r
end
def oEq:O2:=λx y mh Q=>bare (cL mh x)=true/\bare (cL mh y)=true/\deep (cL mh x)<=40/\Q (.bl (hU (cL mh x) (cL mh y))) mh
def JI:O2:=λx y mh Q=>bare (cL mh x)=true/\bare (cL mh y)=true/\deep (cL mh x)<=40/\Q (.bl !hU (cL mh x) (cL mh y)) mh
section
variable {X:Cx}
theorem aCw(b:X.A.units+64<cLine):dW X (compareOp .Eq) (bC X.K oEq):=by
 intro pins s σ H x y v u Q I c d q;obtain⟨μ,mh,dx,i,R,a,e,f,⟨g,h,hd,q⟩,F⟩:=q;exact XI hd b (rF I a g e c) (rF I a h f d) X.prog X.w X.xe _ ⟨.bl _,H,I,rfl,F.here a q .bl⟩
theorem aCq(b:X.A.units+64<cLine):dW X (compareOp .NotEq) (bC X.K JI):=by
 intro pins s σ H x y v u Q I c d q;obtain⟨μ,mh,dx,i,R,a,e,f,⟨g,h,hd,q⟩,F⟩:=q;exact CJ hd b (rF I a g e c) (rF I a h f d) X.prog X.w X.xe _ ⟨.bl _,H,I,rfl,F.here a q .bl⟩
def mF:D->Bool
 | .bT=>true | .bl _=>true | .int _=>true | .str _=>true | _=>false
def FY(x:D)(u:Value):Bool:=match u with
 | .none=>hU .bT x
 | .bool b=>hU (.bl b) x
 | .int i _=>hU (.int i) x
 | .str z _=>hU (.str z) x
 | _=>false
theorem PH{x y:D}{u:Value}(f:mF y=true)(p:Vl h y u):FY x u=hU y x:=by
 cases y with
 | bT=>unfold Vl at p;subst p;rfl
 | bl b=>unfold Vl at p;subst p;rfl
 | int b=>unfold Vl at p;obtain⟨t,rfl⟩:=p;rfl
 | str b=>unfold Vl at p;obtain⟨t,rfl⟩:=p;rfl
 | _=>simp[mF]at f
theorem rA{h:Heap}{x:D}:∀{ds:List D} {us:List Value},ds.all mF=true->eA h ds us->us.any (FY x)=ds.any λy=>hU y x
 | [],us,_,l=>by unfold eA at l;subst l;rfl
 | d::ds,us,f,l=>by
  unfold eA at l;obtain⟨u,r,rfl,p,l⟩:=l;rw[List.all_cons,Bool.and_eq_true]at f;rw[List.any_cons,List.any_cons,PH f.1 p,rA f.2 l]
theorem qN{A:Around}{s:Shared}{x:D}{v:Value}(a:A.units+64<cLine)(q:Vl s.heap x v):∀{ds:List D} {us:List Value},ds.all mF=true->eA s.heap ds us->∀u∈us,SeqAt.EqAt A.in1 s u v (FY x u)
 | [],us,_,l=>by unfold eA at l;subst l;intro u a;cases a
 | d::ds,us,f,l=>by
  unfold eA at l;obtain⟨u,r,rfl,p,l⟩:=l;rw[List.all_cons,Bool.and_eq_true]at f;intro b hu';rcases aI5.mp hu' with rfl | hu'
  ·rw[PH f.1 p];refine lT 0 ?_ (by show A.units+1+0+1<_;lia) p q
   cases d <;> first | exact aHw _ | (simp[mF]at f)
  ·exact qN a q f.2 l b hu'
def inD(x:D)(ds:List D):Bool:=ds.any λy=>hU y x
theorem iY:∀{ds:List D},ds.all mF=true->fR ds=true
 | [],_=>rfl
 | d::ds,f=>by
  rw[List.all_cons,Bool.and_eq_true]at f;simp only[fR,iY f.2,Bool.and_true]
  cases d <;> first | rfl | (simp[mF]at f)
def WD:O2:=λx y mh Q=>match y with
 | .str j=>∃i,x= .str i/\Q (.bl (!(Builtin.Str.occurrences j i 0 j.length 1).isEmpty)) mh
 | _=>∃ds,aX mh y=some ds/\bare (cL mh x)=true/\ds.all mF=true/\Q (.bl (inD (cL mh x) ds)) mh
def vF:O2:=λx y mh Q=>match y with
 | .str j=>∃i,x= .str i/\Q (.bl (!(!(Builtin.Str.occurrences j i 0 j.length 1).isEmpty))) mh
 | _=>∃ds,aX mh y=some ds/\bare (cL mh x)=true/\ds.all mF=true/\Q (.bl !inD (cL mh x) ds) mh
theorem aCt(o:X.A.units+64<cLine):dW X (compareOp .In) (bC X.K WD):=by
 intro pins s σ H x y v u Q I p r q;obtain⟨μ,mh,dx,t,R,d,z,B,q,F⟩:=q
 have go:(∃ds,aX mh t=some ds/\bare (cL mh dx)=true/\ds.all mF=true/\R (.bl (inD (cL mh dx) ds)) mh)->wpAny (model X.prog X.w) X.A (compareOp .In v u) (EP X pins σ Q) X.xe s:=λg=>by
  obtain⟨ds,e,b,f,q⟩:=g;obtain⟨a,vs,rfl,sq,l⟩:=pC d B e;have h :u=Value.ref a:=r;subst h;have C:=rF I d b z p;rcases sq with sq | sq
  ·obtain⟨aL,k,m,hz⟩:=I.list sq;have c:=iM I ds (iY f) l k;refine SeqAt.in_listAt (FY (cL mh dx)) m.isList (λw n=>qN o C f c w (by simpa using n)) ⟨.bl _,H,I,rfl,?_⟩;rw[show aL.toArray.any (FY (cL mh dx))=aL.any (FY (cL mh dx)) by simp,rA f c];exact F.here d q .bl
  ·obtain⟨aL,k,m,hz⟩:=I.tuple sq;have c:=iM I ds (iY f) l k;refine SeqAt.in_tupleAt (FY (cL mh dx)) m (λw n=>qN o C f c w (by simpa using n)) ⟨.bl _,H,I,rfl,?_⟩;rw[show aL.toArray.any (FY (cL mh dx))=aL.any (FY (cL mh dx)) by simp,rA f c];exact F.here d q .bl
 cases t with
 | str j=>
  obtain⟨i,rfl,q⟩:=q;cases d4 z;cases d4 B;exact JE pins s σ H _ _ v u Q I p r ⟨i,j,rfl,rfl,F.here d q .bl⟩
 | _=>exact go q
theorem MY(o:X.A.units+64<cLine):dW X (compareOp .NotIn) (bC X.K vF):=by
 intro pins s σ H x y v u Q I p r q;obtain⟨μ,mh,dx,t,R,d,z,B,q,F⟩:=q
 have go:(∃ds,aX mh t=some ds/\bare (cL mh dx)=true/\ds.all mF=true/\R (.bl !inD (cL mh dx) ds) mh)->wpAny (model X.prog X.w) X.A (compareOp .NotIn v u) (EP X pins σ Q) X.xe s:=λg=>by
  obtain⟨ds,e,b,f,q⟩:=g;obtain⟨a,vs,rfl,sq,l⟩:=pC d B e;have h :u=Value.ref a:=r;subst h;have C:=rF I d b z p;rcases sq with sq | sq
  ·obtain⟨aL,k,m,hz⟩:=I.list sq;have c:=iM I ds (iY f) l k;refine SeqAt.notIn_listAt (FY (cL mh dx)) m.isList (λw n=>qN o C f c w (by simpa using n)) ⟨.bl _,H,I,rfl,?_⟩;rw[show aL.toArray.any (FY (cL mh dx))=aL.any (FY (cL mh dx)) by simp,rA f c];exact F.here d q .bl
  ·obtain⟨aL,k,m,hz⟩:=I.tuple sq;have c:=iM I ds (iY f) l k;refine SeqAt.notIn_tupleAt (FY (cL mh dx)) m (λw n=>qN o C f c w (by simpa using n)) ⟨.bl _,H,I,rfl,?_⟩;rw[show aL.toArray.any (FY (cL mh dx))=aL.any (FY (cL mh dx)) by simp,rA f c];exact F.here d q .bl
 cases t with
 | str j=>
  obtain⟨i,rfl,q⟩:=q;cases d4 z;cases d4 B;exact zY pins s σ H _ _ v u Q I p r ⟨i,j,rfl,rfl,F.here d q .bl⟩
 | _=>exact go q
end
section
variable {prog:Program}{w:World}{A:Around}{E:aLx}{s:Shared}
open HT in
theorem oJ{t sl:Addr}{items:Array Value}{e f:Value}{lo hi:Option Int}{Q:aLx}(ht:IsTup s.heap t items)(g:s.heap.IsSliceOf sl e f .none)(j:IsPart e lo)(k:IsPart f hi)
  (i:dX items.size 0 lo=0/\dX items.size items.size hi=items.size)
  (h:Q (.ref t) s):wpAny (model prog w) A (getItem (.ref t) (.ref sl)) Q E s:=by
 obtain⟨os,b,c,l⟩:=id g
 have d:s.TypeIs (.ref sl) "slice":=⟨os,b,c⟩
 unfold getItem
 try with_reducible refine aIj ?_
 first | refine aHs (aHt ?_) | skip
 refine aHs (wpAny_sequenceKey ht.typeIs (by decide) ?_)
 refine aHs (aI8 (name:=Str.ofString "__getitem__") ht.typeIs aJ1
  (aI7 aJ1 ht.typeIs entry_tuple_getitem ?_ (args_tuple_getitem _ _)))
 show wpAny _ _ (Builtin.Tuple.tupleItemsOf (.ref t) >>=_) _ _ s;refine aHs (tupleItemsOf_ ht ?_);refine aHs (aL0 d ?_);rw[if_pos (by decide)];refine aHs (kH g j k ?_)
 have a:((((dX items.size 0 lo:Nat):Int)==0 && (1:Int)==1 && (dX items.size items.size hi-dX items.size 0 lo)==items.size)=true):=by
  rw[i.1,i.2];simp
 show wpAny _ _ (if (((dX items.size 0 lo:Nat):Int)==0 && (1:Int)==1 && (dX items.size items.size hi-dX items.size 0 lo)==items.size)=true then _ else _) _ _ s;rw[if_pos a];have m:=ht.typeIs;refine aHs ?_
 first
  | (refine aHs (aL0 m (aHt ?_));simp only[beq_self_eq_true,if_true];refine aHs (aJ0 ?_);first | exact aHt (aHt ⟨_,rfl,aHt h⟩) | exact aHs (aHt (aHt ⟨_,rfl,aHt h⟩)) | exact aHs (aHt (aHt (aHt ⟨_,rfl,aHt h⟩))))
  | trace_state
end
section
variable {X:Cx}
theorem RF:SlR X (λx lo hi H Q=>∃a xs,x= .ref a/\uL X.K H a xs/\
  ((HT.dX xs.length 0 lo=0/\HT.dX xs.length xs.length hi=xs.length)->Q (.ref a) H)/\(¬(HT.dX xs.length 0 lo=0/\HT.dX xs.length xs.length hi=xs.length)->∀p,H p=none->Q (.ref p) (upd H p (.tup (BC xs lo hi))))):=by
 intro pins s σ H x v j k lo hi sl Q I d e f g h;obtain⟨a,xs,rfl,i,q1,q2⟩:=h;by_cases c:HT.dX xs.length 0 lo=0/\HT.dX xs.length xs.length hi=xs.length
 ·cases d;obtain⟨aL,r,ht,hz⟩:=I.tuple i;have b:aL.toArray.size=xs.length:=by rw[List.size_toArray];exact r.length.symm
  exact⟨"tuple",_,aJ1.lookup,ht.typeIs,oJ ht e f g (by rw[b];exact c) ⟨.ref a,H,I,rfl,q1 c⟩⟩
 ·exact XB pins s σ H _ v j k lo hi sl Q I d e f g ⟨a,xs,rfl,i,c,q2 c⟩
def cutD(xs:List D)(lo hi:Option Int):List D:=(xs.drop (HT.dX xs.length 0 lo)).take (HT.dX xs.length xs.length hi-HT.dX xs.length 0 lo)
abbrev OS:=D->Option Int->Option Int->MH->DK->Prop
def WL(K:aLw)(f:OS):V->Option Int->Option Int->Hp->VK->Prop:=λx lo hi H Q=>∃μ mh dx R,Rep K μ mh H/\Is K μ H dx x/\f dx lo hi mh R/\Fin K μ H R Q
def oSl:OS:=λx lo hi mh Q=>match x with
 | .tup ds=>Q (.tup (cutD ds lo hi)) mh
 | _=>∃ds,i7 mh x=some ds/\Q (.ref mh.length) (mh++[.lst (cutD ds lo hi)])
theorem HS{ds:List D}{vs:List V}(l:IsL K μ H ds vs)(lo hi:Option Int):IsL K μ H (cutD ds lo hi) (BC vs lo hi):=by
 unfold cutD BC;rw[aV l];exact DD _ (DF _ l)
theorem sll:SlR X (WL X.K oSl):=by
 intro pins s σ H x v f g lo hi sl Q I h i j k q;obtain⟨μ,mh,dx,R,c,d,q,F⟩:=q
 have go:(∃ds,i7 mh dx=some ds/\R (.ref mh.length) (mh++[.lst (cutD ds lo hi)]))->∃T id,typeLookup (.type T) "__getitem__"=pure (some (.builtin id))/\s.TypeIs v T/\wpAny (model X.prog X.w) X.A (getItem v (.ref sl)) (EP X pins σ Q) X.xe s:=λb=>by
  obtain⟨ds,e,q⟩:=b;obtain⟨a,vs,rfl,sq,l⟩:=nE c d e;exact RG pins s σ H _ v f g lo hi sl Q I h i j k ⟨a,vs,rfl,sq,jM c F (HS l lo hi) q⟩
 cases dx with
 | tup ds=>
  obtain⟨a,vs,rfl,sq,l⟩:=dS d;refine RF pins s σ H _ v f g lo hi sl Q I h i j k ⟨a,vs,rfl,sq,λm=>?_,λ_=>oA c F (HS l lo hi) q⟩
  have e:cutD ds lo hi=ds:=by
   unfold cutD;rw[<-aV l,m.1,m.2,aV l];simp
  have n :R (.tup (cutD ds lo hi)) mh:=q;rw[e]at n;exact F.here c n d
 | _=>exact go q
abbrev WO:=dY->MH->(Option Int->MH->Prop)->Prop
def tLO(K:aLw)(w:WO):TO:=λσ H Q=>∃μ a mh R,Rep K μ mh H/\cD K μ H a σ/\w a mh R/\∀o mh',R o mh' ->∀μ' H',aJ μ H μ' H' ->Rep K μ' mh' H' ->Q o H'
def LO(X:Cx)(e:Option Expr)(w:WO):Prop:=PO X e (tLO X.K w)
def wNo:WO:=λ_ mh Q=>Q none mh
def B6(w:WE):WO:=λb mh Q=>w b mh λx a=>∃i,x= .int i/\Q (some i) a
variable {e:Expr}{w:WE}{lo hi:Option Expr}{wl wh:WO}{pos p2:Pos}
theorem T7:LO X none wNo:=λpins s σ H Q I q=>SO pins s σ H Q I (by
 obtain⟨μ,b,mh,R,a,E,h,F⟩:=q
 exact F none mh h μ H aJ.refl a)
theorem T6(h:LE X e w):LO X (some e) (B6 w):=λpins s σ H Q I q=>SN h pins s σ H Q I (by
 obtain⟨μ,c,mh,R,d,E,h,F⟩:=q;refine⟨μ,c,mh,_,d,E,h,λdx a b μ1 l f g j k=>?_⟩;obtain⟨i,rfl,b⟩:=b
 exact⟨i,bK k,F (some i) a b μ1 f g j⟩)
def wSl(f:OS)(w:WE)(wl wh:WO):WE:=λa mh Q=>w a mh λx b=>wl a b λl c=>wh a c λu d=>f x l u d Q
theorem NY{f:OS}(p:SlR X (WL X.K f))(he:LE X e w)(r:LO X lo wl)(s:LO X hi wh):LE X (.Subscript e (.Slice lo hi none p2) pos) (wSl f w wl wh):=PE.imp (MU p he r s) λσ H Q q=>by
 obtain⟨μ,a,mh,R,b,E,h,F⟩:=q;refine⟨μ,a,mh,_,b,E,h,λdx c t μ1 v B d n x=>⟨μ1,a,c,_,n,E.mono b d,t,λl g y i C j R2=>⟨i,a,g,_,R2,E.mono b (d.trans j),y,λu k z m D o A=>?_⟩⟩⟩;exact⟨m,k,dx,R,A,Is.mono n (j.trans o) dx v x,z,F.at ((d.trans j).trans o)⟩
abbrev OM:=D->List D->MH->DK->Prop
def liftM(K:aLw)(f:OM):V->List V->Hp->VK->Prop:=λx xs H Q=>∃μ mh dx ds R,Rep K μ mh H/\Is K μ H dx x/\IsL K μ H ds xs/\f dx ds mh R/\Fin K μ H R Q
def OG(mh:MH)(T:String):D->Prop
 | .str _=>T= "str"
 | .int _=>T= "int"
 | .ref n=>T= "list"/\∃ds,mh[n]? =some (.lst ds)
 | .fl _=>T= "list"
 | .tup _=>T= "tuple"
 | _=>False
theorem ZR{mh:MH}{T:String}{d:D}{v:V}(b:Rep K μ mh H)(i:Is K μ H d v)(k:OG mh T d):tyV K T v H:=by
 cases d with
 | str z=>cases d4 i;exact k
 | int z=>cases bK i;exact k
 | ref n=>obtain⟨e,ds,o⟩:=k;obtain⟨a,vs,rfl,_,hv,_⟩:=lN b i o;exact .inl ⟨e,vs,.of hv⟩
 | fl ds=>obtain⟨a,vs,rfl,sq,_⟩:=o6 i;exact .inl ⟨k,vs,sq.sq⟩
 | tup ds=>obtain⟨a,vs,rfl,sq,_⟩:=dS i;exact .inr (.inl ⟨k,vs,sq⟩)
 | _=>exact False.elim k
variable {o:Expr}{es:List Expr}{wo:WE}{wa:WA}{name:Str}{apos dP:Pos}{T id:String}
def QQ(T:String)(f:OM)(wo:WE)(wa:WA):WE:=λc mh Q=>wo c mh λx a=>OG a T x/\wa c a λds b=>f x ds b Q
theorem aDf{f:OM}(u:PlainAttrs T)(slot:Slot T name id)(g:typeOf (.builtin id)=pure (.type "method_descriptor"))(v:MtR X id (liftM X.K f))(ho:LE X o wo)(w:LA X (e::es) wa)
  (b:attributeBase o name X.env (eval o X.env)=eval o X.env:=by rfl)
  (d:((backTo dP (starEach (e::es) X.env)).all (λx=>!x.1) && (backToKw dP (keywordEach [] X.env)).all (λx=>x.1.isSome)
   && decide ((e::es).length+([]:List Keyword).length+(if ([]:List Keyword).isEmpty then 0 else 1)<30))=true:=by rfl)
  (c:(apos.endLine==dP.line)=true:=by rfl) (y:starEach (e::es) X.env=(false,eval e X.env)::starEach es X.env:=by rfl) (a:(backTo dP (starEach es X.env)).any (·.1)=false:=by rfl):
  LE X (.Call (.Attribute o name apos) (e::es) [] dP) (QQ T f wo wa):=PE.imp (aCi u slot g v ho w b d c y a) λσ H Q q=>by
 obtain⟨μ,m,mh,R,n,E,h,F⟩:=q;refine⟨μ,m,mh,_,n,E,h,λdx i p μ1 z C r j s=>⟨ZR j s p.1,μ1,m,i,_,j,E.mono n r,p.2,λds k A l vs D t R2 B=>?_⟩⟩;exact⟨l,k,dx,ds,R,R2,Is.mono j t dx z s,B,A,F.at (r.trans t)⟩
def d8:OM:=λx ds mh Q=>∃n es d,x= .ref n/\ds=[d]/\mh[n]? =some (.lst es)/\es.length<sizeLine/\Q .bT (mh.set n (.lst (es++[d])))
theorem JM:MtR X "list.append" (liftM X.K d8):=by
 intro pins s σ H x xs v us Q I c f q;obtain⟨μ,mh,dx,ds,R,b,g,h,⟨n,es,d,rfl,rfl,e,hz,q⟩,F⟩:=q;obtain⟨a,vs,rfl,i,hv,l⟩:=lN b g e;obtain⟨z,rfl,j⟩:=hJ h;exact rP pins s σ H _ _ v us Q I c f ⟨a,vs,z,rfl,rfl,hv,by rw[aV l];exact hz,F.put b i (lR l (fN j)) q .bT⟩
end
structure i5 where
 nx:dY->MH->Prop
 rt:DK
 bk:dY->MH->Prop:=λ_ _=>False
 ct:dY->MH->Prop:=λ_ _=>False
abbrev WS:=i5->dY->MH->Prop
def GN(K:aLw)(μ:List Addr)(H:Hp)(R:dY->MH->Prop)(Q:L2.St->Hp->Prop):Prop:=
 ∀a mh',R a mh' ->∀μ' b H',aJ μ H μ' H' ->Rep K μ' mh' H' ->cD K μ' H' a b ->Q b H'
structure BV(K:aLw)(μ:List Addr)(H:Hp)(E:i5)(D:Ends):Prop where
 nx:GN K μ H E.nx D.nx
 rt:Fin K μ H E.rt D.rt
 bk:GN K μ H E.bk D.bk
 ct:GN K μ H E.ct D.ct
def tLS(K:aLw)(w:WS):TS:=λD σ H=>∃μ a mh E,Rep K μ mh H/\cD K μ H a σ/\w E a mh/\BV K μ H E D
def LS(X:Cx)(st:Stmt)(w:WS):Prop:=PS X st (tLS X.K w)
def kZ(X:Cx)(st:List Stmt)(w:WS):Prop:=BU X st (tLS X.K w)
theorem PS.imp{e:Stmt}{t t' :TS}(h:PS X e t)(i:∀D σ H,t' D σ H->t D σ H):PS X e t' :=λpins s σ H D I q=>h pins s σ H D I (i D σ H q)
theorem BU.imp{e:List Stmt}{t t' :TS}(h:BU X e t)(i:∀D σ H,t' D σ H->t D σ H):BU X e t' :=λpins s σ H D I q=>h pins s σ H D I (i D σ H q)
section
variable {K:aLw}{μ μ1:List Addr}{H H1:Hp}
theorem GN.at{R:dY->MH->Prop}{Q:L2.St->Hp->Prop}(F:GN K μ H R Q)(P:aJ μ H μ1 H1):GN K μ1 H1 R Q:=λa mh' r μ' b H' c d I=>F a mh' r μ' b H' (P.trans c) d I
theorem BV.at{E:i5}{D:Ends}(F:BV K μ H E D)(P:aJ μ H μ1 H1):BV K μ1 H1 E D:=⟨F.nx.at P,F.rt.at P,F.bk.at P,F.ct.at P⟩
theorem cD.set{c:dY}{σ:L2.St}{d:D}{v:V}(E:cD K μ H c σ)(i:Nat)(h:Is K μ H d v):cD K μ H (c.set i (some d)) (σ.set i (some v)):=by
 refine⟨by simp[E.1],λj e b=>?_⟩;by_cases a:j=i
 ·subst a
  have f:j<c.length:=by
   have:=(aHv.mp b).1;simpa using this
  rw[List.getElem?_set_self f]at b;cases b;exact⟨v,by rw[List.getElem?_set_self (by rw[<-E.1];exact f)],h⟩
 ·rw[List.getElem?_set_ne (Ne.symm a)]at b;obtain⟨u,g,k⟩:=E.2 j e b;exact⟨u,by rw[List.getElem?_set_ne (Ne.symm a)];exact g,k⟩
end
def cO:WS:=λE a mh=>E.nx a mh
def aT(t u:WS):WS:=λE a mh=>t {E with nx:=u E} a mh
def mY(w:WE):WS:=λE b mh=>w b mh λ_ a=>E.nx b a
def cZ(w:WE):WS:=λE a mh=>w a mh E.rt
def eX(t:WT)(a b:WS):WS:=λE e mh=>t e mh λc d=>if c=true then a E e d else b E e d
section
variable {X:Cx}{st:Stmt}{rest a b:List Stmt}{t u:WS}{e:Expr}{w:WE}{wt:WT}{pos:Pos}
theorem Y3:kZ X [] cO:=BU.imp SI λD σ H a=>by obtain⟨μ,b,mh,E,R,En,h,F⟩:=a;exact F.nx b mh h μ σ H aJ.refl R En
theorem T5(d:LS X st t)(e:kZ X rest u):kZ X (st::rest) (aT t u):=BU.imp (MK d e) λD σ H a=>by
 obtain⟨μ,f,mh,E,R,En,h,F⟩:=a;exact⟨μ,f,mh,_,R,En,h,⟨λb mh' q μ' g H' i j c =>⟨μ',b,mh',E,j,c,q,F.at i⟩,F.rt,F.bk,F.ct⟩⟩
theorem Y2(a:LS X st t):kZ X [st] t:=SH a
theorem T3(he:LE X e w)(f:swapsWith e none pos.line X.env=pure false:=by rfl):LS X (.Expr e pos) (mY w):=PS.imp (SJ he f) λD σ H ⟨μ,b,mh,E,R,En,h,F⟩=>
 ⟨μ,b,mh,_,R,En,h,λd a q μ1 v g c i j=>F.nx b a q μ1 σ g c i (En.mono R c)⟩
theorem Y0(he:LE X e w):LS X (.Return (some e) pos) (cZ w):=PS.imp (XR he) λD σ H a=>by obtain⟨μ,b,mh,E,R,En,h,F⟩:=a;exact⟨μ,b,mh,_,R,En,h,F.rt⟩
theorem aD4{c:Expr}(j:LT X c wt)(l:kZ X a t)(m:kZ X b u):LS X (.If c a b pos) (eX wt t u):=PS.imp (aCb j l m) λD σ H f=>by
 obtain⟨μ,g,mh,E,R,En,h,F⟩:=f;refine⟨μ,g,mh,_,R,En,h,λk d q μ1 n e i=>?_⟩
 cases k with
 | true=>rw[if_pos rfl]at q⊢;exact⟨μ1,g,d,E,i,En.mono R e,q,F.at e⟩
 | false=>rw[if_neg Bool.false_ne_true]at q⊢;exact⟨μ1,g,d,E,i,En.mono R e,q,F.at e⟩
abbrev WG:=D->dY->(dY->Prop)->Prop
abbrev VQ:=List D->dY->(dY->Prop)->Prop
def gY(K:aLw)(g:TG)(e:WG):Prop:=∀v σ H Q μ c mh d R,Rep K μ mh H->cD K μ H c σ->Is K μ H d v->e d c R->(∀a,R a ->∀b,cD K μ H a b ->Q b H)->g v σ H Q
def zG(K:aLw)(g:IF)(d:VQ):Prop:=∀vs σ H Q μ c mh ds R,Rep K μ mh H->cD K μ H c σ->IsL K μ H ds vs->d ds c R->(∀a,R a ->∀b,cD K μ H a b ->Q b H)->g vs σ H Q
def gN(i:Nat):WG:=λd a Q=>Q (a.set i (some d))
def kN:VQ:=λds a Q=>ds=[]/\Q a
def cA(t:WG)(u:VQ):VQ:=λds b Q=>∃d r,ds=d::r/\t d b λa =>u r a Q
def gT(n:Nat)(u:VQ):WG:=λd a Q=>∃ds,d= .tup ds/\ds.length=n/\u ds a Q
theorem uI(i:Nat):gY K (o7 i) (gN i):=λv σ H Q μ a mh d R b En I h F=>F _ h _ (En.set i I)
theorem US:zG K O7 kN:=λvs σ H Q μ a mh ds R b En I h F=>by
 obtain⟨rfl,h⟩:=h;unfold IsL at I;exact⟨I,F a h σ En⟩
theorem O3{g:TG}{gs:IF}{f:WG}{a:VQ}(k:gY K g f)(l:zG K gs a):zG K (DL g gs) (cA f a):=λvs σ H Q μ m mh ds R i En I h F=>by
 obtain⟨d,r,rfl,h⟩:=h;unfold IsL at I;obtain⟨v,j,rfl,n,o⟩:=I;exact⟨v,j,rfl,k v σ H _ μ m mh d _ i En n h λb q c e =>l j c H Q μ b mh r R i e o q F⟩
theorem aA1{n:Nat}{gs:IF}{b:VQ}(h:zG K gs b):gY K (aA4 K n gs) (gT n b):=λv σ H Q μ c mh d R e En I q F=>by
 obtain⟨ds,rfl,f,q⟩:=q;obtain⟨a,vs,rfl,sq,l⟩:=dS I;exact⟨a,vs,rfl,sq,by rw[aV l];exact f,h vs σ H Q μ c mh ds R e En l q F⟩
def bI(w:WE)(g:WG):WS:=λE c mh=>w c mh λd a=>g d c λb =>E.nx b a
theorem BN{g:TG}{f:WG}{D:Ends}{σ:L2.St}(m:gY K g f)(h:tLS K (bI w f) D σ H):LQ (tL K w) g D σ H:=by
 obtain⟨μ,i,mh,E,R,En,h,F⟩:=h;refine⟨μ,i,mh,_,R,En,h,λd a q μ1 v j k l n=>?_⟩;exact m v σ j _ μ1 i a d _ l (En.mono R k) n q λb o c e =>F.nx b a o μ1 c j k l e
theorem NS(i:Nat){x:Str}{a :Pos}(hN:X.N.Nodup)(he:LE X e w)(hi:X.N[i]? =some x:=by rfl)(b:Loc X.env.scope x:=by first | exact Or.inl rfl | exact Or.inr rfl)(c:swapsWith e (some (.Name x a)) pos.line X.env=pure false:=by rfl)(d:X.fn x=true\/X.env.scope.names.lookup x=some .local:=by first | exact .inl rfl | exact .inr rfl | assumption):
  LS X (.Assign [.Name x a] e pos) (bI w (gN i)):=PS.imp (XQ hN hi b he c d) λD σ H h=>BN (uI i) h
theorem Y5{tg:Expr}{g:TG}{a:WG}(he:LE X e w)(hg:PG X tg g)(b:gY X.K g a)(c:swapsWithSole [tg] e pos.line X.env=pure false:=by rfl)(d:swappedStores [tg] e X.env=pure none:=by rfl)
  (f:(assignEach [tg] X.env).map (·.2)=[assign tg X.env]:=by rfl):LS X (.Assign [tg] e pos) (bI w a):=PS.imp (MP he hg c d f) λD σ H h=>BN b h
def RH:D->D->D->MH->(MH->Prop)->Prop:=λo i d mh Q=>∃n ds k j,o= .ref n/\i= .int k/\mh[n]? =some (.lst ds)/\FP ds.length k=some j/\Q (mh.set n (.lst (ds.set j d)))
def B5(w g wi:WE):WS:=λE a mh=>w a mh λd b=>g a b λo c=>wi a c λi e=>RH o i d e λf=>E.nx a f
theorem T1{o i:Expr}{y wi:WE}{b:Pos}(he:LE X e w)(ho:LE X o y)(hi:LE X i wi)
  (C:∀v,assign (.Subscript o i b) X.env v=(do
   let ov<-holding [v] (eval o X.env)
   let iv<-holding [v,ov] (eval i X.env)
   standAt b
   holding [v,ov,iv] (setItem ov iv v)
   release [v,ov,iv] []):=by intro _;rfl)
  (G:swapsWithSole [.Subscript o i b] e pos.line X.env=pure false:=by rfl) (I:swappedStores [.Subscript o i b] e X.env=pure none:=by rfl)
  (J:(assignEach [.Subscript o i b] X.env).map (·.2)=[assign (.Subscript o i b) X.env]:=by rfl):LS X (.Assign [.Subscript o i b] e pos) (B5 w y wi):=
 PS.imp (MP he (XY ho hi set_list C) G I J) λD σ H h=>by
  obtain⟨μ,g,mh,E,R,En,h,F⟩:=h;refine⟨μ,g,mh,_,R,En,h,λd m q μ1 v W p z K=>?_⟩;refine⟨μ1,g,m,_,z,En.mono R p,q,λL r q2 s Y Z t R2 M=>?_⟩;refine⟨s,g,r,_,R2,En.mono R (p.trans t),q2,λdi N q3 c vi A u x O=>?_⟩;obtain⟨n,ds,k,j,rfl,rfl,P,Q,S⟩:=q3;obtain⟨a,vs,rfl,B,hv,l⟩:=lN x (Is.mono R2 u _ _ M) P;cases bK O;have T:=Is.mono z (t.trans u) d v K;have U:aJ c A c (upd A a (.lst (vs.set j v))):=aJ.set x B;have V:=x.set B (HR j T l);have f:=((p.trans t).trans u).trans U;exact⟨a,vs,k,j,rfl,rfl,hv,by rw[aV l];exact Q,F.nx g _ S c σ _ f V (En.mono R f)⟩
def o9(t:WT)(b:WS):WS:=λE a mh=>∃W:Nat->dY->MH->Prop,(∃m,W m a mh)/\∀m a mh,W m a mh->∃N:dY->MH->Prop,(∀d mh',N d mh' ->∃f,f<m/\W f d mh')/\
 t a mh λc e=>if c=true then b {E with nx:=N,ct:=N,bk:=E.nx} a e else E.nx a e
theorem NR{c:Expr}{body:List Stmt}(y:PassesOwn (model X.prog X.w) X.A X.env X.xe)(z:LT X c wt)(B:kZ X body t):LS X (.While c body [] pos) (o9 wt t):=PS.imp (ML y z B) λD σ H h=>by
 obtain⟨μ,C,mh,E,R,En,⟨W,⟨m,G⟩,o⟩,F⟩:=h;refine⟨λm j H' =>∃μ' e mh',aJ μ H μ' H' /\Rep X.K μ' mh' H' /\cD X.K μ' H' e j /\W m e mh',⟨m,μ,C,mh,aJ.refl,R,En,G⟩,?_⟩;rintro m j H' ⟨μ',e,mh',v,u,l,w'⟩;obtain⟨N,hN,tt⟩:=o m e mh' w';refine⟨μ',e,mh',_,u,l,tt,λk p q μ1 I s x=>?_⟩
 cases k with
 | false=>rw[if_neg Bool.false_ne_true]at q⊢;exact F.nx e p q μ1 j I (v.trans s) x (l.mono u s)
 | true=>
  rw[if_pos rfl]at q⊢;refine⟨λg n=>∃a b d,aJ μ H a n/\Rep X.K a d n/\cD X.K a n b g/\N b d,?_,?_⟩
  ·rintro g n ⟨a,b,d,r,R2,f,n2⟩;obtain⟨J,L,M⟩:=hN b d n2;exact⟨J,L,a,b,d,r,R2,f,M⟩
  ·have i:=v.trans s;exact⟨μ1,e,p,_,x,l.mono u s,q,⟨λb d n2 a g n r R2 f=>⟨a,b,d,i.trans r,R2,f,n2⟩,F.rt.at i,F.nx.at i,λb d n2 a g n r R2 f=>⟨a,b,d,i.trans r,R2,f,n2⟩⟩⟩
def o8(t:WT)(b:WS)(E:i5):Nat->dY->MH->Prop
 | 0,_,_=>False
 | n+1,ρ,mh=>t ρ mh λc a=>if c=true then b {E with nx:=o8 t b E n,ct:=o8 t b E n,bk:=E.nx} ρ a else E.nx ρ a
theorem EK{t:WT}{b:WS}{E:i5}{a:dY}{mh:MH}(n:Nat)(h:o8 t b E n a mh):o9 t b E a mh:=by
 refine⟨λm a mh=>o8 t b E m a mh,⟨n,h⟩,λm a mh c=>?_⟩
 cases m with
 | zero=>exact c.elim
 | succ m=>exact⟨o8 t b E m,λd mh' q=>⟨m,aIs _,q⟩,c⟩
abbrev WI:=dY->MH->(List D->(MH->Prop)->MH->Prop)->Prop
structure eC(μ:List Addr)(H:Hp)(μ' :List Addr)(H' :Hp):Prop where
 pre:∃t,μ' =μ++t
 fr:∀b o,H b=some o->¬Own (some o)->H' b=some o
section
variable {K:aLw}{μ μ' :List Addr}{mh:MH}{H H' :Hp}
theorem aJ.weak(R:Rep K μ mh H)(P:aJ μ H μ' H'):eC μ H μ' H' :=⟨P.pre,λb o e n=>P.fr b o e λa=>n (by have:=R.mut a;rwa [e]at this)⟩
theorem eC.trans{a:Hp}(P:eC μ H μ1 a)(Q:eC μ1 a μ' H'):eC μ H μ' H' :=⟨by obtain⟨t,rfl⟩:=P.pre;obtain⟨u,rfl⟩:=Q.pre;exact⟨t++u,by simp⟩,λb o e n=>Q.fr b o (P.fr b o e n) n⟩
theorem eC.get(p:eC μ H μ' H'){n:Nat}{a:Addr}(h:μ[n]? =some a):μ'[n]? =some a:=by
 obtain⟨t,rfl⟩:=p.pre;rw[List.getElem?_append_left (List.getElem?_eq_some_iff.mp h).1];exact h
theorem eC.sqT(p:eC μ H μ' H'){a:Addr}{vs:List V}(h:KU K H a vs):KU K H' a vs:=by
 rcases h with h | h
 ·exact .inl (p.fr _ _ h id)
 ·exact .inr h
theorem eC.sqF(p:eC μ H μ' H'){a:Addr}{vs:List V}(h:QV K H a vs):QV K H' a vs:=by
 rcases h with ⟨o,h⟩ | h
 ·exact .inl ⟨o,p.fr _ _ h id⟩
 ·exact .inr h
mutual
theorem Is.gP(p:eC μ H μ' H'):∀(d:D) (v:V),Is K μ H d v->Is K μ' H' d v
 | .bT,v,h=>by unfold Is at*;exact h
 | .bl _,v,h=>by unfold Is at*;exact h
 | .int _,v,h=>by unfold Is at*;exact h
 | .str _,v,h=>by unfold Is at*;exact h
 | .ty _,v,h=>by unfold Is at*;exact h
 | .tup ds,v,h=>by
  unfold Is at*;obtain⟨a,vs,e,s,l⟩:=h;exact⟨a,vs,e,p.sqT s,IsL.gP p ds vs l⟩
 | .fl ds,v,h=>by
  unfold Is at*;obtain⟨a,vs,e,s,l⟩:=h;exact⟨a,vs,e,p.sqF s,IsL.gP p ds vs l⟩
 | .ref n,v,h=>by
  unfold Is at*;obtain⟨a,e,q⟩:=h;exact⟨a,p.get e,q⟩
theorem IsL.gP(p:eC μ H μ' H'):∀(ds:List D) (vs:List V),IsL K μ H ds vs->IsL K μ' H' ds vs
 | [],vs,h=>by unfold IsL at*;exact h
 | d::ds,vs,h=>by
  unfold IsL at*;obtain⟨v,r,e,q,l⟩:=h;exact⟨v,r,e,Is.gP p d v q,IsL.gP p ds r l⟩
end
end
structure GL(K:aLw)(μ:List Addr)(H:Hp)(ds:List D)(St:MH->Prop)(J:It):Prop where
 small:ds.length<=sizeLine
 go:∀μ' mh' H',eC μ H μ' H' ->Rep K μ' mh' H' ->St mh' ->∀(i:Nat) d,ds[i]? =some d->J.go i H' /\∀x H'',J.QZ i H' x H'' ->aJ μ' H' μ' H'' /\Rep K μ' mh' H'' /\Is K μ' H'' d x
 stop:∀μ' mh' H',eC μ H μ' H' ->Rep K μ' mh' H' ->St mh' ->J.stop ds.length H'
def LM(K:aLw)(w:WI):TI:=λσ H R=>∃μ c mh d,Rep K μ mh H/\cD K μ H c σ/\w c mh d /\
 ∀ds St a,d ds St a->∀μ1 J b,aJ μ H μ1 b->Rep K μ1 a b->GL K μ1 b ds St J->R J b
def LI(X:Cx)(tg iter:Expr)(w:WI):Prop:=PI X tg iter (LM X.K w)
theorem PI.imp{X:Cx}{tg e:Expr}{t t' :TI}(h:PI X tg e t)(i:∀σ H Q,t' σ H Q->t σ H Q):PI X tg e t' :=λpins s σ H Q I q=>h pins s σ H Q I (i σ H Q q)
def nF(g:WG)(b:WS)(E:i5)(St:MH->Prop):List D->dY->MH->Prop
 | [],ρ,mh=>St mh/\E.nx ρ mh
 | d::ds,ρ,mh=>St mh/\g d ρ λa=>b {E with nx:=nF g b E St ds,ct:=nF g b E St ds,bk:=E.nx} a mh
def jT(wi:WI)(g:WG)(b:WS):WS:=λE c mh=>wi c mh λds St a=>nF g b E St ds c a
theorem Y4{tg iter:Expr}{body:List Stmt}{wi:WI}{g:TG}{p:WG}(V:PassesOwn (model X.prog X.w) X.A X.env X.xe)(W:X.calm=true)(hi:LI X tg iter wi)(hg:PG X tg g)(Y:gY X.K g p)(Z:kZ X body t)
  (hs:∀x,foldedSetIterable iter X.env x=pure x:=by intro _;rfl):LS X (.For tg iter body [] pos) (jT wi p t):=PS.imp (XT V W hi hg Z hs) λD σ H h=>by
 obtain⟨μ,Q,mh,E,R,En,h,F⟩:=h;refine⟨μ,Q,mh,_,R,En,h,λds St B q μ1 J C G I It=>?_⟩;refine⟨λi m j H' =>∃μ' d mh',aJ μ1 C μ' H' /\Rep X.K μ' mh' H' /\cD X.K μ' H' d j /\i<=ds.length/\m=ds.length-i/\nF p t E St (ds.drop i) d mh',⟨ds.length,μ1,Q,B,aJ.refl,I,En.mono R G,aIx _,by simp,by simpa using q⟩,?_⟩;rintro i m j H' ⟨μ',d,mh',v,z,r,hi',rfl,l⟩;by_cases n:i<ds.length
 ·rw[List.drop_eq_getElem_cons n]at l;obtain⟨L,l⟩:=l;obtain⟨M,hy⟩:=It.go μ' mh' H' (v.weak I) z L i ds[i] (by simp[n]);refine .inr ⟨M,λf k=>∃a b c,aJ μ1 C a k/\Rep X.K a c k/\cD X.K a k b f/\nF p t E St (ds.drop (i+1)) b c,?_,λx H'' y=>?_⟩
  ·rintro f k ⟨a,b,c,N,R2,o,l2⟩;exact⟨ds.length-(i+1),by lia,a,b,c,N,R2,o,n,rfl,l2⟩
  ·obtain⟨S,T,Iy⟩:=hy x H'' y;refine Y x j H'' _ μ' d mh' _ _ T (r.mono z S) Iy l λO q3 σ3 P=>?_;have U:=v.trans S;have s:=G.trans U
   have u:GN X.K μ' H'' (nF p t E St (ds.drop (i+1))) (λf k=>∃a b c,aJ μ1 C a k/\Rep X.K a c k/\cD X.K a k b f/\nF p t E St (ds.drop (i+1)) b c):=
    λb c n2 a f k N R2 o=>⟨a,b,c,U.trans N,R2,o,n2⟩
   exact⟨μ',O,mh',_,T,P,q3,⟨u,F.rt.at s,F.nx.at s,u⟩⟩
 ·have e:i=ds.length:=by lia
  subst e;rw[List.drop_of_length_le (Nat.le_refl _)]at l;exact .inl ⟨It.stop μ' mh' H' (v.weak I) z l.1,F.nx d mh' l.2 μ' j H' (G.trans v) z r⟩
end
def cY(w:WE):WI:=λb mh Q=>w b mh λx a=>∃ds,aX a x=some ds/\Q ds (λmh' =>aX mh' x=some ds) a
section
variable {K:aLw}{μ:List Addr}{mh:MH}{H:Hp}{ds:List D}{vs:List V}{a:Addr}
theorem Z3{St:MH->Prop}(R:Rep K μ mh H)(s:KU K H a vs)(l:IsL K μ H ds vs)(hz:ds.length<=sizeLine):GL K μ H ds St (Itt K a):=by
 refine⟨hz,λμ' mh' H' b c _ i d e=>?_,λμ' mh' H' b c _=>⟨vs,(b.sqT s).sq,by rw[aV l];exact aHw _⟩⟩;have f :=(b.sqT s).sq;obtain⟨v,g,h⟩:=d9 (IsL.gP b ds vs l) e;refine⟨⟨vs,v,f,g⟩,λx H'' y=>?_⟩;obtain⟨rfl,y⟩:=y;have:=y vs f;rw[g]at this;cases this;exact⟨aJ.refl,c,h⟩
theorem aDk{St:MH->Prop}(R:Rep K μ mh H)(s:QV K H a vs)(l:IsL K μ H ds vs)(hz:ds.length<=sizeLine):GL K μ H ds St (Itl K a):=by
 refine⟨hz,λμ' mh' H' b c _ i d e=>?_,λμ' mh' H' b c _=>⟨vs,(b.sqF s).sq,by rw[aV l];exact aHw _⟩⟩;have f :=(b.sqF s).sq;obtain⟨v,g,h⟩:=d9 (IsL.gP b ds vs l) e;refine⟨⟨vs,v,f,g⟩,λx H'' y=>?_⟩;obtain⟨rfl,y⟩:=y;have:=y vs f;rw[g]at this;cases this;exact⟨aJ.refl,c,h⟩
theorem uA{mh:MH}{n:Nat}{ds:List D}(h:aX mh (.ref n)=some ds):mh[n]? =some (.lst ds):=by
 simp only[aX]at h
 cases o:mh[n]? with
 | none=>rw[o]at h;cases h
 | some ob=>cases ob with
  | lst es=>rw[o]at h;cases h;rfl
  | bM t kvs=>rw[o]at h;cases h
  | gD t kvs ob=>rw[o]at h;cases h
  | oth ds f=>rw[o]at h;cases h
theorem Z4{n:Nat}(R:Rep K μ mh H)(g:μ[n]? =some a)(hz:ds.length<=sizeLine):GL K μ H ds (λmh' =>aX mh' (.ref n)=some ds) (Itl K a):=by
 refine⟨hz,λμ' mh' H' c b f i d e=>?_,λμ' mh' H' c b f=>?_⟩
 ·obtain⟨vs,hv,l⟩:=b.obj n a _ (c.get g) (uA f);obtain⟨v,h,j⟩:=d9 l e;refine⟨⟨vs,v,.of hv,h⟩,λx H'' y=>?_⟩;obtain⟨rfl,y⟩:=y;have:=y vs (.of hv);rw[h]at this;cases this;exact⟨aJ.refl,b,j⟩
 ·obtain⟨vs,hv,l⟩:=b.obj n a _ (c.get g) (uA f);exact⟨vs,.of hv,by rw[aV l];exact aHw _⟩
end
section
variable {X:Cx}{tg l:Expr}{w:WE}
theorem Y6(C:LE X l w):LI X tg l (cY w):=by
 intro pins s σ H R I h;obtain⟨μ,D,mh,E,G,En,h,F⟩:=h;refine b6 (C pins s σ H (λv f=>∃μ1 x c ds,aJ μ H μ1 f/\Rep X.K μ1 c f/\Is X.K μ1 f x v/\aX c x=some ds/\E ds (λmh' =>aX mh' x=some ds) c) I ⟨μ,D,mh,_,G,En,h,λd c q μ1 v f u k g=>?_⟩) λv s1 ⟨x,f,g,r1,q1⟩=>?_
 ·obtain⟨ds,e,q⟩:=q;exact⟨μ1,d,c,ds,u,k,g,e,q⟩
 ·obtain⟨μ1,dx,c,ds,u,k,y,e,q⟩:=q1;obtain⟨a,vs,rfl,sq,J⟩:=pC k y e;have hz:ds.length<=sizeLine:=by rw[<-aV J];exact XA g sq
  have i:∀{vs:List V},rB X.K f a vs->GL X.K μ1 f ds (λmh' =>aX mh' dx=some ds) (Itl X.K a)->wpAny (model X.prog X.w) X.A (pyIter v) (PIE X pins σ tg R) X.xe s1:=λ{vs} sq It=>by
   obtain⟨aL,L,p,_⟩:=g.list sq;cases r1;refine aL4 p.isList ?_;refine⟨s1.heap.objs.size,[s1.heap.objs.size],_,_,f,rfl,g.kept (t' :=s1.toks) λb o e=>aHu _ e,IM a _,⟨_,aHy _ rfl,rfl,rfl⟩,λb z=>?_,F ds _ c q μ1 _ f u k It⟩;have e:b=s1.heap.objs.size:=by simpa using z
   subst e;exact g.DO (aHw _) (g.bJ.fresh (aHw _))
  cases dx with
  | tup es=>
   cases e;obtain⟨B,r,t,j,m⟩:=AW y;cases t;obtain⟨aL,L,p,_⟩:=g.tuple j.sq;cases r1;refine aKu (show s1.heap.IsTuple a aL.toArray from p) ?_;refine⟨s1.heap.objs.size,[s1.heap.objs.size],_,_,f,rfl,g.kept (t' :=s1.toks) λb o e=>aHu _ e,EM a _,⟨_,aHy _ rfl,rfl,rfl⟩,λb z=>?_,F ds _ c q μ1 _ f u k (Z3 k j m hz)⟩;have e:b=s1.heap.objs.size:=by simpa using z
   subst e;exact g.DO (aHw _) (g.bJ.fresh (aHw _))
  | fl es=>
   cases e;obtain⟨B,r,t,j,m⟩:=o6 y;cases t;exact i j.sq (aDk k j m hz)
  | ref n=>
   obtain⟨B,r,t,M,hv,m⟩:=lN k y (uA e);cases t;exact i (.of hv) (Z4 k M hz)
  | _=>cases e
def lM(lo:Int)(n:Nat):List D:=(List.range n).map λ(k:Nat)=>D.int (lo+(k:Int))
theorem OP{St:MH->Prop}{lo:Int}{n:Nat}(hz:n<=sizeLine):GL K μ H (lM lo n) St (Itr lo n):=by
 refine⟨by simpa[lM] using hz,λμ' mh' H' b a _ i d e=>?_,λμ' mh' H' b a _=>by show n<=_;simp[lM]⟩;simp only[lM,List.getElem?_map]at e;obtain⟨k,hk,rfl⟩:=aI3.mp e;obtain⟨hi,rfl⟩:=aHv.mp hk;simp at hi;refine⟨hi,λx H'' y=>?_⟩;obtain⟨rfl,rfl⟩:=y;exact⟨aJ.refl,a,by simp;exact .int⟩
variable {a b:Expr}{wa:WA}{p pos:Pos}
def kB(wa:WA):WI:=λb mh Q=>wa b mh λds a=>∃j,ds=[.int j]/\ -(2^62)<=j/\j<=sizeLine/\Q (lM 0 j.toNat) (λ_=>True) a
def GV(wa:WA):WI:=λb mh Q=>wa b mh λds a=>∃i j,ds=[.int i,.int j]/\ -(2^62)<=i/\i<2^62/\ -(2^62)<=j/\j<2^62/\j-i<=sizeLine/\Q (lM i (j-i).toNat) (λ_=>True) a
theorem JS(hg:Gl X "range")(d:X.mg "range"=none)(e:LA X [a] wa)(c:starEach [a] X.env=[(false,eval a X.env)]:=by rfl):LI X tg (.Call (.Name "range" p) [a] [] pos) (kB wa):=
 PI.imp (JC hg d e c) λσ H R h=>by
  obtain⟨μ,f,mh,r,g,En,h,F⟩:=h;refine⟨μ,f,mh,_,g,En,h,λds b q μ1 vs i k l m=>?_⟩;obtain⟨j,rfl,n,s,q⟩:=q;obtain⟨v,rfl,o⟩:=hJ m;cases bK o;have t:=nG;have c:sizeLine=16777216:=aIf;exact⟨j,rfl,n,by lia,F _ _ b q μ1 _ i k l (OP (by lia))⟩
theorem JR(hg:Gl X "range")(e:X.mg "range"=none)(f:LA X [a,b] wa)(g:starEach [a,b] X.env=[(false,eval a X.env),(false,eval b X.env)]:=by rfl)(c:starEach [b] X.env=[(false,eval b X.env)]:=by rfl):LI X tg (.Call (.Name "range" p) [a,b] [] pos) (GV wa):=
 PI.imp (JB hg e f g c) λσ H R h=>by
  obtain⟨μ,k,mh,A,l,En,h,F⟩:=h;refine⟨μ,k,mh,_,l,En,h,λds d q μ1 vs m n o r=>?_⟩;obtain⟨i,j,rfl,s,t,w,x,B,q⟩:=q;obtain⟨v,u,rfl,y,z⟩:=vQ r;cases bK y;cases bK z;exact⟨i,j,rfl,⟨s,t,w,x⟩,F _ _ d q μ1 _ m n o (OP (by lia))⟩
def jQ:List D->List D->List D
 | a::as,b::bs=>.tup [a,b]::jQ as bs
 | _,_=>[]
theorem dZ:∀(as bs:List D),(jQ as bs).length=min as.length bs.length
 | [],bs=>by simp[jQ]
 | a::as,[]=>by simp[jQ]
 | a::as,b::bs=>by simp[jQ,dZ as bs]
theorem iF:∀{as bs:List D} {i:Nat} {d:D},(jQ as bs)[i]? =some d->∃x y,as[i]? =some x/\bs[i]? =some y/\d= .tup [x,y]
 | [],bs,i,d,h=>by simp[jQ]at h
 | a::as,[],i,d,h=>by simp[jQ]at h
 | a::as,b::bs,0,d,h=>by simp[jQ]at h;exact⟨a,b,rfl,rfl,h.symm⟩
 | a::as,b::bs,i+1,d,h=>by simpa using iF (as:=as) (bs:=bs) (i:=i) (by simpa[jQ] using h)
def p7(wa:WA):WI:=λb mh Q=>wa b mh λxs a=>∃x y ds es,xs=[x,y]/\aX a x=some ds/\aX a y=some es/\ds.length<=sizeLine/\Q (jQ ds es) (λmh' =>aX mh' x=some ds/\aX mh' y=some es) a
def vP:D->Bool | .tup _=>true | _=>false
theorem fJ{mh:MH}{d:D}{v:V}{ds:List D}(R:Rep K μ mh H)(h:Is K μ H d v)(e:aX mh d=some ds):∃a vs,v= .ref a/\rD K H (vP d) a vs/\IsL K μ H ds vs:=by
 cases d with
 | tup es=>obtain⟨a,vs,rfl,s,l⟩:=dS h;cases e;exact⟨a,vs,rfl,s,l⟩
 | fl es=>obtain⟨a,vs,rfl,s,l⟩:=o6 h;cases e;exact⟨a,vs,rfl,s.sq,l⟩
 | ref n=>obtain⟨a,vs,rfl,_,hv,l⟩:=lN R h (uA e);exact⟨a,vs,rfl,rB.of hv,l⟩
 | _=>cases e
variable {e1 e2:Expr}{elts:List Expr}{x1:Nat}{lK:Pos}
theorem T9{x1}(hg:Gl X "zip")(P:X.mg "zip"=none)(Q:LA X [e1,e2] wa)
  (he:starEach [e1,e2] X.env=(false,eval e1 X.env)::starEach [e2] X.env:=by rfl) (w:(backTo pos (starEach [e2] X.env)).any (·.1)=false:=by rfl):
  LI X (.Tuple elts x1 lK) (.Call (.Name "zip" p) [e1,e2] [] pos) (p7 wa):=
 PI.imp (XU uM ⟨by decide,by decide⟩ hg P Q (by decide+kernel) he w) λσ H R h=>by
  obtain⟨μ,S,mh,g,T,En,h,F⟩:=h;refine⟨μ,S,mh,_,T,En,h,λxs A q μ1 vs G U B V=>?_⟩;obtain⟨x,y,ds,es,rfl,W,Y,hz,q⟩:=q;obtain⟨v,u,rfl,I,J⟩:=vQ V;obtain⟨a,xs,rfl,Z,la⟩:=fJ B I W;obtain⟨b,r,rfl,sb,lb⟩:=fJ B J Y;refine⟨[(a,vP x),(b,vP y)],rfl,rfl,?_,F _ _ A q μ1 _ G U B ?_⟩
  ·intro C n;simp at n;rcases n with rfl | rfl
   ·exact⟨xs,Z⟩
   ·exact⟨r,sb⟩
  ·have l:∀μ' mh' H',eC μ1 G μ' H' ->Rep X.K μ' mh' H' ->(aX mh' x=some ds/\aX mh' y=some es)->∃xs r,rD X.K H' (vP x) a xs/\IsL X.K μ' H' ds xs/\rD X.K H' (vP y) b r/\IsL X.K μ' H' es r:=λμ' mh' H' m g st=>by
    obtain⟨a',c,e1,s1,l1⟩:=fJ g (Is.gP m _ _ I) st.1;obtain⟨b',f,e2,s2,l2⟩:=fJ g (Is.gP m _ _ J) st.2;cases e1;cases e2;exact⟨c,f,s1,l1,s2,l2⟩
   refine⟨by rw[dZ];lia,λμ' mh' H' m g st i d e=>?_,λμ' mh' H' m g st=>?_⟩
   ·obtain⟨c,f,s1,l1,s2,l2⟩:=l μ' mh' H' m g st;obtain⟨dx,dy,g1,g2,rfl⟩:=iF e;obtain⟨s,L,ix⟩:=d9 l1 g1;obtain⟨t,M,iy⟩:=d9 l2 g2;refine⟨⟨[s,t],rfl,λk a' t' v hk hv=>?_⟩,λz H'' yl=>?_⟩
    ·match k with
     | 0=>cases hk;cases hv;exact⟨c,s1,L⟩
     | 1=>cases hk;cases hv;exact⟨f,s2,M⟩
     | k+2=>simp at hk
    ·obtain⟨C,vs,N,rfl,rfl,D,o⟩:=yl
     match vs,D with
     | [v1,v2],_=>
      have e1:=o 0 a (vP x) v1 rfl rfl c s1;have e2:=o 1 b (vP y) v2 rfl rfl f s2;rw[L]at e1;rw[M]at e2;cases e1;cases e2;have E:aJ μ' H' μ' (upd H' C (.tup [s,t])):=aJ.new g N;refine⟨E,g.new N,?_⟩;unfold Is;refine⟨C,[s,t],rfl,.of aR,?_⟩;unfold IsL;exact⟨s,[t],rfl,Is.mono g E _ _ ix,fN (Is.mono g E _ _ iy)⟩
   ·obtain⟨c,f,s1,l1,s2,l2⟩:=l μ' mh' H' m g st;rw[dZ];by_cases hle:ds.length<=es.length
    ·refine⟨0,a,vP x,c,rfl,s1,by rw[aV l1];lia,λj b u O=>absurd O (by lia)⟩
    ·refine⟨1,b,vP y,f,rfl,s2,by rw[aV l2];lia,λj b u O hs=>?_⟩;have:j=0:=by lia
     subst this;cases hs;exact⟨c,s1,by rw[aV l1];lia⟩
end
section
variable {K:aLw}{μ μ' :List Addr}{mh:MH}{H H0:Hp}{q:Addr}{o:HO}
mutual
theorem Is.out(b:GK (H q)):∀(d:D) (v:V),Is K μ H d v->Is K μ (upd H q o) d v
 | .bT,v,h=>by unfold Is at*;exact h
 | .bl _,v,h=>by unfold Is at*;exact h
 | .int _,v,h=>by unfold Is at*;exact h
 | .str _,v,h=>by unfold Is at*;exact h
 | .ty _,v,h=>by unfold Is at*;exact h
 | .tup ds,v,h=>by
  unfold Is at*;obtain⟨a,vs,e,s,l⟩:=h;refine⟨a,vs,e,?_,IsL.out b ds vs l⟩;rcases s with s | s
  ·exact .inl (by rw[aO (λz=>by subst z;rw[s]at b;exact b)];exact s)
  ·exact .inr s
 | .fl ds,v,h=>by
  unfold Is at*;obtain⟨a,vs,e,s,l⟩:=h;refine⟨a,vs,e,?_,IsL.out b ds vs l⟩
  rcases s with ⟨ob,s⟩ | s
  ·exact .inl ⟨ob,by rw[aO (λz=>by subst z;rw[s]at b;exact b)];exact s⟩
  ·exact .inr s
 | .ref n,v,h=>by unfold Is at*;exact h
theorem IsL.out(a:GK (H q)):∀(ds:List D) (vs:List V),IsL K μ H ds vs->IsL K μ (upd H q o) ds vs
 | [],vs,h=>by unfold IsL at*;exact h
 | d::ds,vs,h=>by
  unfold IsL at*;obtain⟨v,r,e,i,l⟩:=h;exact⟨v,r,e,Is.out a d v i,IsL.out a ds r l⟩
end
mutual
theorem Is.pre(b:∀(n:Nat) a,μ[n]? =some a->μ'[n]? =some a):∀(d:D) (v:V),Is K μ H d v->Is K μ' H d v
 | .bT,v,h=>by unfold Is at*;exact h
 | .bl _,v,h=>by unfold Is at*;exact h
 | .int _,v,h=>by unfold Is at*;exact h
 | .str _,v,h=>by unfold Is at*;exact h
 | .ty _,v,h=>by unfold Is at*;exact h
 | .tup ds,v,h=>by unfold Is at*;obtain⟨a,vs,e,s,l⟩:=h;exact⟨a,vs,e,s,IsL.pre b ds vs l⟩
 | .fl ds,v,h=>by unfold Is at*;obtain⟨a,vs,e,s,l⟩:=h;exact⟨a,vs,e,s,IsL.pre b ds vs l⟩
 | .ref n,v,h=>by unfold Is at*;obtain⟨a,e,q⟩:=h;exact⟨a,b n a e,q⟩
theorem IsL.pre(b:∀(n:Nat) a,μ[n]? =some a->μ'[n]? =some a):∀(ds:List D) (vs:List V),IsL K μ H ds vs->IsL K μ' H ds vs
 | [],vs,h=>by unfold IsL at*;exact h
 | d::ds,vs,h=>by unfold IsL at*;obtain⟨v,r,e,i,l⟩:=h;exact⟨v,r,e,Is.pre b d v i,IsL.pre b ds r l⟩
end
theorem Rep.out(R:Rep K μ mh H)(c:GK (H q))(g:q∉μ):Rep K μ mh (upd H q o):=⟨R.len,R.nd,λn a ob d i=>by
 have h:=R.obj n a ob d i;have b:a≠q:=λz=>g (z▸aI2 d)
 cases ob with
 | lst ds=>obtain⟨vs,e,l⟩:=h;exact⟨vs,by rw[aO b];exact e,IsL.out c ds vs l⟩
 | bM t kvs=>obtain⟨vs,e,l⟩:=h;exact⟨vs,by rw[aO b];exact e,IsL.out c _ vs l⟩
 | gD t kvs ob=>obtain⟨vs,u,e,j,l⟩:=h;exact⟨vs,u,by rw[aO b];exact e,j,IsL.out c _ vs l⟩
 | oth ds f=>obtain⟨vs,⟨e,m⟩,l⟩:=h;exact⟨vs,⟨by rw[aO b];exact e,m⟩,IsL.out c ds vs l⟩⟩
theorem aJ.out(P:aJ μ H0 μ' H)(h0:H0 q=none):aJ μ H0 μ' (upd H q o):=⟨P.pre,λb u e n=>by rw[aO (bR e h0)];exact P.fr b u e n,P.nw⟩
theorem Rep.KS{i:MO}(R:Rep K μ mh H)(o:q∉μ)(e:nS K (μ++[q]) H i q):Rep K (μ++[q]) (mh++[i]) H:=by
 have j:∀{es us},IsL K μ H es us->IsL K (μ++[q]) H es us:=λ{es us} l=>IsL.pre (λn a h=>by rw[List.getElem?_append_left (List.getElem?_eq_some_iff.mp h).1];exact h) es us l;refine⟨by simp[R.len],?_,λn a ob c g=>?_⟩
 ·rw[List.nodup_append];refine⟨R.nd,by simp,λa p b k=>?_⟩;simp at k;subst k;exact λz=>o (z▸p)
 ·by_cases m:n<μ.length
  ·rw[List.getElem?_append_left m]at c;rw[List.getElem?_append_left (by rw[<-R.len];exact m)]at g;have h:=R.obj n a ob c g
   cases ob with
   | lst es=>obtain⟨us,d,l1⟩:=h;exact⟨us,d,j l1⟩
   | bM t kvs=>obtain⟨us,d,l1⟩:=h;exact⟨us,d,j l1⟩
   | gD t kvs ob=>obtain⟨us,u,d,r,l1⟩:=h;exact⟨us,u,d,r,j l1⟩
   | oth ds f=>obtain⟨us,d,l1⟩:=h;exact⟨us,d,j l1⟩
  ·rw[List.getElem?_append_right (by lia)]at c;rw[List.getElem?_append_right (by rw[<-R.len];lia)]at g
   have hz:n-μ.length=0:=by
    have:=(aHv.mp c).1;simp at this;lia
   rw[hz]at c;rw[<-R.len,hz]at g;simp at c g;subst c g;exact e
theorem Rep.aAu{ds:List D}{vs:List V}(R:Rep K μ mh H)(b:q∉μ)(e:H q=some (.lst vs))(l:IsL K μ H ds vs):Rep K (μ++[q]) (mh++[.lst ds]) H:=
 R.KS b ⟨vs,e,IsL.pre (λn a h=>by rw[List.getElem?_append_left (List.getElem?_eq_some_iff.mp h).1];exact h) ds vs l⟩
end
def cX(own:List Str)(aE:List Nat)(a:dY):dY:=own.map (λ_=>none)++aE.map λi=>(a[i]?).join
def kR(g:WG)(t:WT)(w:WE)(ρe:dY)(St:MH->Prop)(Q:DK):List D->List D->MH->Prop
 | [],ys,mh=>St mh/\Q (.ref mh.length) (mh++[.lst ys])
 | d::ds,ys,mh=>St mh/\g d ρe λa=>t a mh λb c=>if b=true then w a c λy e=>kR g t w ρe St Q ds (ys++[y]) e else kR g t w ρe St Q ds ys c
def oV(own:List Str)(aE:List Nat)(wi:WI)(g:WG)(t:WT)(w:WE):WE:=λb mh Q=>wi b mh λds St a=>kR g t w (cX own aE b) St Q ds [] a
def fS:WT:=λ_ mh Q=>Q true mh
section
variable {K:aLw}{μ μ1:List Addr}{mh:MH}{H H1:Hp}
theorem aJ.away{q:Addr}{o:HO}(P:aJ μ H μ1 H1)(a:q∉μ)(e:H q=some o):q∉μ1/\H1 q=some o:=by
 refine⟨λh=>?_,P.fr q o e a⟩;rcases P.nw q h with z | z
 ·exact a z
 ·rw[e]at z;cases z
theorem cD.emb{a:dY}{σ:L2.St}{own:List Str}{aE:List Nat}(E:cD K μ H a σ):cD K μ H (cX own aE a) (r9 own aE σ):=by
 refine⟨by simp[cX,r9],λi d h=>?_⟩;unfold cX at h;unfold r9;by_cases hi:i<own.length
 ·rw[List.getElem?_append_left (by simpa using hi),List.getElem?_map]at h
  cases q:own[i]? with
  | none=>rw[q]at h;simp at h
  | some z=>rw[q]at h;simp at h
 ·rw[List.getElem?_append_right (by simpa using hi),List.getElem?_map]at h⊢;simp only[List.length_map]at h⊢
  cases q:aE[i-own.length]? with
  | none=>rw[q]at h;simp at h
  | some k=>
   rw[q]at h;simp only[Option.map_some,Option.some.injEq]at h⊢
   cases r:a[k]? with
   | none=>rw[r]at h;simp at h
   | some z=>
    rw[r]at h;simp at h;subst h;obtain⟨v,b,c⟩:=E.2 k d r;exact⟨v,by rw[b];rfl,c⟩
end
section
variable {X:Cx}
def BX(X:Cx)(es:List Expr)(w:WT):Prop:=QW X es (G1 X.K w)
theorem TY:BX X [] fS:=λpins s σ H Q I q=>SF pins s σ H Q I (by
 obtain⟨μ,b,mh,R,a,En,h,F⟩:=q
 exact F true mh h μ H aJ.refl a)
theorem TX{c:Expr}{t:WT}(h:LT X c t):BX X [c] t:=SE h
theorem HI{wi:WI}{g:TG}{M:WG}{t:WT}{w:WE}{own:List Str}{aE:List Nat}(hr:gY X.K g M){σ:L2.St}(h:tL X.K (oV own aE wi M t w) σ H Q):tLC own aE (LM X.K wi) g (G1 X.K t) (tL X.K w) σ H Q:=by
 intro _ _;obtain⟨μ,N,mh,R,RR,En,h,F⟩:=h;refine⟨μ,N,mh,_,RR,En,h,λds St U q μ1 J V P1 O It acc f=>?_⟩;have n:acc∉μ1:=λz=>O.ne f z rfl
 refine⟨λi m s H' =>∃μ' mh' d,aJ μ1 V μ' H' /\Rep X.K μ' mh' H' /\acc∉μ' /\H' acc=some (.lst s)/\IsL X.K μ' H' d s/\d.length<=i/\i<=ds.length/\m=ds.length-i/\kR M t w (cX own aE N) St R (ds.drop i) d mh',
  ⟨ds.length,μ1,U,[],aJ.out aJ.refl f,O.new f,n,aR,by unfold IsL;rfl,aHw _,aIx _,by simp,by simpa using q⟩,?_⟩
 rintro i m s H' ⟨μ',mh',d,o,u,v,W,Y,hd',hi',rfl,c⟩;refine⟨W,?_⟩;by_cases p:i<ds.length
 ·rw[List.drop_eq_getElem_cons p]at c;obtain⟨Z,c⟩:=c;obtain⟨hgo,hy⟩:=It.go μ' mh' H' (o.weak O) u Z i ds[i] (by simp[p]);refine .inr ⟨hgo,λr A=>∃k l j,aJ μ1 V k A/\Rep X.K k l A/\acc∉k/\A acc=some (.lst r)/\IsL X.K k A j r/\j.length<=i+1/\kR M t w (cX own aE N) St R (ds.drop (i+1)) j l,?_,λx H'' y=>?_⟩
  ·rintro r A ⟨k,l,j,P2,R2,ha2,e2,l2,hd2,c2⟩;exact⟨ds.length-(i+1),by lia,k,l,j,P2,R2,ha2,e2,l2,hd2,p,rfl,c2⟩
  ·obtain⟨P,S,Iy⟩:=hy x H'' y;obtain⟨hay,ey⟩:=P.away v W;have ly:=IsL.mono u P d s Y;have P0y:=P1.trans (o.trans P);refine hr x _ H'' _ μ' (cX own aE N) mh' _ _ S (En.mono RR P0y).emb Iy c λB q2 σ2 C=>?_;refine⟨μ',B,mh',_,S,C,q2,λb D q3 E H3 T R3=>?_⟩;obtain⟨G,e3⟩:=T.away hay ey;have l3:=IsL.mono S T d s ly;have I:=(o.trans P).trans T
   cases b with
   | false=>rw[if_neg Bool.false_ne_true]at q3⊢;exact⟨E,D,d,I,R3,G,e3,l3,by lia,q3⟩
   | true=>
    rw[if_pos rfl]at q3⊢;refine⟨by have:=It.small;rw[aV Y];lia,E,B,D,_,R3,C.mono S T,q3,λy mh4 q4 μ4 vy H4 P4 R4 I4=>?_⟩;obtain⟨L,e4⟩:=P4.away G e3;have hm:GK (H4 acc):=by rw[e4];trivial
    have l4:=IsL.mono R3 P4 d s l3;exact⟨e4,μ4,mh4,d++[y],aJ.out (I.trans P4) f,R4.out hm L,L,aR,IsL.out hm _ _ (lR l4 (fN I4)),by simp;lia,q4⟩
 ·have e:i=ds.length:=by lia
  subst e;rw[List.drop_of_length_le (Nat.le_refl _)]at c;refine .inl ⟨It.stop μ' mh' H' (o.weak O) u c.1,?_⟩
  have Pa:aJ μ1 V (μ' ++[acc]) H' :=⟨by obtain⟨t,rfl⟩:=o.pre;exact⟨t++[acc],by simp⟩,o.fr,λa ha=>by
   rcases aI9.mp ha with ha | ha
   ·exact o.nw a ha
   ·simp at ha;subst ha;exact .inr f⟩
  exact F _ _ c.2 (μ' ++[acc]) _ H' (P1.trans Pa) (u.aAu v W Y) (by unfold Is;exact⟨acc,by rw[<-u.len];simp,rfl⟩)
theorem WM{tg iter a:Expr}{b:List Expr}{scope sc:Scope}{N:List Str}{pos:Pos}{wi:WI}{g:TG}{c:WG}{t:WT}{w:WE}(own:List Str)(aE:List Nat)
  (hN:X.N=N) (hsc:X.env.scope=sc) (chk:cB N sc scope aE=true) (dB:X.calm=true) (hi:LI X tg iter wi) (ho:kW own.length g)
  (d:gY X.K g c)
  (hg:∀cl C fp s₀ H₀,PG (aH X own aE scope cl C fp s₀ H₀) tg g) (ht:∀cl C fp s₀ H₀,BX (aH X own aE scope cl C fp s₀ H₀) b t)
  (he:∀cl C fp s₀ H₀,LE (aH X own aE scope cl C fp s₀ H₀) a w)
  (e:∀x,foldedSetIterable iter X.env x=pure x:=by intro _;rfl):LE X (.ListComp a [⟨tg,iter,b,0⟩] scope pos) (oV own aE wi c t w):=
 PE.imp (aCf (wi:=LM X.K wi) (tt:=G1 X.K t) (te:=tL X.K w) own aE hN hsc chk dB hi ho hg (λcl C fp s₀ H₀=>ht cl C fp s₀ H₀) (λcl C fp s₀ H₀=>he cl C fp s₀ H₀) e) λσ H Q h=>HI d h
theorem NU(i:Nat){x:Str}{a e:Pos}{tg iter b:Expr}{c:List Expr}{scope sc:Scope}{N:List Str}{pos:Pos}{wi:WI}{g:TG}{f:WG}{t:WT}{w:WE}(nd:X.N.Nodup)(own:List Str)(aE:List Nat)
  (hN:X.N=N) (hsc:X.env.scope=sc) (chk:cB N sc scope aE=true) (dB:X.calm=true) (hi:LI X tg iter wi) (ho:kW own.length g)
  (j:gY X.K g f)
  (hg:∀cl C fp s₀ H₀,PG (aH X own aE scope cl C fp s₀ H₀) tg g) (ht:∀cl C fp s₀ H₀,BX (aH X own aE scope cl C fp s₀ H₀) c t)
  (he:∀cl C fp s₀ H₀,LE (aH X own aE scope cl C fp s₀ H₀) b w)
  (d:X.N[i]? =some x:=by rfl) (k:Loc X.env.scope x:=by first | exact Or.inl rfl | exact Or.inr rfl) (l:swapsWith (.ListComp b [⟨tg,iter,c,0⟩] scope pos) (some (.Name x a)) e.line X.env=pure true:=by rfl) (m:X.fn x=true\/X.env.scope.names.lookup x=some .local:=by first | exact .inl rfl | exact .inr rfl | assumption)
  (n:∀x,foldedSetIterable iter X.env x=pure x:=by intro _;rfl):LS X (.Assign [.Name x a] (.ListComp b [⟨tg,iter,c,0⟩] scope pos) e) (bI (oV own aE wi f t w) (gN i)):=
 PS.imp (MM (wi:=LM X.K wi) (tt:=G1 X.K t) (te:=tL X.K w) own aE hN hsc chk dB hi ho hg (λcl C fp s₀ H₀=>ht cl C fp s₀ H₀) (λcl C fp s₀ H₀=>he cl C fp s₀ H₀) nd d k l m n) λD σ H h=>HI j (BN (uI i) h)
end
mutual
def o5(n:Nat):D->Bool
 | .ref k=>decide (k<n)
 | .tup ds=>fK n ds
 | .fl ds=>fK n ds
 | _=>true
def fK(n:Nat):List D->Bool
 | []=>true
 | d::ds=>o5 n d && fK n ds
end
def aCz(n:Nat):MO->Bool
 | .lst ds=>fK n ds
 | .bM _ kvs=>fK n (kvs.map (·.2))
 | .gD _ kvs _=>fK n (kvs.map (·.2))
 | .oth ds _=>fK n ds
def oG(mh:MH):Prop:=∀o∈mh,aCz mh.length o=true
section
variable {K:aLw}{μ:List Addr}{mh:MH}{H:Hp}
mutual
theorem RY:∀(d:D) (v:V),Is K μ H d v->o5 μ.length d=true
 | .bT,v,h=>rfl
 | .bl _,v,h=>rfl
 | .int _,v,h=>rfl
 | .str _,v,h=>rfl
 | .ty _,v,h=>rfl
 | .tup ds,v,h=>by obtain⟨a,vs,_,_,l⟩:=dS h;simpa[o5] using gO ds vs l
 | .fl ds,v,h=>by obtain⟨a,vs,_,_,l⟩:=o6 h;simpa[o5] using gO ds vs l
 | .ref n,v,h=>by obtain⟨a,e,_⟩:=jV h;simpa[o5] using (aHv.mp e).1
theorem gO:∀(ds:List D) (vs:List V),IsL K μ H ds vs->fK μ.length ds=true
 | [],vs,h=>rfl
 | d::ds,vs,h=>by
  unfold IsL at h;obtain⟨v,r,_,i,l⟩:=h;simp only[fK,RY d v i,gO ds r l,Bool.and_self]
end
theorem Rep.mok(R:Rep K μ mh H):oG mh:=λo ho=>by
 obtain⟨n,a⟩:=aJb.mp ho;have b:n<μ.length:=by rw[R.len];exact(aHv.mp a).1
 have h:=R.obj n μ[n] o (by simp[b]) a;rw[<-R.len]
 cases o with
 | lst ds=>obtain⟨vs,_,l⟩:=h;exact gO ds vs l
 | bM t kvs=>obtain⟨vs,_,l⟩:=h;exact gO _ vs l
 | gD t kvs ob=>obtain⟨vs,_,_,_,l⟩:=h;exact gO _ vs l
 | oth ds f=>obtain⟨vs,_,l⟩:=h;exact gO _ vs l
mutual
theorem Is.cut{n:Nat}:∀(d:D) (v:V),o5 n d=true->Is K μ H d v->Is K (μ.take n) H d v
 | .bT,v,_,h=>by unfold Is at*;exact h
 | .bl _,v,_,h=>by unfold Is at*;exact h
 | .int _,v,_,h=>by unfold Is at*;exact h
 | .str _,v,_,h=>by unfold Is at*;exact h
 | .ty _,v,_,h=>by unfold Is at*;exact h
 | .tup ds,v,b,h=>by unfold Is at*;obtain⟨a,vs,e,s,l⟩:=h;exact⟨a,vs,e,s,IsL.cut ds vs (by simpa[o5] using b) l⟩
 | .fl ds,v,b,h=>by unfold Is at*;obtain⟨a,vs,e,s,l⟩:=h;exact⟨a,vs,e,s,IsL.cut ds vs (by simpa[o5] using b) l⟩
 | .ref k,v,b,h=>by unfold Is at*;obtain⟨a,e,q⟩:=h;exact⟨a,by rw[List.getElem?_take_of_lt (by simpa[o5] using b)];exact e,q⟩
theorem IsL.cut{n:Nat}:∀(ds:List D) (vs:List V),fK n ds=true->IsL K μ H ds vs->IsL K (μ.take n) H ds vs
 | [],vs,_,h=>by unfold IsL at*;exact h
 | d::ds,vs,b,h=>by
  unfold IsL at*;simp only[fK,Bool.and_eq_true]at b;obtain⟨v,r,e,i,l⟩:=h;exact⟨v,r,e,Is.cut d v b.1 i,IsL.cut ds r b.2 l⟩
end
theorem Rep.cut{c d:MH}(R:Rep K μ (c++d) H)(ok:oG c):Rep K (μ.take c.length) c H:=by
 have k:c.length<=μ.length:=by rw[R.len];simp
 refine⟨by simp[k],List.Nodup.sublist (aJz _ _) R.nd,λn a o i g=>?_⟩;have j:n<c.length:=(aHv.mp g).1;rw[List.getElem?_take_of_lt j]at i;have h:=R.obj n a o i (by rw[List.getElem?_append_left j];exact g);have b:=ok o (aI2 g)
 cases o with
 | lst ds=>obtain⟨vs,e,l⟩:=h;exact⟨vs,e,IsL.cut ds vs b l⟩
 | bM t kvs=>obtain⟨vs,e,l⟩:=h;exact⟨vs,e,IsL.cut _ vs b l⟩
 | gD t kvs ob=>obtain⟨vs,u,e,m,l⟩:=h;exact⟨vs,u,e,m,IsL.cut _ vs b l⟩
 | oth ds f=>obtain⟨vs,e,l⟩:=h;exact⟨vs,e,IsL.cut ds vs b l⟩
end
def Out(n:Nat)(d:D)(c:MH)(R:DK):Prop:=R d c\/(∃a b,c=a++b/\n<=a.length/\oG a/\o5 a.length d=true/\R d a)\/
 ∃a b j o,c=a++b/\n<=a.length/\oG a/\d= .ref j/\a.length<=j/\c[j]? =some o/\aCz a.length o=true/\R (.ref a.length) (a++[o])
variable{mh:MH}
theorem S1(E:Rep K μ mh H)(F:Fin K μ H R Q):Fin K μ H (λd w=>Out mh.length d w R) Q:=by
 intro d w h μ1 v x m y C
 have key:∀{g:MH},mh.length<=g.length->∃t,μ1.take g.length=μ++t:=λ{g} i=>by
  obtain⟨t,rfl⟩:=m.pre;rw[List.take_append,List.take_of_length_le (by rw[E.len];exact i)];exact⟨_,rfl⟩
 rcases h with h | ⟨g,A,rfl,i,ok,b,h⟩ | ⟨g,A,j,o,rfl,i,ok,rfl,I,ho,b,h⟩
 ·exact F d w h μ1 v x m y C
 ·exact F d g h (μ1.take g.length) v x ⟨key i,m.fr,λa s=>m.nw a (aJ9 s)⟩ (y.cut ok) (Is.cut d v b C)
 ·have B:=y.cut ok;obtain⟨a,s,rfl⟩:=jV C;have r:=y.obj j a o s ho;have p:(μ1.take g.length).length=g.length:=B.len
  have q:a∉μ1.take g.length:=λz=>by
   obtain⟨k,hk⟩:=aJb.mp z;have D:k<g.length:=by have:=(aHv.mp hk).1;lia
   rw[List.getElem?_take_of_lt D]at hk;have:=HD y.nd hk s
   lia
  cases o with
  | lst ds=>
   obtain⟨vs,e,l⟩:=r;refine F _ _ h (μ1.take g.length++[a]) _ x ⟨?_,m.fr,λc hc=>?_⟩ (B.aAu q e (IsL.cut ds vs b l)) (by unfold Is;exact⟨a,by rw[<-p];simp,rfl⟩)
   ·obtain⟨t,ht⟩:=key i;exact⟨t++[a],by rw[ht];simp⟩
   ·rcases aI9.mp hc with hc | hc
    ·exact m.nw c (aJ9 hc)
    ·simp at hc;subst hc;exact m.nw c (aI2 s)
  | bM t kvs=>
   obtain⟨vs,e,l⟩:=r;refine F _ _ h (μ1.take g.length++[a]) _ x ⟨?_,m.fr,λc hc=>?_⟩ (B.KS q ⟨vs,e,IsL.pre (λn a h=>by rw[List.getElem?_append_left (List.getElem?_eq_some_iff.mp h).1];exact h) _ vs (IsL.cut _ vs b l)⟩) (by unfold Is;exact⟨a,by rw[<-p];simp,rfl⟩)
   ·obtain⟨t,ht⟩:=key i;exact⟨t++[a],by rw[ht];simp⟩
   ·rcases aI9.mp hc with hc | hc
    ·exact m.nw c (aJ9 hc)
    ·simp at hc;subst hc;exact m.nw c (aI2 s)
  | oth ds f=>
   obtain⟨vs,e,l⟩:=r;refine F _ _ h (μ1.take g.length++[a]) _ x ⟨?_,m.fr,λc hc=>?_⟩ (B.KS q ⟨vs,e,IsL.pre (λn a h=>by rw[List.getElem?_append_left (List.getElem?_eq_some_iff.mp h).1];exact h) _ vs (IsL.cut _ vs b l)⟩) (by unfold Is;exact⟨a,by rw[<-p];simp,rfl⟩)
   ·obtain⟨t,ht⟩:=key i;exact⟨t++[a],by rw[ht];simp⟩
   ·rcases aI9.mp hc with hc | hc
    ·exact m.nw c (aJ9 hc)
    ·simp at hc;subst hc;exact m.nw c (aI2 s)
  | gD t kvs ob=>
   obtain⟨vs,u,e,G,l⟩:=r;refine F _ _ h (μ1.take g.length++[a]) _ x ⟨?_,m.fr,λc hc=>?_⟩ (B.KS q ⟨vs,u,e,G,IsL.pre (λn a h=>by rw[List.getElem?_append_left (List.getElem?_eq_some_iff.mp h).1];exact h) _ vs (IsL.cut _ vs b l)⟩) (by unfold Is;exact⟨a,by rw[<-p];simp,rfl⟩)
   ·obtain⟨t,ht⟩:=key i;exact⟨t++[a],by rw[ht];simp⟩
   ·rcases aI9.mp hc with hc | hc
    ·exact m.nw c (aJ9 hc)
    ·simp at hc;subst hc;exact m.nw c (aI2 s)
def aK(N:List Str)(ds:List D):dY:=ds.map some++List.replicate (N.length-ds.length) none
variable{N:List Str}{ds:List D}
theorem LR{vs:List V}(l:IsL K μ H ds vs):cD K μ H (aK N ds) (L2.start N vs):=by
 have a:=aV l;refine⟨by simp[aK,L2.start,a],λi d h=>?_⟩;unfold aK at h;unfold L2.start;by_cases hi:i<ds.length
 ·rw[List.getElem?_append_left (by simpa using hi),List.getElem?_map]at h;obtain⟨d',b,c⟩:=aI3.mp h;cases c;obtain⟨v,e,f⟩:=d9 l b;exact⟨v,by rw[List.getElem?_append_left (by simpa[a] using hi),List.getElem?_map,e];rfl,f⟩
 ·rw[List.getElem?_append_right (by simpa using hi)]at h;obtain⟨_,h⟩:=aHv.mp h;simp at h
section
variable {P:Program}{w:World}{K:aLw}{mg:aLz}{base:Heap}
theorem aEc{x qual:Str}{st:Stmt}{f:Addr}{fd:FuncData}{N ps:List Str}{k:Nat}{s:OA}{wB:WS}(F:Fun K x qual st f fd)(S:aY N ps (aF st))(len:∀ds mh R,s ds mh R->ds.length=ps.length)
  (g:∀(cdv:Value) (A:Around) (outer:List Env) (s:Shared) (H:Hp) (E:XK),gX k (A.deeper (envOfC qual (aF st) s.heap.objs.size f cdv))->
   kZ (wJ EF P w K mg base N qual (aF st) f cdv A outer s H E).TH (cU st) wB)
  (i:∀ds mh R,oG mh->fK mh.length ds=true->s ds mh R->wB {nx:=λ_ a=>Out mh.length .bT a R,rt:=λd a=>Out mh.length d a R} (aK N ds) mh):kX P w K mg base EF (k+1) f fd ps (QT K s):=by
 refine F.ok S (λvs H Q E h=>?_) (λcdv A outer j H vs Q E l h=>?_)
 ·obtain⟨μ,mh,ds,R,b,c,h,_⟩:=h;rw[aV c];exact len ds mh R h
 ·obtain⟨μ,mh,ds,R,b,c,h,m⟩:=h;refine⟨_,g cdv A outer j H E l,μ,aK N ds,mh,_,b,LR c,i ds mh R b.mok (by rw[<-b.len];exact gO ds vs c) h,?_⟩;have e:=S1 b m;exact⟨λn mh' q μ' o H' p r t =>e .bT mh' q μ' .bT H' p r .bT,e,λ_ _ q=>False.elim q,λ_ _ q=>False.elim q⟩
end
def Fn(P:Program)(w:World)(K:aLw)(mg:aLz)(base:Heap)(k:Nat)(x:Str)(ps:List Str)(s:OA):Prop:=
 ∃f fd,kX P w K mg base EF k f fd ps (QT K s)/\mg x=some (.ref f)/\PySem.W.keepIn K (.ref f)=true/\Binds K fd ps []
variable{P:Program}{w:World}{mg:aLz}{x:Str}{ps:List Str}
theorem Fn.mono{base:Heap}{j k:Nat}{s:OA}(h:Fn P w K mg base j x ps s)(hk:j<=k):Fn P w K mg base k x ps s:=
 let ⟨f,fd,a,b,c,d⟩:=h;⟨f,fd,a.mono hk,b,c,d⟩
theorem Fn.imp{base:Heap}{k:Nat}{s g :OA}(h:Fn P w K mg base k x ps s)(hi:∀ds mh R,g ds mh R->s ds mh R):Fn P w K mg base k x ps g :=
 let ⟨f,fd,a,b,c,d⟩:=h;⟨f,fd,a.imp λvs H Q E e=>by obtain⟨μ,mh,ds,R,r1,r2,r3,i⟩:=e;exact⟨μ,mh,ds,R,r1,r2,hi ds mh R r3,i⟩,b,c,d⟩
section
variable {X:Cx}{e:Expr}{es:List Expr}{wr:WA}{pos p:Pos}{x:Str}
theorem N6{k:Nat}{s:OA}(F:Fn X.prog X.w X.K X.mg X.base k x ps s)(i:gX k X.A)(j:LA X (e::es) wr)(hg:Gl X x:=by rfl)(g:(x==("__debug__":Str))=false:=by decide)
  (he:starEach (e::es) X.env=(false,eval e X.env)::starEach es X.env:=by rfl) (h:(backTo pos (starEach es X.env)).any (·.1)=false:=by rfl):LE X (.Call (.Name x p) (e::es) [] pos) (aG s wr):=by
 obtain⟨f,fd,a,b,c,d⟩:=F;exact UJ a i hg b c d j g he h
theorem HG{T:String}(a:X.mg x=none)(hv:bootBuiltins x=some (.type T))(hg:Gl X x:=by rfl)(b:x≠ "__name__":=by decide)(hd:(x==("__debug__":Str))=false:=by decide):LE X (.Name x pos) (wC (.ty T)):=UA hg a hv b hd
theorem aDe{id:String}{f:OA}(c:cE X (.builtin id) (dU X.K f))(d:X.mg x=none)(hv:bootBuiltins x=some (.builtin id))(g:LA X (e::es) wr)(hg:Gl X x:=by rfl)(h:x≠ "__name__":=by decide)(a:(x==("__debug__":Str))=false:=by decide)
  (he:starEach (e::es) X.env=(false,eval e X.env)::starEach es X.env:=by rfl) (b:(backTo pos (starEach es X.env)).any (·.1)=false:=by rfl):LE X (.Call (.Name x p) (e::es) [] pos) (aG f wr):=N7 c hg d hv g h a he b
theorem aDc{T:String}{f:OA}(c:cE X (.type T) (dU X.K f))(d:X.mg x=none)(hv:bootBuiltins x=some (.type T))(g:LA X (e::es) wr)(hg:Gl X x:=by rfl)(h:x≠ "__name__":=by decide)(a:(x==("__debug__":Str))=false:=by decide)
  (he:starEach (e::es) X.env=(false,eval e X.env)::starEach es X.env:=by rfl) (b:(backTo pos (starEach es X.env)).any (·.1)=false:=by rfl):LE X (.Call (.Name x p) (e::es) [] pos) (aG f wr):=JU c hg d hv g h a he b
theorem RC(i:Nat)(hN:X.N.Nodup)(hi:X.N[i]? =some x:=by rfl)(a:Loc X.env.scope x:=by first | exact Or.inl rfl | exact Or.inr rfl)(b:X.fn x=true\/X.env.scope.names.lookup x=some .local:=by first | exact .inl rfl | exact .inr rfl):PG X (.Name x pos) (o7 i):=SS hN hi a b
theorem aD1{a:CmpOp}(b:Expr)(h:a≠ .In:=by decide)(c:a≠ .NotIn:=by decide):behindInMarks a b=false:=NC b h c
end
structure Bl(mg:aLz):Prop where
 len:mg "len"=none
 range:mg "range"=none
 zip:mg "zip"=none
 all:mg "all"=none
 any:mg "any"=none
 abs:mg "abs"=none
 min:mg "min"=none
 max:mg "max"=none
 isinstance:mg "isinstance"=none
 sorted:mg "sorted"=none
 int:mg "int"=none
 str:mg "str"=none
 bool:mg "bool"=none
 list:mg "list"=none
 tuple:mg "tuple"=none
 set:mg "set"=none
 dict:mg "dict"=none
 sum:mg "sum"=none
 enumerate:mg "enumerate"=none
theorem aAn:bootBuiltins "int"=some (.type "int"):=by decide+kernel
theorem aAk:bootBuiltins "str"=some (.type "str"):=by decide+kernel
theorem VG:bootBuiltins "bool"=some (.type "bool"):=by decide+kernel
theorem VE:bootBuiltins "list"=some (.type "list"):=by decide+kernel
theorem wU:bootBuiltins "tuple"=some (.type "tuple"):=by decide+kernel
theorem aAl:bootBuiltins "set"=some (.type "set"):=by decide+kernel
theorem QC:bootBuiltins "len"=some (.builtin "len"):=by decide+kernel
theorem aAp:bootBuiltins "all"=some (.builtin "all"):=by decide+kernel
theorem aAo:bootBuiltins "any"=some (.builtin "any"):=by decide+kernel
theorem aAq:bootBuiltins "abs"=some (.builtin "abs"):=by decide+kernel
theorem aAm:bootBuiltins "min"=some (.builtin "min"):=by decide+kernel
theorem QB:bootBuiltins "max"=some (.builtin "max"):=by decide+kernel
theorem xT:bootBuiltins "isinstance"=some (.builtin "isinstance"):=by decide+kernel
theorem oF:bootBuiltins "sorted"=some (.builtin "sorted"):=by decide+kernel
def oLt:O2:=λx y mh Q=>match x with
 | .int i=>match y with | .int j=>Q (.bl (decide (i<j))) mh | _=>False
 | .str a=>match y with | .str b=>Q (.bl (decide (a.cps.toList<b.cps.toList))) mh | _=>False
 | _=>False
def oLe:O2:=λx y mh Q=>match x with
 | .int i=>match y with | .int j=>Q (.bl (decide (i<=j))) mh | _=>False
 | .str a=>match y with | .str b=>Q (.bl (!decide (b.cps.toList<a.cps.toList))) mh | _=>False
 | _=>False
def TF:O2:=λx y mh Q=>match x with
 | .int i=>match y with | .int j=>Q (.bl (decide (j<i))) mh | _=>False
 | _=>False
def oGe:O2:=λx y mh Q=>match x with
 | .int i=>match y with | .int j=>Q (.bl (decide (j<=i))) mh | _=>False
 | _=>False
section
variable {X:Cx}
theorem aCr(g:X.A.units+64<cLine):dW X (compareOp .Lt) (bC X.K oLt):=by
 intro pins s σ H x y v u Q I a b q;obtain⟨μ,mh,dx,c,R,d,e,f,q,F⟩:=q
 cases dx with
 | int i=>cases c with
  | int j=>cases bK e;cases bK f;exact aCl pins s σ H _ _ v u Q I a b ⟨i,j,rfl,rfl,F.here d q .bl⟩
  | _=>exact False.elim q
 | str i=>cases c with
  | str j=>cases d4 e;cases d4 f;exact JD pins s σ H _ _ v u Q I a b ⟨i,j,rfl,rfl,F.here d q .bl⟩
  | _=>exact False.elim q
 | _=>exact False.elim q
theorem aCs(g:X.A.units+64<cLine):dW X (compareOp .LtE) (bC X.K oLe):=by
 intro pins s σ H x y v u Q I a b q;obtain⟨μ,mh,dx,c,R,d,e,f,q,F⟩:=q
 cases dx with
 | int i=>cases c with
  | int j=>cases bK e;cases bK f;exact aCm pins s σ H _ _ v u Q I a b ⟨i,j,rfl,rfl,F.here d q .bl⟩
  | _=>exact False.elim q
 | str i=>cases c with
  | str j=>
   cases d4 e;cases d4 f;obtain⟨t,rfl⟩:=a;obtain⟨t',rfl⟩:=b;exact PySem.P.le_str ⟨.bl (!decide (j.cps.toList<i.cps.toList)),H,I,by show _=_;first | rfl | (congr 1;simp),F.here d q .bl⟩
  | _=>exact False.elim q
 | _=>exact False.elim q
theorem aCu(g:X.A.units+64<cLine):dW X (compareOp .Gt) (bC X.K TF):=by
 intro pins s σ H x y v u Q I a b q;obtain⟨μ,mh,dx,c,R,d,e,f,q,F⟩:=q
 cases dx with
 | int i=>cases c with
  | int j=>cases bK e;cases bK f;exact aCn pins s σ H _ _ v u Q I a b ⟨i,j,rfl,rfl,F.here d q .bl⟩
  | _=>exact False.elim q
 | _=>exact False.elim q
theorem aCv(g:X.A.units+64<cLine):dW X (compareOp .GtE) (bC X.K oGe):=by
 intro pins s σ H x y v u Q I a b q;obtain⟨μ,mh,dx,c,R,d,e,f,q,F⟩:=q
 cases dx with
 | int i=>cases c with
  | int j=>cases bK e;cases bK f;exact aCo pins s σ H _ _ v u Q I a b ⟨i,j,rfl,rfl,F.here d q .bl⟩
  | _=>exact False.elim q
 | _=>exact False.elim q
end
variable{α:Type}
def got(o:Option α)(k:α->Prop):Prop:=match o with | some a=>k a | none=>False
@[simp] theorem aD (a:α)(k:α->Prop):got (some a) k=k a:=rfl
@[simp] theorem aE9 (k:α->Prop):got none k=False:=rfl
theorem fO(o:Option α)(k:α->Prop):(∃a,o=some a/\k a)↔got o k:=by
 cases o <;> simp[got]
def asB:D->Option Bool | .bl b=>some b | _=>none
def asI:D->Option Int | .int i=>some i | _=>none
@[simp] theorem bX (b:Bool):asB (.bl b)=some b:=rfl
@[simp] theorem aFj (i:Int):asI (.int i)=some i:=rfl
theorem exB(x:D)(P:Bool->Prop):(∃k,x= .bl k/\P k)=got (asB x) P:=by
 apply propext
 cases x with
 | bl b=>exact⟨λa=>by obtain⟨k,e,h⟩:=a;cases e;exact h,λh=>⟨b,rfl,h⟩⟩
 | _=>exact⟨λc=>by obtain⟨k,e,h⟩:=c;exact(by cases e),λh=>False.elim h⟩
theorem exI(x:D)(P:Int->Prop):(∃k,x= .int k/\P k)=got (asI x) P:=by
 apply propext
 cases x with
 | int b=>exact⟨λa=>by obtain⟨k,e,h⟩:=a;cases e;exact h,λh=>⟨b,rfl,h⟩⟩
 | _=>exact⟨λc=>by obtain⟨k,e,h⟩:=c;exact(by cases e),λh=>False.elim h⟩
section
variable {mh:MH}{Q:DK}{ρ:dY}
@[simp] theorem L6 (i:Nat):aA i ρ mh Q↔got ((ρ[i]?).join) λd=>Q d mh:=by
 unfold aA
 cases h:ρ[i]? with
 | none=>simp
 | some o=>cases o <;> simp
@[simp] theorem s_c (d:D):wC d ρ mh Q=(Q d mh):=rfl
@[simp] theorem aBw (f:O2)(a b:WE):bE f a b ρ mh Q=(a ρ mh λx c=>b ρ c λy d=>f x y d Q):=rfl
@[simp] theorem s_un (f:O1)(a:WE):wUn f a ρ mh Q=(a ρ mh λx b=>f x b Q):=rfl
@[simp] theorem aF4 (f g:O2)(a b c:WE):rE f g a b c ρ mh Q↔a ρ mh λx e=>b ρ e λy h=>f x y h λz d=>got (asB z) λk=>if k=true then c ρ d λu i=>g y u i Q else Q (.bl false) d:=by unfold rE;simp only[exB]
@[simp] theorem aBx (R:List D->MH->Prop):aI ρ mh R=(R [] mh):=rfl
@[simp] theorem XE (a:WE)(r:WA)(R:List D->MH->Prop):aB a r ρ mh R=(a ρ mh λx b=>r ρ b λxs c=>R (x::xs) c):=rfl
@[simp] theorem s_call (f:OA)(a:WA):aG f a ρ mh Q=(a ρ mh λds b=>f ds b Q):=rfl
@[simp] theorem s_tup (a:WA):mJ a ρ mh Q=(a ρ mh λds b=>ds.length<=sizeLine/\Q (.tup ds) b):=rfl
@[simp] theorem s_lst (a:WA):oI a ρ mh Q=(a ρ mh λds b=>ds.length<=sizeLine/\Q (.ref b.length) (b++[.lst ds])):=rfl
@[simp] theorem aGq (a b:WE):sO a b ρ mh Q↔a ρ mh λx d=>got (asB x) λc=>if c=true then b ρ d Q else Q (.bl false) d:=by unfold sO;simp only[exB]
@[simp] theorem aGc (a:WE):GW a ρ mh Q↔a ρ mh λx b=>got (asB x) λc=>Q (.bl !c) b:=by unfold GW;simp only[exB]
@[simp] theorem s_sl (f:OS)(a:WE)(l h:WO):wSl f a l h ρ mh Q=(a ρ mh λx b=>l ρ b λlo c=>h ρ c λhi d=>f x lo hi d Q):=rfl
@[simp] theorem s_no (R:Option Int->MH->Prop):wNo ρ mh R=(R none mh):=rfl
@[simp] theorem aGb (a:WE)(R:Option Int->MH->Prop):B6 a ρ mh R↔a ρ mh λx b=>got (asI x) λi=>R (some i) b:=by unfold B6;simp only[exI]
@[simp] theorem s_mt (T:String)(f:OM)(a:WE)(r:WA):QQ T f a r ρ mh Q=(a ρ mh λx b=>OG b T x/\r ρ b λds c=>f x ds c Q):=rfl
@[simp] theorem s_lc (own:List Str)(aE:List Nat)(i:WI)(g:WG)(t:WT)(a:WE):oV own aE i g t a ρ mh Q=(i ρ mh λds St b=>kR g t a (cX own aE ρ) St Q ds [] b):=rfl
variable {R:Bool->MH->Prop}
@[simp] theorem aBu (a:WE):cJ a ρ mh R↔a ρ mh λx b=>got (asB x) λk=>R k b:=by unfold cJ;simp only[exB]
@[simp] theorem s_tru (a:WE):oH a ρ mh R↔a ρ mh λx b=>got (i6 b x) λk=>R k b:=by
 unfold oH
 have:(λx b=>∃k,i6 b x=some k/\R k b)=λx b=>got (i6 b x) λk=>R k b:=by
  funext x m;exact propext (fO _ _)
 rw[this]
@[simp] theorem aGr (t u:WT):oX t u ρ mh R=(t ρ mh λc a=>if c=true then u ρ a R else R false a):=rfl
@[simp] theorem s_orT (t u:WT):zI t u ρ mh R=(t ρ mh λc a=>if c=true then R true a else u ρ a R):=rfl
@[simp] theorem aGd (t:WT):mX t ρ mh R=(t ρ mh λc a=>R (!c) a):=rfl
@[simp] theorem L0:fS ρ mh R=(R true mh):=rfl
variable {E:i5}
@[simp] theorem aGf:cO E ρ mh=(E.nx ρ mh):=rfl
@[simp] theorem s_seq (t u:WS):aT t u E ρ mh=(t {E with nx:=u E} ρ mh):=rfl
@[simp] theorem aGn (a:WE):mY a E ρ mh=(a ρ mh λ_ b=>E.nx ρ b):=rfl
@[simp] theorem s_ret (a:WE):cZ a E ρ mh=(a ρ mh E.rt):=rfl
@[simp] theorem aC0 (t:WT)(a b:WS):eX t a b E ρ mh=(t ρ mh λc d=>if c=true then a E ρ d else b E ρ d):=rfl
@[simp] theorem aC3 (a:WE)(g:WG):bI a g E ρ mh=(a ρ mh λd b=>g d ρ λc =>E.nx c b):=rfl
@[simp] theorem aG7 (a o i:WE):B5 a o i E ρ mh=(a ρ mh λd b=>o ρ b λob c=>i ρ c λg e=>RH ob g d e λf=>E.nx ρ f):=rfl
@[simp] theorem s_for (i:WI)(g:WG)(b:WS):jT i g b E ρ mh=(i ρ mh λds St a=>nF g b E St ds ρ a):=rfl
@[simp] theorem aGl (i:Nat)(d:D)(P:dY->Prop):gN i d ρ P=(P (ρ.set i (some d))):=rfl
@[simp] theorem aF2 (P:dY->Prop):kN [] ρ P↔P ρ:=by simp[kN]
@[simp] theorem aC1 (t:WG)(u:VQ)(d:D)(r:List D)(P:dY->Prop):cA t u (d::r) ρ P↔t d ρ λc =>u r c P:=⟨λf=>by obtain⟨a,b,e,h⟩:=f;cases e;exact h,λh=>⟨d,r,rfl,h⟩⟩
@[simp] theorem s_gT (n:Nat)(u:VQ)(ds:List D)(P:dY->Prop):gT n u (.tup ds) ρ P↔ds.length=n/\u ds ρ P:=by
 unfold gT;exact⟨λa=>by obtain⟨es,e,h⟩:=a;cases e;exact h,λh=>⟨ds,rfl,h⟩⟩
@[simp] theorem aG8 (a:WE)(P:List D->(MH->Prop)->MH->Prop):cY a ρ mh P↔a ρ mh λx b=>got (aX b x) λds=>P ds (λmh' =>aX mh' x=some ds) b:=by
 unfold cY
 have:(λx b=>∃ds,aX b x=some ds/\P ds (λmh' =>aX mh' x=some ds) b)=λx b=>got (aX b x) λds=>P ds (λmh' =>aX mh' x=some ds) b:=by
  funext x m;exact propext (fO _ _)
 rw[this]
@[simp] theorem aGa (a:WA)(P:List D->(MH->Prop)->MH->Prop):kB a ρ mh P=(a ρ mh λds b=>∃j,ds=[.int j]/\ -(2^62)<=j/\j<=sizeLine/\P (lM 0 j.toNat) (λ_=>True) b):=rfl
@[simp] theorem aG9 (a:WA)(P:List D->(MH->Prop)->MH->Prop):GV a ρ mh P=(a ρ mh λds b=>∃i j,ds=[.int i,.int j]/\ -(2^62)<=i/\i<2^62/\ -(2^62)<=j/\j<2^62/\j-i<=sizeLine/\P (lM i (j-i).toNat) (λ_=>True) b):=rfl
@[simp] theorem aG5 (a:WA)(P:List D->(MH->Prop)->MH->Prop):p7 a ρ mh P↔a ρ mh λxs b=>match xs with
  | [x,y]=>got (aX b x) λds=>got (aX b y) λes=>ds.length<=sizeLine/\P (jQ ds es) (λmh' =>aX mh' x=some ds/\aX mh' y=some es) b
  | _=>False:=by
 unfold p7
 have:(λxs b=>∃x y ds es,xs=[x,y]/\aX b x=some ds/\aX b y=some es/\ds.length<=sizeLine/\P (jQ ds es) (λmh' =>aX mh' x=some ds/\aX mh' y=some es) b)=λxs b=>match xs with
  | [x,y]=>got (aX b x) λds=>got (aX b y) λes=>ds.length<=sizeLine/\P (jQ ds es) (λmh' =>aX mh' x=some ds/\aX mh' y=some es) b
  | _=>False:=by
  funext xs m;apply propext
  match xs with
  | []=>simp
  | [_]=>simp
  | [x,y]=>
   simp only[<-fO];constructor
   ·rintro⟨f,g,ds,es,e,c,d,h⟩;cases e;exact⟨ds,c,es,d,h⟩
   ·rintro⟨ds,c,es,d,h⟩;exact⟨x,y,ds,es,rfl,c,d,h⟩
  | _::_::_::_=>simp
 rw[this]
@[simp high] theorem aFe (b:Int)(P:Int->Prop):(∃c,[D.int b]=[D.int c]/\P c)↔P b:=⟨λa=>by obtain⟨c,e,h⟩:=a;cases e;exact h,λh=>⟨b,rfl,h⟩⟩
@[simp high] theorem aFd (a b:Int)(P:Int->Int->Prop):(∃c d,[D.int a,D.int b]=[D.int c,D.int d]/\P c d)↔P a b:=⟨λf=>by obtain⟨c,d,e,h⟩:=f;cases e;exact h,λh=>⟨a,b,rfl,h⟩⟩
@[simp] theorem L7 (C:Int->Int->Prop)(g:Int->Int->D)(i j:Int):CT C g (.int i) (.int j) mh Q↔C i j/\Q (g i j) mh:=by
 unfold CT;exact⟨λc=>by obtain⟨a,b,e,f,h⟩:=c;cases e;cases f;exact h,λh=>⟨i,j,rfl,rfl,h⟩⟩
@[simp] theorem s_neg (i:Int):JH (.int i) mh Q↔Q (.int (-i)) mh:=by
 unfold JH;exact⟨λb=>by obtain⟨a,e,h⟩:=b;cases e;exact h,λh=>⟨i,rfl,h⟩⟩
@[simp] theorem EZ (i j:Int):iP (.int i) (.int j) mh Q=(Q (.int (i+j)) mh):=rfl
@[simp] theorem aGt (i j:Str):iP (.str i) (.str j) mh Q=(i.length+j.length<=sizeLine/\Q (.str (i++j)) mh):=rfl
@[simp] theorem aGs (i j:List D):iP (.tup i) (.tup j) mh Q=(i.length+j.length<=sizeLine/\Q (.tup (i++j)) mh):=rfl
theorem MD{n m:Nat}{i j:List D}(d:mh[n]? =some (.lst i))(g:mh[m]? =some (.lst j)):iP (.ref n) (.ref m) mh Q↔(i++j).length<=sizeLine/\Q (.ref mh.length) (mh++[.lst (i++j)]):=by
 show (∃i j,mh[n]? =some (.lst i)/\mh[m]? =some (.lst j)/\FF (i++j) mh Q)↔_;rw[d,g];exact⟨λc=>by obtain⟨a,b,e,f,h⟩:=c;cases e;cases f;exact h,λh=>⟨i,j,rfl,rfl,h⟩⟩
@[simp] theorem CH (ds:List D)(i:Int):gV (.tup ds) (.int i) mh Q↔got (pP ds i) λd=>Q d mh:=by
 unfold gV;rw[<-fO];exact⟨λb=>by obtain⟨a,e,es,d,f,g,h⟩:=b;cases e;cases f;exact⟨d,g,h⟩,λc=>by obtain⟨d,f,h⟩:=c;exact⟨i,rfl,ds,d,rfl,f,h⟩⟩
@[simp] theorem aBz (ds:List D)(i:Int):gV (.fl ds) (.int i) mh Q↔got (pP ds i) λd=>Q d mh:=by
 unfold gV;rw[<-fO];exact⟨λb=>by obtain⟨a,e,es,d,f,g,h⟩:=b;cases e;cases f;exact⟨d,g,h⟩,λc=>by obtain⟨d,f,h⟩:=c;exact⟨i,rfl,ds,d,rfl,f,h⟩⟩
variable{n:Nat}
theorem iO(h:mh[n]? =some (.lst ds))(i:Int):gV (.ref n) (.int i) mh Q↔got (pP ds i) λd=>Q d mh:=by
 unfold gV;rw[<-fO];have e:aX mh (.ref n)=some ds:=by simp[aX,h]
 exact⟨λb=>by obtain⟨a,j,es,d,f,k,g⟩:=b;cases j;rw[e]at f;cases f;exact⟨d,k,g⟩,λc=>by obtain⟨d,f,g⟩:=c;exact⟨i,rfl,ds,d,e,f,g⟩⟩
@[simp] theorem MA (i j:Int):oLt (.int i) (.int j) mh Q=(Q (.bl (decide (i<j))) mh):=rfl
@[simp] theorem V6 (i j:Int):oLe (.int i) (.int j) mh Q=(Q (.bl (decide (i<=j))) mh):=rfl
@[simp] theorem V7 (i j:Int):TF (.int i) (.int j) mh Q=(Q (.bl (decide (j<i))) mh):=rfl
@[simp] theorem aC2 (i j:Int):oGe (.int i) (.int j) mh Q=(Q (.bl (decide (j<=i))) mh):=rfl
@[simp] theorem MC (i j:Int):oEq (.int i) (.int j) mh Q↔Q (.bl (i==j)) mh:=by simp[oEq,cL,bare,deep,hU]
@[simp] theorem L8 (i j:Int):JI (.int i) (.int j) mh Q↔Q (.bl (!(i==j))) mh:=by simp[JI,cL,bare,deep,hU]
@[simp] theorem s_eqB (i j:Bool):oEq (.bl i) (.bl j) mh Q↔Q (.bl (i==j)) mh:=by simp[oEq,cL,bare,deep,hU]
@[simp] theorem s_neB (i j:Bool):JI (.bl i) (.bl j) mh Q↔Q (.bl (!(i==j))) mh:=by simp[JI,cL,bare,deep,hU]
@[simp] theorem s_eqS (i j:Str):oEq (.str i) (.str j) mh Q↔Q (.bl (i==j)) mh:=by simp[oEq,cL,bare,deep,hU]
@[simp] theorem s_eqT (i j:List D):oEq (.tup i) (.tup j) mh Q↔fR i=true/\fR j=true/\tB i+1<=40/\Q (.bl (iU i j)) mh:=by simp[oEq,cL,bare,deep,hU]
@[simp] theorem aGe (x:D):nB x .bT mh Q↔Q (.bl !iS x) mh:=by simp[nB]
@[simp] theorem aGk (x:D)(T:String):wZ [x,.ty T] mh Q↔got (QS mh x) λt=>T∈bO/\Q (.bl (rH t T)) mh:=by
 unfold wZ;rw[<-fO];constructor
 ·rintro⟨f,c,t,e,a,⟨g,b,d,h⟩ | ⟨i,b,_⟩⟩
  ·cases e;cases b;exact⟨t,a,d,h⟩
  ·cases e;cases b
 ·rintro⟨t,a,d,h⟩;exact⟨x,_,t,rfl,a,.inl ⟨T,rfl,d,h⟩⟩
@[simp] theorem aGj (x:D)(T U:String):wZ [x,.tup [.ty T,.ty U]] mh Q↔got (QS mh x) λt=>T∈bO/\U∈bO/\Q (.bl (rH t T || rH t U)) mh:=by
 unfold wZ;rw[<-fO];constructor
 ·rintro⟨k,c,t,e,d,⟨g,f,a,h⟩ | ⟨i,f,a,h⟩⟩
  ·cases e;cases f
  ·cases e;injection f with b
   match i,b with
   | [g,l],b=>
    simp at b;obtain⟨rfl,rfl⟩:=b;exact⟨t,d,a _ (by simp),a _ (by simp),by simpa using h⟩
 ·rintro⟨t,d,a,j,h⟩;exact⟨x,_,t,rfl,d,.inr ⟨[T,U],rfl,by simp[a,j],by simpa using h⟩⟩
@[simp] theorem MB (ds:List D):gC [.tup ds] mh Q↔Q (.int ds.length) mh:=by
 unfold gC;exact⟨λb=>by obtain⟨a,e,h⟩:=b;cases e;obtain⟨es,c,h⟩:=h;cases c;exact h,λh=>⟨_,rfl,ds,rfl,h⟩⟩
@[simp] theorem aGi (ds:List D):gC [.fl ds] mh Q↔Q (.int ds.length) mh:=by
 unfold gC;exact⟨λb=>by obtain⟨a,e,h⟩:=b;cases e;obtain⟨es,c,h⟩:=h;cases c;exact h,λh=>⟨_,rfl,ds,rfl,h⟩⟩
theorem rN(h:mh[n]? =some (.lst ds)):gC [.ref n] mh Q↔Q (.int ds.length) mh:=by
 unfold gC;have e:aX mh (.ref n)=some ds:=by simp[aX,h]
 exact⟨λb=>by obtain⟨a,f,c⟩:=b;cases f;obtain⟨es,d,c⟩:=c;rw[e]at d;cases d;exact c,λc=>⟨_,rfl,ds,e,c⟩⟩
@[simp] theorem aGh (z:Str):gC [.str z] mh Q↔z.length<=sizeLine/\Q (.int z.length) mh:=by
 unfold gC;exact⟨λb=>by obtain⟨a,e,h⟩:=b;cases e;exact h,λh=>⟨_,rfl,h⟩⟩
@[simp] theorem s_abs (i:Int):QI [.int i] mh Q↔Q (.int (if i<0 then -i else i)) mh:=by
 unfold QI;exact⟨λb=>by obtain⟨a,e,h⟩:=b;cases e;exact h,λh=>⟨i,rfl,h⟩⟩
@[simp] theorem L9 (i j:Int):zF [.int i,.int j] mh Q↔Q (.int (if j > i then j else i)) mh:=by
 unfold zF;exact⟨λc=>by obtain⟨a,b,e,h⟩:=c;cases e;exact h,λh=>⟨i,j,rfl,h⟩⟩
@[simp] theorem aGg (i j:Int):zE [.int i,.int j] mh Q↔Q (.int (if j<i then j else i)) mh:=by
 unfold zE;exact⟨λc=>by obtain⟨a,b,e,h⟩:=c;cases e;exact h,λh=>⟨i,j,rfl,h⟩⟩
@[simp] theorem aBt (x:D):nR [x] mh Q↔got (aX mh x) λds=>Q (.tup ds) mh:=by
 unfold nR;rw[<-fO];exact⟨λb=>by obtain⟨a,ds,e,d,h⟩:=b;cases e;exact⟨ds,d,h⟩,λc=>by obtain⟨ds,d,h⟩:=c;exact⟨x,ds,rfl,d,h⟩⟩
@[simp] theorem s_slT (ds:List D)(lo hi:Option Int):oSl (.tup ds) lo hi mh Q=(Q (.tup (cutD ds lo hi)) mh):=rfl
theorem aBv(h:mh[n]? =some (.lst ds))(lo hi:Option Int):oSl (.ref n) lo hi mh Q↔Q (.ref mh.length) (mh++[.lst (cutD ds lo hi)]):=by
 show (∃ds,i7 mh (.ref n)=some ds/\Q (.ref mh.length) (mh++[.lst (cutD ds lo hi)]))↔_;have e:i7 mh (.ref n)=some ds:=by simp[i7,h]
 exact⟨λa=>by obtain⟨es,c,b⟩:=a;rw[e]at c;cases c;exact b,λb=>⟨ds,e,b⟩⟩
theorem EX{P:MH->Prop}(h:mh[n]? =some (.lst ds))(i:Int)(d:D):RH (.ref n) (.int i) d mh P↔got (FP ds.length i) λj=>P (mh.set n (.lst (ds.set j d))):=by
 unfold RH;rw[<-fO];exact⟨λa=>by obtain⟨m,es,k,j,f,g,c,l,e⟩:=a;cases f;cases g;rw[h]at c;cases c;exact⟨j,l,e⟩,λb=>by obtain⟨j,c,e⟩:=b;exact⟨n,ds,i,j,rfl,rfl,h,c,e⟩⟩
theorem pD{es:List D}(h:mh[n]? =some (.lst es))(d:D):d8 (.ref n) [d] mh Q↔es.length<sizeLine/\Q .bT (mh.set n (.lst (es++[d]))):=by
 unfold d8;exact⟨λa=>by obtain⟨m,fs,d',e,f,c,b⟩:=a;cases e;cases f;rw[h]at c;cases c;exact b,λb=>⟨n,es,d,rfl,rfl,h,b⟩⟩
theorem zT{bs:List Bool}(h:mh[n]? =some (.lst (bs.map .bl))):ED [.ref n] mh Q↔Q (.bl (bs.all id)) mh:=by
 unfold ED;have e:i7 mh (.ref n)=some (bs.map .bl):=by simp[i7,h]
 constructor
 ·rintro⟨x,c,i,g,d⟩;cases i;rw[e]at g;have j:bs.map D.bl=c.map D.bl:=aIn g;have k:bs=c :=(aLp (f:=D.bl) (λa b e=>by injection e)).mp j;subst k;exact d
 ·intro d;exact⟨_,bs,rfl,e,d⟩
@[simp] theorem aEh (d:D)(ds:List D):pP (d::ds) 0=some d:=by
 have:=uK (xs:=d::ds) (j:=0) (v:=d) rfl;simpa using this
theorem bH(mh:MH)(o:MO):(mh++[o])[mh.length]? =some o:=by simp
end
variable{n:Nat}{d:D}
theorem aQ(h:R d mh):Out n d mh R:= .inl h
def lx:List Int->List Int->Bool
 | [],[]=>false
 | [],_::_=>true
 | _::_,[]=>false
 | a::as,b::bs=>if a<b then true else if b<a then false else lx as bs
theorem AL:∀x y:List Int,lx x y=true->lx y x=false
 | [],[],h=>by simp[lx]at h
 | [],_::_,h=>by simp[lx]
 | _::_,[],h=>by simp[lx]at h
 | a::as,b::bs,h=>by
  simp only[lx]at h⊢;by_cases c:a<b
  ·rw[if_neg (by lia),if_pos c]
  ·rw[if_neg c]at h;by_cases d:b<a
   ·rw[if_pos d]at h;cases h
   ·rw[if_neg d]at h⊢;rw[if_neg c];exact AL as bs h
theorem WJ:∀x y z:List Int,lx y x=false->lx z y=false->lx z x=false
 | [],y,z,h1,h2=>by
  cases z with
  | nil=>rfl
  | cons _ _=>rfl
 | a::as,[],z,h1,h2=>by simp[lx]at h1
 | a::as,b::bs,[],h1,h2=>by simp[lx]at h2
 | a::as,b::bs,c::cs,h1,h2=>by
  simp only[lx]at h1 h2⊢;by_cases d:b<a
  ·rw[if_pos d]at h1;cases h1
  ·rw[if_neg d]at h1;by_cases e:c<b
   ·rw[if_pos e]at h2;cases h2
   ·rw[if_neg e]at h2;rw[if_neg (by lia)];by_cases f:a<c
    ·rw[if_pos f]
    ·rw[if_neg f];rw[if_neg (by lia)]at h1 h2;exact WJ as bs cs h1 h2
def fQ:D->List Int
 | .int i=>[i]
 | .str z=>z.cps.toList.map (λ(c:Nat)=>(c:Int))++[-1]
 | _=>[]
def enc:D->List Int
 | .tup ds=>ds.flatMap fQ
 | d=>fQ d
theorem FI:∀a b:List Nat,lx (a.map (λ(c:Nat)=>(c:Int))++[-1]) (b.map (λ(c:Nat)=>(c:Int))++[-1])=decide (a<b)
 | [],[]=>by simp[lx]
 | [],b::bs=>by
  have:(-1:Int)<(b:Int):=by lia
  simp[lx,this]
 | a::as,[]=>by
  have d:¬((a:Int) < -1):=by lia
  have f:(-1:Int)<(a:Int):=by lia
  simp[lx,d,f]
 | a::as,b::bs=>by
  have g:=FI as bs;simp only[List.map_cons,List.cons_append,lx,g];by_cases d:a<b
  ·rw[if_pos (by lia)];exact(decide_eq_true (List.cons_lt_cons_iff.mpr (.inl d))).symm
  ·rw[if_neg (by lia)];by_cases f:b<a
   ·rw[if_pos (by lia)];exact(aJv (λq=>by rcases List.cons_lt_cons_iff.mp q with q | q <;> lia)).symm
   ·rw[if_neg (by lia)];have e:a=b:=by lia
    subst e;rw[Bool.eq_iff_iff,decide_eq_true_iff,decide_eq_true_iff,List.cons_lt_cons_iff];simp
inductive Sc where | i | s
def eS:Sc->D->Bool
 | .i,.int _=>true
 | .s,.str _=>true
 | _,_=>false
def c9:List Sc->List D->Bool
 | [],[]=>true
 | c::cs,d::ds=>eS c d && c9 cs ds
 | _,_=>false
theorem TR(x:List Int):∀r b :List Int,lx (x++r) (x++b)=lx r b :=by
 induction x with
 | nil=>intro r b;rfl
 | cons a as ih=>intro r b;simp[lx,ih]
theorem map_inj:∀a b:List Nat,a.map (λ(c:Nat)=>(c:Int))++[-1]=b.map (λ(c:Nat)=>(c:Int))++[-1]->a=b
 | [],[],_=>rfl
 | [],b::bs,h=>by simp at h
 | a::as,[],h=>by simp at h
 | a::as,b::bs,h=>by
  simp only[List.map_cons,List.cons_append,List.cons.injEq]at h;have d:a=b:=by lia
  rw[d,map_inj as bs h.2]
theorem G2{a b:Str}(h:a.cps.toList=b.cps.toList):a=b:=by
 cases a;cases b;simp at h;simp[h]
theorem HY{c:Sc}{d e:D}(a:eS c d=true)(b:eS c e=true)(h:fQ d=fQ e):d=e:=by
 cases c <;> cases d <;> simp[eS]at a <;> cases e <;> simp[eS]at b
 ·simp[fQ]at h;rw[h]
 ·simp only[fQ]at h;rw[G2 (map_inj _ _ h)]
theorem sV:∀(a b:List Nat) (r d :List Int),a≠b->lx ((a.map (λ(c:Nat)=>(c:Int))++[-1])++r) ((b.map (λ(c:Nat)=>(c:Int))++[-1])++d)=lx (a.map (λ(c:Nat)=>(c:Int))++[-1]) (b.map (λ(c:Nat)=>(c:Int))++[-1])
 | [],[],_,_,h=>absurd rfl h
 | [],b::bs,r,d,_=>by
  have:(-1:Int)<(b:Int):=by lia
  simp[lx,this]
 | a::as,[],r,d,_=>by
  have f:¬((a:Int) < -1):=by lia
  have g:(-1:Int)<(a:Int):=by lia
  simp[lx,f,g]
 | a::as,b::bs,r,d,h=>by
  simp only[List.map_cons,List.cons_append,lx];by_cases f:(a:Int)<b
  ·simp[f]
  ·by_cases g:(b:Int)<a
   ·simp[f,g]
   ·have e:a=b:=by lia
    subst e;simp only[f,g,if_false];exact sV as bs r d λq=>h (by rw[q])
theorem AK{c:Sc}{d e:D}(f:eS c d=true)(k:eS c e=true)(h:d≠e)(r g :List Int):lx (fQ d++r) (fQ e++g)=lx (fQ d) (fQ e):=by
 cases c <;> cases d <;> simp[eS]at f <;> cases e <;> simp[eS]at k
 ·rename_i i j;have:i≠j:=λq=>h (by rw[q]);simp only[fQ,List.cons_append,List.nil_append,lx];by_cases f:i<j
  ·simp[f]
  ·have:j<i:=by lia
   simp[f,this]
 ·rename_i a b;simp only[fQ];exact sV _ _ r g λq=>h (by rw[G2 q])
theorem PJ{c:Sc}{d e:D}(a:eS c d=true)(b:eS c e=true):hU d e=true↔d=e:=by
 cases c <;> cases d <;> simp[eS]at a <;> cases e <;> simp[eS]at b
 ·simp[hU]
 ·simp[hU]
mutual
theorem K4{h:Heap}:∀{d e:D} {u:Value},Vl h d u->Vl h e u->d=e
 | .bT,e,u,p,q=>by
  unfold Vl at p;subst p
  cases e <;> unfold Vl at q <;> first | rfl | (cases q;done) | (obtain⟨_,q⟩:=q;cases q;done) | (obtain⟨_,_,q,_⟩:=q;cases q;done)
 | .bl a,e,u,p,q=>by
  unfold Vl at p;subst p
  cases e <;> unfold Vl at q <;> first | (cases q;rfl) | (cases q;done) | (obtain⟨_,q⟩:=q;cases q;done) | (obtain⟨_,_,q,_⟩:=q;cases q;done)
 | .int a,e,u,p,q=>by
  unfold Vl at p;obtain⟨t,rfl⟩:=p
  cases e <;> unfold Vl at q <;> first | (cases q;done) | (obtain⟨_,q⟩:=q;cases q;rfl) | (obtain⟨_,q⟩:=q;cases q;done) | (obtain⟨_,_,q,_⟩:=q;cases q;done)
 | .str a,e,u,p,q=>by
  unfold Vl at p;obtain⟨t,rfl⟩:=p
  cases e <;> unfold Vl at q <;> first | (cases q;done) | (obtain⟨_,q⟩:=q;cases q;rfl) | (obtain⟨_,q⟩:=q;cases q;done) | (obtain⟨_,_,q,_⟩:=q;cases q;done)
 | .ty _,e,u,p,q=>by unfold Vl at p;exact p.elim
 | .ref _,e,u,p,q=>by unfold Vl at p;exact p.elim
 | .tup as,e,u,p,q=>by
  unfold Vl at p;obtain⟨a,us,rfl,ht,l⟩:=p
  cases e with
  | tup bs=>
   unfold Vl at q;obtain⟨b,f,e,c,l2⟩:=q;cases e;obtain⟨o,j,_,n,k⟩:=ht;obtain⟨s,g,_,n2,i⟩:=c;rw[j]at g;cases g;rw[k]at i;injection i with m;have r:us=f:=by simpa using aJ7 Array.toList m
   subst r;rw[zL l l2]
  | fl bs=>
   unfold Vl at q;obtain⟨b,f,e,c,l2⟩:=q;cases e;exact(uD c ht).elim
  | _=>unfold Vl at q;first | (cases q;done) | (obtain⟨_,q⟩:=q;cases q;done)
 | .fl as,e,u,p,q=>by
  unfold Vl at p;obtain⟨a,us,rfl,ht,l⟩:=p
  cases e with
  | fl bs=>
   unfold Vl at q;obtain⟨b,f,e,c,l2⟩:=q;cases e;obtain⟨o,j,_,n,k⟩:=ht;obtain⟨s,g,_,n2,i⟩:=c;rw[j]at g;cases g;rw[k]at i;injection i with m;have r:us=f:=by simpa using aJ7 Array.toList m
   subst r;rw[zL l l2]
  | tup bs=>
   unfold Vl at q;obtain⟨b,f,e,c,l2⟩:=q;cases e;exact(uD ht c).elim
  | _=>unfold Vl at q;first | (cases q;done) | (obtain⟨_,q⟩:=q;cases q;done)
theorem zL{h:Heap}:∀{ds es:List D} {us:List Value},eA h ds us->eA h es us->ds=es
 | [],es,us,p,q=>by unfold eA at p;subst p;cases es with | nil=>rfl | cons=>unfold eA at q;obtain⟨_,_,e,_⟩:=q;cases e
 | d::ds,es,us,p,q=>by
  unfold eA at p;obtain⟨u,r,rfl,i,l⟩:=p
  cases es with
  | nil=>unfold eA at q;cases q
  | cons e es=>
   unfold eA at q;obtain⟨b,r2,a,i2,l2⟩:=q;cases a;rw[K4 i i2,zL l l2]
end
mutual
theorem Vl.keep{h h' :Heap}(k:∀b o,h.get? b=some o->h'.get? b=some o):∀(d:D) (u:Value),Vl h d u->Vl h' d u
 | .bT,u,q=>by unfold Vl at*;exact q
 | .bl _,u,q=>by unfold Vl at*;exact q
 | .int _,u,q=>by unfold Vl at*;exact q
 | .str _,u,q=>by unfold Vl at*;exact q
 | .ty _,u,q=>by unfold Vl at*;exact q
 | .ref _,u,q=>by unfold Vl at*;exact q
 | .tup ds,u,q=>by
  unfold Vl at*;obtain⟨a,us,e,⟨o,c,f⟩,l⟩:=q;exact⟨a,us,e,⟨o,k _ _ c,f⟩,eA.keep k ds us l⟩
 | .fl ds,u,q=>by
  unfold Vl at*;obtain⟨a,us,e,⟨o,c,f⟩,l⟩:=q;exact⟨a,us,e,⟨o,k _ _ c,f⟩,eA.keep k ds us l⟩
theorem eA.keep{h h' :Heap}(k:∀b o,h.get? b=some o->h'.get? b=some o):∀(ds:List D) (us:List Value),eA h ds us->eA h' ds us
 | [],us,q=>by unfold eA at*;exact q
 | d::ds,us,q=>by
  unfold eA at*;obtain⟨u,r,e,i,l⟩:=q;exact⟨u,r,e,Vl.keep k d u i,eA.keep k ds r l⟩
end
def GI(ds:List D):Prop:=(∃c,∀d∈ds,eS c d=true)\/∃c a,∀d∈ds,∃es,d= .tup es/\c9 (c::a) es=true
open Classical in
noncomputable def dv(h:Heap)(u:Value):D:=if q:∃d,Vl h d u then q.choose else .bT
theorem jO{u:Value}(p:Vl h d u):dv h u=d:=by
 unfold dv;rw[dif_pos ⟨d,p⟩];exact K4 (Exists.choose_spec (⟨d,p⟩:∃d,Vl h d u)) p
noncomputable def ltV(h:Heap)(x y:Keyed):Bool:=lx (enc (dv h x.1)) (enc (dv h y.1))
theorem AN(h:Heap):TS.Wk (ltV h):=⟨λx y=>AL _ _,λx y z=>WJ _ _ _⟩
theorem lI{h:Heap}:∀{ds:List D} {us:List Value},eA h ds us->∀u∈us,∃d∈ds,Vl h d u
 | [],us,q,u,hu=>by unfold eA at q;subst q;cases hu
 | d::ds,us,q,u,hu=>by
  unfold eA at q;obtain⟨w,r,rfl,i,l⟩:=q;rcases aI5.mp hu with rfl | hu
  ·exact⟨d,aHx,i⟩
  ·obtain⟨e,he,p⟩:=lI l u hu;exact⟨e,aI0 _ he,p⟩
open PySem.W in
theorem yO{prog:Program}{w:World}{A:Around}{Q:Bool->Shared->Prop}{s:Shared}(n:A.units+32<cLine):∀(k:List Sc) (as bs:List D) (us vs:List Value) (i:Nat) (b:Bool),(b=true->i=0->True)->c9 k as=true->c9 k bs=true->eA s.heap as us->eA s.heap bs vs->
  Q (lx (as.flatMap fQ) (bs.flatMap fQ)) s->KatLex prog w A b false Q (us.zip vs) i s
 | [],[],[],us,vs,i,b,_,_,_,l1,l2,q=>by unfold eA at l1 l2;subst l1 l2;exact kat_nil q
 | [],[],_::_,_,_,_,_,_,_,h2,_,_,_=>by simp[c9]at h2
 | [],_::_,_,_,_,_,_,_,h1,_,_,_,_=>by simp[c9]at h1
 | _::_,[],_,_,_,_,_,_,h1,_,_,_,_=>by simp[c9]at h1
 | _::_,_::_,[],_,_,_,_,_,_,h2,_,_,_=>by simp[c9]at h2
 | c::k,a::as,d::bs,us,vs,i,b,hb,h1,h2,l1,l2,q=>by
  unfold eA at l1 l2;obtain⟨u,o,rfl,f,l1⟩:=l1;obtain⟨v,p,rfl,g,l2⟩:=l2;simp only[c9,Bool.and_eq_true]at h1 h2;rw[List.zip_cons_cons];have r:deep a<=0:=by cases c <;> cases a <;> simp[eS]at h1 <;> simp[deep]
  refine kat_cons (lT (s:=s) 0 r (by lia) f g prog w _ _ ?_);simp only[List.flatMap_cons]at q;refine kat_go (λe=>kat_yes ?_) (λe=>kat_no ?_)
  ·have l:a=d:=(PJ h1.1 h2.1).mp e;subst l;rw[TR]at q;exact yO n k as bs o p (i+1) b (λ_ _=>trivial) h1.2 h2.2 l1 l2 q
  ·have m:a≠d:=λz=>by rw[(PJ h1.1 h2.1).mpr z]at e;cases e
   rw[AK h1.1 h2.1 m]at q
   cases c with
   | i=>
    cases a <;> simp[eS]at h1;cases d <;> simp[eS]at h2;rename_i x y;unfold Vl at f g;obtain⟨t,rfl⟩:=f;obtain⟨B,rfl⟩:=g
    have h :Q (decide (x<y)) s:=by
     have:lx (fQ (.int x)) (fQ (.int y))=decide (x<y):=by
      simp only[fQ,lx];by_cases j:x<y
      ·simp[j]
      ·simp[j]
     rw[<-this];exact q
    cases hbi:(b && i==0) with
    | true=>exact oneLt_int h
    | false=>exact kat_one _ _ (lt_int h)
   | s=>
    cases a <;> simp[eS]at h1;cases d <;> simp[eS]at h2;rename_i x y;unfold Vl at f g;obtain⟨t,rfl⟩:=f;obtain⟨B,rfl⟩:=g
    have h :Q (decide (x.cps.toList<y.cps.toList)) s:=by
     have:lx (fQ (.str x)) (fQ (.str y))=decide (x.cps.toList<y.cps.toList):=FI _ _;rw[<-this];exact q
    cases hbi:(b && i==0) with
    | true=>exact oneLt_str h
    | false=>exact kat_one _ _ (lt_str h)
def scT:Sc->String | .i=>"int" | .s=>"str"
section
variable {prog:Program}{w:World}{A:Around}
theorem rY:∀{a:List Sc} {ds:List D},c9 a ds=true->ds.length=a.length
 | [],[],_=>rfl
 | [],_::_,h=>by simp[c9]at h
 | _::_,[],h=>by simp[c9]at h
 | c::a,d::ds,h=>by simp only[c9,Bool.and_eq_true]at h;simp[rY h.2]
theorem nY{vs:List Value}{x:Keyed}(h:x∈(pairsOf vs).toList):x=(x.1,x.1)/\x.1∈vs:=by
 rw[pairsOf_toList]at h
 induction vs with
 | nil=>simp at h
 | cons v r ih=>
  rw[List.zip_cons_cons]at h;rcases aI5.mp h with e | e
  ·rw[e];exact⟨rfl,aHx⟩
  ·obtain⟨a,b⟩:=ih e;exact⟨a,aI0 _ b⟩
theorem qI{s:Shared}{vs:List Value}(hu:A.units+40<cLine)(U:GI ds)(l:eA s.heap ds vs)(P:2<=vs.length):
  ∃κ,∀h' :Heap,(∀b o,s.heap.get? b=some o->h'.get? b=some o)->TS.GQ prog w A {s with heap:=h'} κ (ltV s.heap) (pairsOf vs)/\
   ∀z E,z κ {s with heap:=h'}->wpAny (model prog w) A (keyKind' vs.toArray) z E {s with heap:=h'}:=by
 rcases U with ⟨c,f⟩ | ⟨c,R,f⟩
 ·refine⟨oneType',λh' k=>⟨λx y F G Q q=>?_,λz E q=>?_⟩⟩
  ·obtain⟨_,H⟩:=nY F;obtain⟨_,I⟩:=nY G;obtain⟨d,dm,dp⟩:=lI l _ H;obtain⟨e,em,ep⟩:=lI l _ I
   have B :Q (lx (enc d) (enc e)) {s with heap:=h'}:=by
    have:ltV s.heap x y=lx (enc d) (enc e):=by unfold ltV;rw[jO dp,jO ep]
    rw[<-this];exact q
   have hd:=f d dm;have he:=f e em;obtain⟨x1,x2⟩:=x;obtain⟨S,y2⟩:=y
   cases c with
   | i=>
    cases d <;> simp[eS]at hd;cases e <;> simp[eS]at he;rename_i i j;unfold Vl at dp ep;obtain⟨g,rfl⟩:=dp;obtain⟨t2,rfl⟩:=ep;refine PySem.W.kat_lt_int ?_
    have:lx (enc (.int i)) (enc (.int j))=decide (i<j):=by
     simp only[enc,fQ,lx];by_cases h:i<j
     ·simp[h]
     ·simp[h]
    rw[<-this];exact B
   | s=>
    cases d <;> simp[eS]at hd;cases e <;> simp[eS]at he;rename_i i j;unfold Vl at dp ep;obtain⟨g,rfl⟩:=dp;obtain⟨t2,rfl⟩:=ep;refine PySem.W.kas_lt_str ?_;have:lx (enc (.str i)) (enc (.str j))=decide (i.cps.toList<j.cps.toList):=FI _ _;rw[<-this];exact B
  ·have ty:∀v∈vs,PySem.W.Looks (model prog w) h' (typeOf v) (.type (scT c)):=λv hv=>by
    obtain⟨d,dm,dp⟩:=lI l _ hv;have hd:=f d dm
    cases c with
    | i=>cases d <;> simp[eS]at hd;unfold Vl at dp;obtain⟨g,rfl⟩:=dp;exact aKc rfl
    | s=>cases d <;> simp[eS]at hd;unfold Vl at dp;obtain⟨g,rfl⟩:=dp;exact aKc rfl
   exact PySem.W.kas_kind (s:={s with heap:=h'}) P ty (by cases c <;> rfl) (by cases c <;> rfl) q
 ·refine⟨tuples' true,λh' k=>⟨λx y F G Q q=>?_,λz E q=>?_⟩⟩
  ·obtain⟨_,H⟩:=nY F;obtain⟨_,I⟩:=nY G;obtain⟨d,dm,dp⟩:=lI l _ H;obtain⟨e,em,ep⟩:=lI l _ I
   have B :Q (lx (enc d) (enc e)) {s with heap:=h'}:=by
    have:ltV s.heap x y=lx (enc d) (enc e):=by unfold ltV;rw[jO dp,jO ep]
    rw[<-this];exact q
   obtain⟨as,rfl,T⟩:=f d dm;obtain⟨bs,rfl,V⟩:=f e em;obtain⟨x1,x2⟩:=x;obtain⟨S,y2⟩:=y;unfold Vl at dp ep;obtain⟨a,us,ea,⟨o,ho,m,n,hd⟩,t⟩:=dp;obtain⟨b,J,eb,⟨o2,K,X,n2,L⟩,Y⟩:=ep;have M :x1=Value.ref a:=ea;have N :S=Value.ref b:=eb;subst M N;refine PySem.W.kat_lt (s:={s with heap:=h'}) (k _ _ ho) hd (k _ _ K) L ?_;have z1:=bL t;have z2:=bL Y;have z3:=rY T;have z4:=rY V;have zz:decide (us.toArray.size<J.toArray.size)=false:=aJv (by simp only[List.size_toArray];lia);rw[zz];exact yO (s:={s with heap:=h'}) (by lia) (c::R) as bs us J 0 true (λ_ _=>trivial) T V (eA.keep k as us t) (eA.keep k bs J Y) B
  ·have fs:∃fs:List Value,PySem.W.KatTups h' vs fs/\fs.length=vs.length/\∀v∈fs,PySem.W.Looks (model prog w) h' (typeOf v) (.type (scT c)):=by
    clear q P
    have go:∀(ds:List D) (vs:List Value),(∀d∈ds,∃es,d= .tup es/\c9 (c::R) es=true)->eA s.heap ds vs->∃fs:List Value,PySem.W.KatTups h' vs fs/\fs.length=vs.length/\∀v∈fs,PySem.W.Looks (model prog w) h' (typeOf v) (.type (scT c)):=by
     intro ds
     induction ds with
     | nil=>intro vs _ l;unfold eA at l;subst l;exact⟨[],PySem.W.KatTups.nil,rfl,λv hv=>by cases hv⟩
     | cons d r ih=>
      intro vs f l;unfold eA at l;obtain⟨u,ur,rfl,p,l⟩:=l;obtain⟨fs,f1,Z,O⟩:=ih ur (λe he=>f e (aI0 _ he)) l;obtain⟨es,rfl,he⟩:=f d aHx;unfold Vl at p;obtain⟨a,us,rfl,⟨o,ho,m,n,hd⟩,t⟩:=p
      cases es with
      | nil=>simp[c9]at he
      | cons e0 er=>
       unfold eA at t;obtain⟨u0,u1,rfl,C,_⟩:=t;simp only[c9,Bool.and_eq_true]at he;refine⟨u0::fs,PySem.W.KatTups.cons (k _ _ ho) m hd (by simp) f1,by simp[Z],λv hv=>?_⟩;rcases aI5.mp hv with rfl | hv
       ·cases c with
        | i=>cases e0 <;> simp[eS]at he;unfold Vl at C;obtain⟨g,rfl⟩:=C;exact aKc rfl
        | s=>cases e0 <;> simp[eS]at he;unfold Vl at C;obtain⟨g,rfl⟩:=C;exact aKc rfl
       ·exact O v hv
    exact go ds vs f l
   obtain⟨fs,f1,Z,O⟩:=fs;refine PySem.W.kat_kind (s:={s with heap:=h'}) f1 (by lia) O (by cases c <;> rfl) ?_;have:(Value.type (scT c) !=Value.type "tuple")=true:=by cases c <;> rfl
   rw[this];exact q
end
theorem qM{α c:Type}(f:α->c):∀{l:List c} {m:List c},l.Perm m->∀t:List α,m=t.map f->∃t' :List α,t'.Perm t/\t'.map f=l:=by
 intro l m h
 induction h with
 | nil=>intro t e;cases t <;> simp at e;exact⟨[],.refl _,rfl⟩
 | cons x _ ih=>
  intro t e
  cases t with
  | nil=>simp at e
  | cons a r=>
   simp at e;obtain⟨t',p,q⟩:=ih r e.2;exact⟨a::t',p.cons a,by simp[q,e.1]⟩
 | swap x y l=>
  intro t e
  match t,e with
  | [],e=>simp at e
  | [_],e=>simp at e
  | a::b::r,e=>
   simp at e;exact⟨b::a::r,.swap _ _ _,by simp[e]⟩
 | trans _ _ ih1 ih2=>
  intro t e;obtain⟨d,g,q1⟩:=ih2 t e;obtain⟨i,j,q2⟩:=ih1 d q1.symm;exact⟨i,j.trans g,q2⟩
def BR:OA:=λxs mh Q=>∃x ds,xs=[x]/\i7 mh x=some ds/\ds.length<64/\GI ds/\
 ∀a,a.Perm ds->a.Pairwise (λd e=>lx (enc e) (enc d)=false)->Q (.ref mh.length) (mh++[.lst a])
theorem sI(U:GI ds):fR ds=true:=by
 have sc:∀{a:List Sc} {es:List D},c9 a es=true->fR es=true:=λ{a}=>by
  induction a with
  | nil=>intro es h;cases es with | nil=>rfl | cons=>simp[c9]at h
  | cons c a ih=>
   intro es h
   cases es with
   | nil=>simp[c9]at h
   | cons e es=>
    simp only[c9,Bool.and_eq_true]at h;simp only[fR,ih h.2,Bool.and_true];cases c <;> cases e <;> simp[eS]at h <;> rfl
 rcases U with ⟨c,b⟩ | ⟨c,a,b⟩
 ·induction ds with
  | nil=>rfl
  | cons d r ih=>
   have hd:=b d aHx;simp only[fR,ih λe he=>b e (List.mem_cons_of_mem _ he),Bool.and_true];cases c <;> cases d <;> simp[eS]at hd <;> rfl
 ·induction ds with
  | nil=>rfl
  | cons d r ih=>
   obtain⟨es,rfl,he⟩:=b d aHx;simp only[fR,ih λe he=>b e (List.mem_cons_of_mem _ he),Bool.and_true];simpa[bare] using sc he
structure Tri where
 d:D
 v:V
 u:Value
theorem RB{K:aLw}{μ:List Addr}{H:Hp}{h:Heap}:∀{ds:List D} {vs:List V} {us:List Value},IsL K μ H ds vs->Vals vs us->eA h ds us->∃g:List Tri,g.map (·.d)=ds/\g.map (·.v)=vs/\g.map (·.u)=us/\∀t∈g,Is K μ H t.d t.v/\RelV t.v t.u/\Vl h t.d t.u
 | [],vs,us,l,r,q=>by unfold IsL at l;subst l;cases r;exact⟨[],rfl,rfl,rfl,λt ht=>by cases ht⟩
 | d::ds,vs,us,l,r,q=>by
  unfold IsL at l;obtain⟨v,o,rfl,i,l⟩:=l
  cases r with
  | @cons _ j _ k r1 r2=>
   unfold eA at q;obtain⟨w,s,e,p,q⟩:=q;injection e with m n;subst m n;obtain⟨g,a,b,c,f⟩:=RB l r2 q
   exact⟨⟨d,v,j⟩::g,by simp[a],by simp[b],by simp[c],λt ht=>by
    rcases aI5.mp ht with rfl | ht
    ·exact⟨i,r1,p⟩
    ·exact f t ht⟩
theorem uF{K:aLw}{μ:List Addr}{H:Hp}:∀{a:List Tri},(∀t∈a,Is K μ H t.d t.v)->IsL K μ H (a.map (·.d)) (a.map (·.v))
 | [],_=>by simp[IsL]
 | t::a,h=>by
  simp only[List.map_cons];unfold IsL;exact⟨_,_,rfl,h t aHx,uF λx b=>h x (aI0 _ b)⟩
theorem qC:∀{a:List Tri},(∀t∈a,RelV t.v t.u)->Vals (a.map (·.v)) (a.map (·.u))
 | [],_=>.nil
 | t::a,h=>.cons (h t aHx) (qC λx b=>h x (aI0 _ b))
section
variable {X:Cx}
theorem KJ(hu:X.A.units+64<cLine):cE X (.builtin "sorted") (dU X.K BR):=by
 intro pins s σ H xs us Q I r q;obtain⟨μ,mh,ds,R,n,G,⟨x,es,rfl,e,J,U,q⟩,F⟩:=q;obtain⟨v,rfl,L⟩:=hJ G;obtain⟨a,vs,rfl,sq,l⟩:=nE n L e;obtain⟨u,rfl,M⟩:=vals1 r;cases M;obtain⟨aL,p,N,hz⟩:=I.list sq;have g:=iM I es (sI U) l p;have y:aL.length=es.length:=bL g;have O:X.A.in1.in1.units+40<cLine:=by show X.A.units+1+1+40<_;lia
 have ask:∃κ,2<=aL.length->∀h' :Heap,(∀b o,s.heap.get? b=some o->h'.get? b=some o)->TS.GQ X.prog X.w X.A.in1.in1 {s with heap:=h'} κ (ltV s.heap) (pairsOf aL)/\
   ∀B P,B κ {s with heap:=h'}->wpAny (model X.prog X.w) X.A.in1.in1 (keyKind' aL.toArray) B P {s with heap:=h'}:=by
  by_cases C:2<=aL.length
  ·obtain⟨κ,hk⟩:=qI (prog:=X.prog) (w:=X.w) (A:=X.A.in1.in1) O U g C;exact⟨κ,λ_=>hk⟩
  ·exact⟨general',λz=>absurd z C⟩
 obtain⟨κ,ask⟩:=ask;refine TS.LV (κ:=κ) (AN s.heap) N.isList (by lia) ask λout D h=>?_;obtain⟨S,T,V,W,Y⟩:=RB l p g;rw[<-W]at D;obtain⟨c,i,E⟩:=qM (·.u) D S rfl;have f:∀t∈c,Is X.K μ H t.d t.v/\RelV t.v t.u/\Vl s.heap t.d t.u:=λt ht=>Y t (i.mem_iff.mp ht);have Z:(c.map (·.d)).Perm es:=by rw[<-T];exact i.map _
 have pw:(c.map (·.d)).Pairwise (λd e=>lx (enc e) (enc d)=false):=by
  rw[<-E]at h;rw[List.pairwise_map]at h⊢;refine h.imp_of_mem λ{t t'} m m' j=>?_;have e1:dv s.heap t.u=t.d:=jO (f t m).2.2;have e2:dv s.heap t'.u=t'.d:=jO (f t' m').2.2;unfold ltV at j;rw[e1,e2]at j;exact j
 obtain⟨ep,he⟩:=sortedAll_at s.heap aL out.toArray
 have ln:(c.map (·.v)).length<=sizeLine:=by
  have:=i.length_eq;have k :=aJ7 List.length V;simp at k ⊢
  lia
 have I1:Inv X pins σ (upd H (s.heap.objs.size+1) (.lst (c.map (·.v)))) {s with heap:=sortedAll s.heap aL out.toArray}:=
  I.laid (t' :=s.toks) (λb o hb=>sortedAll_old hb) (aLe _) ⟨ln,out,ep,by rw[<-E];exact qC λt ht=>(f t ht).2.1,he⟩
 exact⟨.ref (s.heap.objs.size+1),_,I1,rfl,jM n F (uF λt ht=>(f t ht).1) (q _ Z pw) _ (I.bJ.fresh (aLe _))⟩
end
theorem bQ{g:WG}{b:WS}{E:i5}{St:MH->Prop}(e:Nat->dY->MH->Prop)(ds:List D)(f:∀i a mh,e i a mh->St mh)
  (l:∀i d a mh (N:dY->MH->Prop),ds[i]? =some d->e i a mh->(∀c mh',e (i+1) c mh' ->N c mh')->g d a λj=>b {E with nx:=N,ct:=N,bk:=E.nx} j mh)
  (hd:∀a mh,e ds.length a mh->E.nx a mh) {a:dY}  (h0:e 0 a mh):nF g b E St ds a mh:=by
 have go:∀(k i:Nat),i+k=ds.length->∀a mh,e i a mh->nF g b E St (ds.drop i) a mh:=by
  intro k
  induction k with
  | zero=>
   intro i hi a mh p;have:i=ds.length:=by lia
   subst this;rw[List.drop_of_length_le (Nat.le_refl _)];exact⟨f _ _ _ p,hd a mh p⟩
  | succ k ih=>
   intro i hi a mh p;have h:i<ds.length:=by lia
   rw[List.drop_eq_getElem_cons h];exact⟨f _ _ _ p,l i ds[i] a mh _ (by simp[h]) p λc mh' m =>ih (i+1) (by lia) c mh' m⟩
 have:=go ds.length 0 (by simp) a mh h0;simpa using this
theorem D0{g:WG}{t:WT}{w:WE}{ρe:dY}{St:MH->Prop}{Q:DK}(e:Nat->List D->MH->Prop)(ds:List D)(f:∀i a mh,e i a mh->St mh)
  (n:∀i d a mh (N:List D->MH->Prop),ds[i]? =some d->e i a mh->(∀c mh',e (i+1) c mh' ->N c mh')->g d ρe λh=>t h mh λb j=>if b=true then w h j λy m=>N (a++[y]) m else N a j)
  (hd:∀a mh,e ds.length a mh->Q (.ref mh.length) (mh++[.lst a]))  (h0:e 0 [] mh):kR g t w ρe St Q ds [] mh:=by
 have go:∀(k i:Nat),i+k=ds.length->∀a mh,e i a mh->kR g t w ρe St Q (ds.drop i) a mh:=by
  intro k
  induction k with
  | zero=>
   intro i hi a mh p;have:i=ds.length:=by lia
   subst this;rw[List.drop_of_length_le (Nat.le_refl _)];exact⟨f _ _ _ p,hd a mh p⟩
  | succ k ih=>
   intro i hi a mh p;have l:i<ds.length:=by lia
   rw[List.drop_eq_getElem_cons l];exact⟨f _ _ _ p,n i ds[i] a mh (λc mh' =>kR g t w ρe St Q (ds.drop (i+1)) c mh') (by simp[l]) p λc mh' o =>ih (i+1) (by lia) c mh' o⟩
 have:=go ds.length 0 (by simp) [] mh h0;simpa using this
theorem jK{lo:Int}{n i:Nat}(h:(lM lo n)[i]? =some d):i<n/\d= .int (lo+i):=by
 simp only[lM,List.getElem?_map]at h;obtain⟨k,hk,rfl⟩:=aI3.mp h;obtain⟨hi,rfl⟩:=aHv.mp hk;simp at hi;exact⟨hi,by simp⟩
@[simp] theorem aF5 (lo:Int)(n:Nat):(lM lo n).length=n:=by simp[lM]
def QP(mh:MH)(b:Nat):Prop:=∃c m:Int,mh[b]? =some (.lst [.int c,.int m])/\0<=c/\0<=m/\m<2147483629
variable{b:Nat}
theorem QP.lt(h:QP mh b):b<mh.length:=let ⟨_,_,e,_⟩:=h;(aHv.mp e).1
def kY(mh:MH)(b:Nat)(mh' :MH):Prop:=QP mh' b/\∃o,mh' =mh.set b o
theorem kY.len{mh mh' :MH}(h:kY mh b mh'):mh'.length=mh.length:=by obtain⟨_,o,rfl⟩:=h;simp
theorem kY.trans{mh a c:MH}(h:kY mh b a)(h' :kY a b c):kY mh b c:=by
 obtain⟨_,o,rfl⟩:=h;obtain⟨d,e,rfl⟩:=h';exact⟨d,e,by simp⟩
theorem kY.refl(h:QP mh b):kY mh b mh:=by
 refine⟨h,mh[b]'h.lt,?_⟩;simp
theorem kY.other{mh mh' :MH}(h:kY mh b mh')(a:n≠b):mh'[n]? =mh[n]? :=by
 obtain⟨_,o,rfl⟩:=h;exact List.getElem?_set_ne (aIg a)
def yF:OA:=λds mh Q=>∃b a,ds=[.ref b,.int a]/\1<=a/\a<=1073741789/\QP mh b/\∀r mh',0<=r->r<a->kY mh b mh' ->Q (.int r) mh'
def RW:OA:=λds mh Q=>∃(ns:List Int) (a:Int),ds=[.fl (ns.map .int),.int a]/\ns.length<=63/\0<=a/\a<=100/\∀mh',(∃o,mh' =mh++[o])->QP mh' mh.length->Q (.ref mh.length) mh'
def eT(K:aLw)(x:Str)(st:Stmt):Prop:=∃f oc od kV doc pm an a ct sl,PySem.W.nsIn K mainGlobals x=some (some (.ref f))/\
 K.lookup f=some ⟨oc,od,.func (PySem.W.fnOf x x (eQ st) (cU st) (aF st) .none kV doc pm an a ct),sl⟩/\PySem.W.codeIn K a x=true/\PySem.W.keepIn K (.ref f)=true
variable{st:Stmt}
theorem aFh{f:Addr}{oc:Value}{od an:Option Addr}{sl:Array (Option Value)}{kV doc pm b ct:Value}(a:PySem.W.nsIn K mainGlobals x=some (some (.ref f)))
  (l:K.lookup f=some ⟨oc,od,.func (PySem.W.fnOf x x (eQ st) (cU st) (aF st) .none kV doc pm an b ct),sl⟩) (c:PySem.W.codeIn K b x=true) (k:PySem.W.keepIn K (.ref f)=true):eT K x st:=⟨f,oc,od,kV,doc,pm,an,b,ct,sl,a,l,c,k⟩
def bW(x:Str)(st:Stmt)(ps:List Str):Prop:=∀(kV doc pm:Value) (an:Option Addr) (cdv ct:Value) (us:List Value),us.length=ps.length->bindArgs (PySem.W.fnOf x x (eQ st) (cU st) (aF st) .none kV doc pm an cdv ct) ⟨us,[]⟩=pure (ps.zip us)
section
variable {P:Program}{w:World}{K:aLw}{mg:aLz}{base:Heap}{h:Heap}
theorem aA6{k:Nat}{s:OA}{wB:WS}(e:eT K x st)(KX:K.In h)(G:h.Ns mainGlobals mg)(g:bW x st ps)(S:aY N ps (aF st))(len:∀ds mh R,s ds mh R->ds.length=ps.length)
  (i:∀(f:Addr) (cdv:Value) (A:Around) (outer:List Env) (s:Shared) (H:Hp) (E:XK),gX k (A.deeper (envOfC x (aF st) s.heap.objs.size f cdv))->
   kZ (wJ EF P w K mg base N x (aF st) f cdv A outer s H E).TH (cU st) wB)
  (j:∀ds mh R,oG mh->fK mh.length ds=true->s ds mh R->wB {nx:=λ_ b=>Out mh.length .bT b R,rt:=λd b=>Out mh.length d b R} (aK N ds) mh):Fn P w K mg base (k+1) x ps s:=by
 obtain⟨f,oc,od,kV,doc,pm,an,n,ct,sl,a,l,c,kp⟩:=e;have F:=FV (st:=st) l c kp;exact⟨f,_,aEc F S len (λcdv A outer s H E m=>i f cdv A outer s H E m) j,PySem.W.mg_of KX G a,kp,F.binds g⟩
theorem O9{k:Nat}(b:eT K x st)(KX:K.In h)(G:h.Ns mainGlobals mg)(d:bW x st ps):Fn P w K mg base k x ps (λ_ _ _=>False):=by
 obtain⟨f,oc,od,kV,doc,pm,an,e,ct,sl,a,l,c,kp⟩:=b;have F:=FV (st:=st) l c kp;refine⟨f,_,⟨λvs H Q E q=>?_,λA outer s H args us vs Q E _ _ _ _ q=>?_⟩,PySem.W.mg_of KX G a,kp,F.binds d⟩
 ·obtain⟨_,_,_,_,_,_,q,_⟩:=q;exact q.elim
 ·obtain⟨_,_,_,_,_,_,q,_⟩:=q;exact q.elim
end
def xH:OA:=λds mh Q=>∃ns:List Int,ds=[.fl (ns.map .int)]/\ns.length<=63/\∀mh',Q (.bl true) mh'
theorem DE{K:aLw}{μ:List Addr}{H:Hp}:∀ns:List Int,IsL K μ H (ns.map .int) (ns.map .int)
 | []=>by simp[IsL]
 | n::ns=>by simp only[List.map_cons];unfold IsL;exact⟨_,_,rfl,.int,DE ns⟩
theorem ZM{ns:List Int}(b:ns.length<=63)(c:VS H)(hS:rB K H a (ns.map V.int)):QT K xH [.ref a] H (λv _=>v= .bl true) λ_ _ _=>False:=by
 have e:QV K H a (ns.map V.int):=by
  rcases hS with (hS | hS) | hS
  ·rcases c a with z | ⟨o,xs,z⟩
   ·rw[hS]at z;cases z
   ·rw[hS]at z;cases z
  ·exact .inl hS
  ·exact .inr hS
 refine⟨[],[],[.fl (ns.map .int)],λd _=>d= .bl true,⟨rfl,List.nodup_nil,λn a o f=>by simp at f⟩,?_,⟨ns,rfl,b,λ_=>rfl⟩,λd mh' q μ' v H' _ _ I=>?_⟩
 ·refine fN ?_;unfold Is;exact⟨a,_,rfl,e,DE ns⟩
 ·subst q;exact DC I
theorem walkD{l:PySem.W.OpenLaw}{k:Nat}{q:Program}{loose:List Str}{XP:(aLz)->Heap->Prop}{c:World->Heap->Prop}{d:DefRec}{K:Params->aLw}(g:l.most=some 63)(b:d.params.defaults=[])(i:gX k callerA)
  (j:∀(w:World) (h:Heap),c w h->(K w.params).In h)
  (F:∀(w:World) (mg:aLz) (e:Addr) (h:Heap),(K w.params).In h->h.Ns mainGlobals mg->mg d.name=some (.ref e)->
   ∃fd:FuncData,(∀(s:Shared) (u:Value),BindsTo s fd ⟨[u],[]⟩ [(x,u)])/\∀base:Heap,(K w.params).In base->base.Ns mainGlobals mg->kX l.prog w (K w.params) mg base EF k e fd [x] (QT (K w.params) xH)):
  PySem.W.WalkO q loose XP c l.row.toRowW d [] (λf vs=>PySem.call f vs):=
 L2.Q4 (n:=63) (k:=k) (x:=x) (CX:=λ_=>EF) (sp:=λw=>QT (K w.params) xH) g (by decide) b i j F (λ_ _ a ns m o p=>ZM m o p) λ_ _ _ _ _ z=>z
theorem ZO{k:Nat}{g:Addr}(KX:K.In h)(G:h.Ns mainGlobals mg)(i:mg "law"=some (.ref g))(j:eT K "law" st)(S:aY N [x] (aF st))(m:bW "law" st [x])
  (n:∀base:Heap,∃wB:WS,(∀(f:Addr) (cdv:Value) (A:Around) (outer:List Env) (s:Shared) (H:Hp) (E:XK),gX k (A.deeper (envOfC "law" (aF st) s.heap.objs.size f cdv))->
   kZ (wJ EF P w K mg base N "law" (aF st) f cdv A outer s H E).TH (cU st) wB)/\
   ∀ds mh R,oG mh->fK mh.length ds=true->xH ds mh R->wB {nx:=λ_ b=>Out mh.length .bT b R,rt:=λd b=>Out mh.length d b R} (aK N ds) mh):
  ∃fd:FuncData,(∀(s:Shared) (u:Value),BindsTo s fd ⟨[u],[]⟩ [(x,u)])/\∀base:Heap,kX P w K mg base EF (k+1) g fd [x] (QT K xH):=by
 obtain⟨f,oc,od,kV,doc,pm,an,o,ct,sl,a,l,c,kp⟩:=j;have e:=i.symm.trans (PySem.W.mg_of KX G a);cases e;have F:=FV (st:=st) l c kp;refine⟨_,λs u=>.of_eq (m kV doc pm an o ct [u] rfl),λbase=>?_⟩;obtain⟨wB,p,q⟩:=n base;exact aEc F S (λds mh R r=>by obtain⟨ns,rfl,_⟩:=r;rfl) (λcdv A outer s H E t=>p g cdv A outer s H E t) q
theorem bl_mk(KX:K.In h)(G:h.Ns mainGlobals mg)
  (l:PySem.W.nsIn K mainGlobals "len"=some none) (m:PySem.W.nsIn K mainGlobals "range"=some none) (n:PySem.W.nsIn K mainGlobals "zip"=some none) (o:PySem.W.nsIn K mainGlobals "all"=some none) (p:PySem.W.nsIn K mainGlobals "any"=some none) (q:PySem.W.nsIn K mainGlobals "abs"=some none) (r:PySem.W.nsIn K mainGlobals "min"=some none) (s:PySem.W.nsIn K mainGlobals "max"=some none) (t:PySem.W.nsIn K mainGlobals "isinstance"=some none) (a:PySem.W.nsIn K mainGlobals "sorted"=some none) (b:PySem.W.nsIn K mainGlobals "int"=some none) (c:PySem.W.nsIn K mainGlobals "str"=some none) (d:PySem.W.nsIn K mainGlobals "bool"=some none) (e:PySem.W.nsIn K mainGlobals "list"=some none) (f:PySem.W.nsIn K mainGlobals "tuple"=some none) (g:PySem.W.nsIn K mainGlobals "set"=some none) (i:PySem.W.nsIn K mainGlobals "dict"=some none) (j:PySem.W.nsIn K mainGlobals "sum"=some none) (k:PySem.W.nsIn K mainGlobals "enumerate"=some none):Bl mg:=
 ⟨aIi KX G l,aIi KX G m,aIi KX G n,aIi KX G o,aIi KX G p,aIi KX G q,aIi KX G r,aIi KX G s,aIi KX G t,aIi KX G a,aIi KX G b,aIi KX G c,aIi KX G d,aIi KX G e,aIi KX G f,aIi KX G g,aIi KX G i,aIi KX G j,aIi KX G k⟩
theorem kM{a b:Key}(h:aW a=aW b):a=b:=by
 cases a <;> cases b <;> simp[aW]at h <;> rw[h]
theorem yN:∀{a b:List Key},a.map aW=b.map aW->a=b
 | [],[],_=>rfl
 | [],_::_,h=>by simp at h
 | _::_,[],h=>by simp at h
 | x::xs,y::ys,h=>by
  simp only[List.map_cons,List.cons.injEq]at h;rw[kM h.1,yN h.2]
theorem OI{a b:List Key}(h:D.tup (a.map aW)=D.tup (b.map aW)):a=b:=yN (by injection h)
open Classical in
noncomputable def putD(kvs:List (D×D))(k v:D):List (D×D):=if ∃p∈kvs,p.1=k then kvs.map (λp=>if p.1=k then (p.1,v) else p) else kvs++[(k,v)]
variable{kvs:List (D×D)}
theorem CN{k:D}(v:D)(h:∀p∈kvs,p.1≠k):putD kvs k v=kvs++[(k,v)]:=by
 unfold putD;rw[if_neg];rintro⟨p,a,e⟩;exact h p a e
theorem MG{k v:D}{p:D×D}(h:p∈putD kvs k v):p∈kvs\/(p.1=k/\p.2=v):=by
 unfold putD at h;split at h
 ·obtain⟨q,a,e⟩:=aI1.mp h;split at e
  ·rename_i hk;subst e;exact .inr ⟨hk,rfl⟩
  ·subst e;exact .inl a
 ·rcases aI9.mp h with h | h
  ·exact .inl h
  ·simp at h;subst h;exact .inr ⟨rfl,rfl⟩
theorem CP(kvs:List (D×D))(k v:D):(putD kvs k v).length<=kvs.length+1:=by
 unfold putD;split <;> simp
open Classical in
theorem yI(kvs:List (D×D))(k v:D):(putD kvs k v).map (·.1)=if (∃p∈kvs,p.1=k) then kvs.map (·.1) else kvs.map (·.1)++[k]:=by
 unfold putD;split
 ·rw[List.map_map];apply aKo;intro p _;simp only[Function.comp];split <;> rfl
 ·simp
section
variable {K:aLw}{μ:List Addr}{H:Hp}{κ:Type}[DecidableEq κ]{f:κ->D}
theorem CI(c:∀{a b},f a=f b->a=b)(k:κ){d:D}{v:V}(hd:Is K μ H d v):∀(kvs:List (D×D)) (kk:List (κ×V)),kvs.map (·.1)=kk.map (λp=>f p.1)->IsL K μ H (kvs.map (·.2)) (kk.map (·.2))->
  IsL K μ H ((open Classical in kvs.map λp=>if p.1=f k then (p.1,d) else p).map (·.2)) ((kk.map λp=>if p.1=k then (p.1,v) else p).map (·.2))
 | [],[],_,_=>by simp[IsL]
 | [],_::_,h,_=>by simp at h
 | _::_,[],h,_=>by simp at h
 | p::kvs,q::kk,h,l=>by
  simp only[List.map_cons,List.cons.injEq]at h;simp only[List.map_cons]at l⊢;unfold IsL at l⊢;obtain⟨w,r,e,i,l⟩:=l;simp only[List.cons.injEq]at e;obtain⟨rfl,rfl⟩:=e;have g:=CI c k hd kvs kk h.2 l;by_cases hk:q.1=k
  ·have:p.1=f k:=by rw[h.1,hk]
   simp only[if_pos hk,if_pos this];exact⟨_,_,rfl,hd,g⟩
  ·have:¬p.1=f k:=λz=>hk (c (h.1.symm.trans z));simp only[if_neg hk,if_neg this];exact⟨_,_,rfl,i,g⟩
theorem zW(m:∀{a b},f a=f b->a=b)(k:κ){v:V}(hd:Is K μ H d v){kk:List (κ×V)}(h:kvs.map (·.1)=kk.map (λp=>f p.1))(l:IsL K μ H (kvs.map (·.2)) (kk.map (·.2))):
  (putD kvs (f k) d).map (·.1)=(putK kk k v).map (λp=>f p.1)/\IsL K μ H ((putD kvs (f k) d).map (·.2)) ((putK kk k v).map (·.2)):=by
 have same:(∃p∈kvs,p.1=f k)↔(kk.any λn=>decide (n.1=k))=true:=by
  rw[List.any_eq_true];constructor
  ·rintro⟨p,i,e⟩;have:f k∈kk.map (λp=>f p.1):=by rw[<-h,<-e];exact aI1.mpr ⟨p,i,rfl⟩
   obtain⟨q,j,g⟩:=aI1.mp this;exact⟨q,j,by simpa using m g⟩
  ·rintro⟨q,j,e⟩;have:f q.1∈kvs.map (·.1):=by rw[h];exact aI1.mpr ⟨q,j,rfl⟩
   obtain⟨p,i,g⟩:=aI1.mp this;exact⟨p,i,by rw[g];simp at e;rw[e]⟩
 unfold putD putK;by_cases c:∃p∈kvs,p.1=f k
 ·rw[if_pos c,if_pos (same.mp c)];refine⟨?_,CI m k hd kvs kk h l⟩
  have o:(open Classical in kvs.map λp=>if p.1=f k then (p.1,d) else p).map (·.1)=kvs.map (·.1):=by
   rw[List.map_map];apply aKo;intro p _;simp only[Function.comp];split <;> rfl
  have g:(kk.map λp=>if p.1=k then (p.1,v) else p).map (λp=>f p.1)=kk.map (λp=>f p.1):=by
   rw[List.map_map];apply aKo;intro p _;simp only[Function.comp];split <;> rfl
  rw[o,g,h]
 ·rw[if_neg c,if_neg (λz=>c (same.mpr z))];refine⟨by simp[h],?_⟩;simp only[List.map_append,List.map_cons,List.map_nil];exact lR l (fN hd)
end
theorem uJ{o:MO}{ob:HO}(R:Rep K μ mh H)(h:μ[n]? =some a)(i:GK (some ob))(l:nS K μ (upd H a ob) o a):Rep K μ (mh.set n o) (upd H a ob):=by
 have P:aJ μ H μ (upd H a ob):=aJ.set R h;refine⟨by simp[R.len],R.nd,λm b f d e=>?_⟩;by_cases c:m=n
 ·subst c;rw[h]at d;cases d;have g:m<mh.length:=by rw[<-R.len];exact(aHv.mp h).1
  rw[List.getElem?_set_self g]at e;cases e;exact l
 ·rw[List.getElem?_set_ne (Ne.symm c)]at e;exact(R.obj m b f d e).mono R P (aO λz=>c (HD R.nd d (by rw[z];exact h)))
theorem Rep.TK{q:Addr}{o:MO}{ob:HO}(R:Rep K μ mh H)(a:H q=none)(l:nS K (μ++[q]) (upd H q ob) o q):Rep K (μ++[q]) (mh++[o]) (upd H q ob):=by
 have b:Rep K μ mh (upd H q ob):=R.new a;exact b.KS (λz=>R.ne a z rfl) l
def B7(t:Bool):WE:=λ_ mh Q=>Q (.ref mh.length) (mh++[.bM t []])
section
variable {X:Cx}{pos:Pos}
theorem UH:LE X (.Dict [] [] pos) (B7 false):=PE.imp MX λσ H Q h=>by
 obtain⟨μ,c,mh,R,a,E,h,F⟩:=h;intro p b;exact F _ _ h (μ++[p]) _ _ (aJ.CZ a b) (a.TK b ⟨[],⟨[],aR,rfl,rfl⟩,by simp[IsL]⟩) (by unfold Is;exact⟨p,by rw[<-a.len];simp,rfl⟩)
theorem UG:LE X (.Dict [] [] pos) (B7 true):=PE.imp MW λσ H Q h=>by
 obtain⟨μ,c,mh,R,a,E,h,F⟩:=h;intro p b;exact F _ _ h (μ++[p]) _ _ (aJ.CZ a b) (a.TK b ⟨[],⟨[],aR,rfl,rfl⟩,by simp[IsL]⟩) (by unfold Is;exact⟨p,by rw[<-a.len];simp,rfl⟩)
end
theorem jL{k:Key}{v:V}(h:Is K μ H (aW k) v):v=kV k:=by
 cases k <;> (simp only[aW]at h;unfold Is at h;exact h)
theorem f9{K:aLw}{μ:List Addr}{H:Hp}:∀{ks:List Key} {vs:List V},IsL K μ H (ks.map aW) vs->vs=ks.map kV
 | [],vs,h=>by simp only[List.map_nil]at h;unfold IsL at h;exact h
 | k::ks,vs,h=>by
  simp only[List.map_cons]at h;unfold IsL at h;obtain⟨v,r,rfl,i,l⟩:=h;rw[jL i,f9 l];rfl
theorem pJ{v:V}{t:Bool}(R:Rep K μ mh H)(h:Is K μ H (.ref n) v)(e:mh[n]? =some (.bM t kvs)):∃a vs,v= .ref a/\μ[n]? =some a/\tH (H a) (kvs.map (·.1)) vs t/\IsL K μ H (kvs.map (·.2)) vs:=by
 obtain⟨a,q,rfl⟩:=jV h;obtain⟨vs,hv,l⟩:=R.obj n a _ q e;exact⟨a,vs,rfl,q,hv,l⟩
def i4(h:Heap)(d:Addr)(es:Array DictEntry)(ep:Nat):Prop:=∃o,h.get? d=some o/\o.ExactDict/\o.data= .dict es ep
variable{es:Array DictEntry}
theorem i4.keep{h h' :Heap}{d:Addr}{ep:Nat}(x:i4 h d es ep)(k:∀o,h.get? d=some o->h'.get? d=some o):i4 h' d es ep:=let ⟨o,a,b,c⟩:=x;⟨o,k o a,b,c⟩
section
variable {prog:Program}{w:World}{A:Around}{E:aLx}{s:Shared}{it d:Addr}{i ep:Nat}{es:Array DictEntry}
variable{Q:Option Value->Shared->Prop}
theorem CL{e:DictEntry}(b:Heap.IsKeyIter s.heap it d i es.size ep)(m:i4 s.heap d es ep)(n:es[i]? =some e)
  (q:∀h',Heap.IsKeyIter h' it d (i+1) es.size ep->Heap.SameBut it s.heap h' ->Q (some e.key) {s with heap:=h'}):wpAny (model prog w) A (pyNext (.ref it)) Q E s:=by
 obtain⟨o,ho,h,hd⟩:=id b;obtain⟨od,f,p,g⟩:=id m;have ht:=b.typeIs;refine aHs (aJ5 (aI8 ht aJg (aI7 aJg ht F.entry_dict_keyiterator_next ?_ (F.args_dict_keyiterator_next_1 _))));refine aHs (aHt ?_);refine aHs (aHs (aHs (aJo ht (aHt ?_))));refine aHs (aKg ho hd ?_);show wpAny _ _ (if (Value.ref d==Value.none)=true then _ else _) _ _ _;rw[if_neg (show ¬((Value.ref d==Value.none)=true) from Bool.false_ne_true)];refine aHs (aHt ?_);refine aHs (aL7 f g ?_);rw[if_neg (show ¬(((es.size:Int) !=(es.size:Int))=true) by simp)];refine aHs (aHt ?_);refine aHs (wpAny_dictEpoch f g ?_);rw[if_neg (show ¬(((ep:Int) !=(ep:Int))=true) by simp)];refine aHt ?_
 have r:(if (i:Int)<0 then none else es[(i:Int).toNat]?)=some e:=by
  rw[if_neg (by lia)];simpa using n
 show wpAny _ _ (match (if (i:Int)<0 then none else es[(i:Int).toNat]?) with | some e=>_ | none=>_) _ _ _;rw[r];refine aHs (aHs (aJo ht (aHt ?_)));refine aHs (wpAny_isOneOf_keyiter ht ?_);refine aHs (aLo ho hd (by show 1<4;lia) ?_)
 have j:(s.heap.update it (Obj.mapFields λx=>x.setIfInBounds 1 (rawInt ((i:Int)+1)))).get? it=some (Obj.mapFields (λx=>x.setIfInBounds 1 (rawInt ((i:Int)+1))) o):=by
  refine aJ3 _ ho ?_;obtain⟨c,k,l,sl⟩:=o;simp only at hd h;subst hd;rfl
 have a:Heap.IsKeyIter (s.heap.update it (Obj.mapFields λx=>x.setIfInBounds 1 (rawInt ((i:Int)+1)))) it d (i+1) es.size ep:=by
  refine⟨_,j,?_,?_⟩
  ·obtain⟨c,k,l,sl⟩:=o;simp only at hd h;subst hd;exact h
  ·obtain⟨c,k,l,sl⟩:=o;simp only at hd h;subst hd;rfl
 refine aHs (aIj (aHs (wpAny_isOneOf_keyiter (Heap.IsKeyIter.typeIs (s:={s with heap:=s.heap.update it (Obj.mapFields λx=>x.setIfInBounds 1 (rawInt ((i:Int)+1)))}) a) (aHt (aHt ⟨_,rfl,aHt (q _ a (aIo _ _ _))⟩)))))
theorem G7(g:A.handled=none)(a:Heap.IsKeyIter s.heap it d i es.size ep)(h:i4 s.heap d es ep)(j:es[i]? =none)
  (q:∀h',Heap.ExtBut it s.heap h' ->Q none {s with heap:=h'}):wpAny (model prog w) A (pyNext (.ref it)) Q E s:=by
 obtain⟨o,ho,n,hd⟩:=id a;obtain⟨od,c,k,f⟩:=id h;have ht:=a.typeIs;refine aHs (aJ5 (aI8 ht aJg (aI7 aJg ht F.entry_dict_keyiterator_next ?_ (F.args_dict_keyiterator_next_1 _))));refine aHs (aHt ?_);refine aHs (aHs (aHs (aJo ht (aHt ?_))));refine aHs (aKg ho hd ?_);show wpAny _ _ (if (Value.ref d==Value.none)=true then _ else _) _ _ _;rw[if_neg (show ¬((Value.ref d==Value.none)=true) from Bool.false_ne_true)];refine aHs (aHt ?_);refine aHs (aL7 c f ?_);rw[if_neg (show ¬(((es.size:Int) !=(es.size:Int))=true) by simp)];refine aHs (aHt ?_);refine aHs (wpAny_dictEpoch c f ?_);rw[if_neg (show ¬(((ep:Int) !=(ep:Int))=true) by simp)];refine aHt ?_
 have l:(if (i:Int)<0 then none else es[(i:Int).toNat]?)=none:=by
  rw[if_neg (by lia)];simpa using j
 show wpAny _ _ (match (if (i:Int)<0 then none else es[(i:Int).toNat]?) with | some e=>_ | none=>_) _ _ _;rw[l];refine aHs (aHs (aJo ht (aHt ?_)));refine aHs (aLo ho hd (by show 0<4;lia) ?_);refine aHs (aHs (aIe (aHs (aKx (show firstArgMember (Value.type "StopIteration") []=pure _ from rfl) (aIe ?_)))));refine aHs (wpAny_handled ?_);rw[show A.in1.handled=none from g];refine wpAny_throw (aHs (aJs (T:= "StopIteration") (b:=true) ⟨_,aHy _ rfl,rfl⟩ rfl (aHt (q _ ?_))));intro b u m e;refine aHu _ (aHu _ ?_);rw[Heap.get?_update_ne _ _ _ _ m];exact e
end
theorem i4.typeIs{s:Shared}{d:Addr}{ep:Nat}(x:i4 s.heap d es ep):s.TypeIs (.ref d) "dict":=let ⟨o,a,b,c⟩:=x;⟨o,a,b.1⟩
section
variable {prog:Program}{w:World}{A:Around}{E:aLx}{s:Shared}{d:Addr}{ep:Nat}{es:Array DictEntry}
theorem CK{Q:aLx}(hd:(d==sysModules)=false)(b:i4 s.heap d es ep)
  (q:Q (.ref s.heap.objs.size) {s with heap:=s.heap.push {cls:= .type "dict_keyiterator",data:= .fields #[.ref d,.int 0 0,.int es.size 0,.int ep 0]}}):wpAny (model prog w) A (pyIter (.ref d)) Q E s:=by
 obtain⟨o,ho,c,a⟩:=id b;refine aJi b.typeIs F.slot_dict_iter (aI7 F.slot_dict_iter b.typeIs F.entry_dict_iter ?_ (F.args_dict_iter_1 _));refine aHs (aHs (wpAny_notOrdered_dict b.typeIs (aHs (aHt (aHt ?_)))));refine aHs (aHt ?_);refine aHs (m:=Builtin.Dict.showsAll d) ?_;show wpAny _ _ (if (d==sysModules)=true then _ else _) _ _ _;rw[hd,if_neg Bool.false_ne_true];refine aHt (aHs (aL7 ho a (aHs (wpAny_dictEpoch ho a (aHs (aIe (aHt ⟨_,rfl,"dict_keyiterator",_,⟨_,aHy _ rfl,rfl⟩,aJg.lookup,q⟩)))))))
theorem RZ(hd:(d==sysModules)=false):W.KdlSrc prog w "dict" d d es.size (λi v=>∃e,es[i]? =some e/\v=e.key) λh=>i4 h d es ep where
 type:=λs x=>x.typeIs
 there:=λh x=>let ⟨o,a,_⟩:=x;⟨aHz a,aHz a⟩
 keep:=λh h' x k=>x.keep λo=>k d (.inl rfl) o
 notList:=rfl
 notTuple:=rfl
 hint:=λA E s Q x q=>W.kdl_hint_dict x.typeIs q
 iter:=λA s m x=>by
  refine⟨_,λi h=>Heap.IsKeyIter h s.heap.objs.size d i es.size ep/\i4 h d es ep,λE Q q=>CK hd x q,?_,?_⟩
  ·have g:d≠s.heap.objs.size:=by obtain⟨o,a,_⟩:=x;exact aI4 (aHz a)
   refine⟨λb j=>by simp at j;simp[j],λi h h' st k=>⟨st.1.at λo=>k _ (by simp) o,st.2.keep λo=>k _ (by simp) o⟩,λi s1 Q E hi st q=>?_,λs1 Q E st q=>?_,λi s1 Q E st q=>wpAny_pyIter_keyiter st.1 q⟩
   ·have l:es[i]? =some es[i]:=by simp[hi]
    refine CL st.1 st.2 l λh' a b=>q _ h' s1.toks ⟨_,l,rfl⟩ ⟨a,st.2.keep λo e=>(b.2 d g).trans e⟩ λc o f e=>?_;simp at f;exact(b.2 c f).trans e
   ·refine G7 m st.1 st.2 (by simp) λh' a=>q h' s1.toks λc o f e=>?_;simp at f;exact a c o f e
  ·refine⟨⟨_,aHy _ rfl,rfl,rfl⟩,x.keep λo e=>aHu _ e⟩
end
end D3
namespace TS
open PySem PySem.Spec PyProof.Rows L2
section
variable {prog:Program}{w:World}{A:Around}{E:aLx}{s:Shared}{lt:Value×Value->Value×Value->Bool}{r d:Addr}{n:Nat}{P:Nat->Value->Prop}{OK:Heap->Prop}{T:String}
theorem LX(O:Wk lt){Q:aLx}(src:W.KdlSrc prog w T r d n P OK)(j:A.handled=none)(ok:OK s.heap)(l:n<64)
  (g:∀vs:List Value,ItemsOf P vs.toArray n->∀(a:Heap) (tk:Nat),(∀b o,s.heap.get? b=some o->a.get? b=some o)->∃κ,2<=vs.length->∀h' :Heap,(∀b o,a.get? b=some o->h'.get? b=some o)->
   GQ prog w A.in1.in1 {s with heap:=h',toks:=tk} κ lt (pairsOf vs)/\∀f p,f κ {s with heap:=h',toks:=tk}->wpAny (model prog w) A.in1.in1 (keyKind' vs.toArray) f p {s with heap:=h',toks:=tk})
  (h:∀vs:List Value,ItemsOf P vs.toArray n->∀out:List Value,out.Perm vs->out.Pairwise (λx y=>lt (y,y) (x,x)=false)->∀(a c:Heap) (tk:Nat) (ep:Nat),(∀b o,s.heap.get? b=some o->a.get? b=some o)->(∀b o,a.get? b=some o->c.get? b=some o)->
   c.get? a.objs.size=some (seqObj "list" out.toArray ep)->Q (.ref a.objs.size) {s with heap:=c,toks:=tk}):
  wpAny (model prog w) A (call (.builtin "sorted") [.ref r]) Q E s:=by
 have C:sizeLine=16777216:=aIf;refine aKk kind_sorted plain_sorted entry_sorted (args_sorted1 _) ?_;unfold Builtin.«sorted»;refine aHs (m:=checkCount "sorted" 1 1 _) (aHt ?_);refine aHs (W.kdu_collect src j ok (by lia) λa tk acc kept items=>?_);have hsz:acc.toList.length=n:=by have:=items.1;simpa using this
 obtain⟨κ,g⟩:=g acc.toList (by simpa using items) a tk kept;refine aHs (aLr ?_ (by lia));have ob:(a.push (seqObj "list" acc.toList.toArray 0)).get? a.objs.size=some (seqObj "list" acc.toList.toArray 0):=aHy _ rfl;refine aHs (aIj (aI7 slot_list_sort ⟨_,ob,rfl⟩ entry_list_sort (EV (κ:=κ) (s:={s with heap:=a.push (seqObj "list" acc.toList.toArray 0),toks:=tk}) O ob (by lia) (λc h' k=>?_) λout t u=>⟨_,rfl,aHt ⟨_,rfl,?_⟩⟩) (args_list_sort _)))
 ·obtain⟨v,z⟩:=g c h' λb o e=>k b o (aI4 (aHz e)) (aHu _ e);exact⟨v,λf q=>z f _ q⟩
 ·obtain⟨ep,he⟩:=sortedHeap_at (out:=out.toArray) ob;refine h acc.toList (by simpa using items) out t u a _ tk ep kept (λb o e=>?_) he;have i:=aHz e;have B:b<(a.push (seqObj "list" acc.toList.toArray 0)).objs.size:=by rw[size_push'];exact aIr i
  rw[sortedHeap_old (Nat.ne_of_lt i) B];exact aHu _ e
end
end TS
namespace D3
open PySem PySem.Spec PyProof.Rows L2
def wY:OA:=λxs mh Q=>∃n t kvs,xs=[.ref n]/\mh[n]? =some (.bM t kvs)/\kvs.length<64/\GI (kvs.map (·.1))/\∀fs:List D,fs.Perm (kvs.map (·.1))->fs.Pairwise (λd e=>lx (enc e) (enc d)=false)->Q (.ref mh.length) (mh++[.lst fs])
variable{μ:List Addr}
theorem OQ{K:aLw}{H:Hp}(k:Key):Is K μ H (aW k) (kV k):=by
 cases k <;> (simp only[aW];unfold Is;rfl)
theorem uG{K:aLw}{μ:List Addr}{H:Hp}:∀ks:List Key,IsL K μ H (ks.map aW) (ks.map kV)
 | []=>by simp[IsL]
 | k::ks=>by simp only[List.map_cons];unfold IsL;exact⟨_,_,rfl,OQ k,uG ks⟩
theorem u5{P:Program}{w:World}{k:Key}{u:Value}(h:(aS P w).is k u=true):RelV (kV k) u:=by
 rcases bU (k:=k) (v:=u) h with ⟨i,t,rfl,rfl⟩ | ⟨x,t,rfl,rfl⟩
 ·exact⟨t,rfl⟩
 ·exact⟨t,rfl⟩
theorem pE{P:Program}{w:World}:∀{es:List DictEntry} {vs:List (Key×Value)} {kk:List (Key×V)},Pairs (aS P w) es vs->KV kk vs->Vals (kk.map λp=>kV p.1) (es.map (·.key))
 | [],vs,kk,p,r=>by cases p;cases r;exact .nil
 | e::es,vs,kk,p,r=>by
  cases p with
  | cons a c b=>
   cases r with
   | cons r1 r2=>
    simp only[List.map_cons];refine .cons ?_ (pE b r2);rw[r1.1];exact u5 a
theorem n6{K:aLw}{μ:List Addr}{H:Hp}:∀kk:List (Key×V),IsL K μ H (kk.map λp=>aW p.1) (kk.map λp=>kV p.1)
 | []=>by simp[IsL]
 | p::kk=>by simp only[List.map_cons];unfold IsL;exact⟨_,_,rfl,OQ _,n6 kk⟩
theorem yQ{K:aLw}{μ:List Addr}{H:Hp}:∀{kk:List (List Key×V)} {xs:List (List Key×Addr×Value)},KT H kk xs->IsL K μ H (kk.map λp=>.tup (p.1.map aW)) (xs.map λx=>.ref x.2.1)
 | [],xs,r=>by cases r;simp[IsL]
 | p::kk,xs,r=>by
  cases r with
  | cons r1 r2=>
   simp only[List.map_cons];unfold IsL;refine⟨_,_,rfl,?_,yQ r2⟩;unfold Is;exact⟨_,_,rfl,.inl r1.2.1,uG _⟩
theorem fW:∀(xs:List (List Key×Addr×Value)),Vals (xs.map λx=>V.ref x.2.1) (xs.map λx=>Value.ref x.2.1)
 | []=>.nil
 | x::xs=>.cons rfl (fW xs)
variable{pins:List (Addr×Obj)}{s:Shared}
theorem U0{X:Cx}{σ:L2.St}{H:Hp}{a:Addr}{ks:List D}{vs:List V}{t:Bool}(I:Inv X pins σ H s)(hv:tH (H a) ks vs t):
  ∃(es:Array DictEntry) (ep:Nat) (f:List V),(a==sysModules)=false/\i4 s.heap a es ep/\IsL X.K μ H ks f/\Vals f (es.toList.map (·.key)):=by
 cases t with
 | false=>
  obtain⟨kk,e,rfl,rfl⟩:=hv;obtain⟨z,hd,vs,r,o,es,ep,b,c,d,g,h,i⟩:=IA I.bJ e;exact⟨es,ep,_,hd,⟨o,b,c,d⟩,n6 kk,pE h r⟩
 | true=>
  obtain⟨kk,e,rfl,rfl⟩:=hv;obtain⟨z,hd,xs,r,o,es,ep,b,c,d,g,h⟩:=PL I.bJ e;refine⟨es,ep,_,hd,⟨o,b,c,d⟩,yQ r,?_⟩;rw[g,List.map_map];exact fW xs
section
variable {X:Cx}
theorem F6(hu:X.A.units+64<cLine)(V:X.calm=true):cE X (.builtin "sorted") (dU X.K wY):=by
 intro pins s σ H xs us Q I r q;obtain⟨μ,mh,ds,R,L,W,⟨n,t,kvs,rfl,e,Y,U,q⟩,F⟩:=q;obtain⟨v,rfl,Z⟩:=hJ W;obtain⟨a,vs,rfl,hn,hv,l0⟩:=pJ L Z e;obtain⟨u,rfl,ru⟩:=vals1 r;cases ru;obtain⟨es,ep,ws,hd,B,l,M⟩:=U0 (μ:=μ) I hv;have C:=iM I (kvs.map (·.1)) (sI U) l M;have N:es.size=kvs.length:=by have:=bL C;simpa using this
 have u2:X.A.in1.in1.units+40<cLine:=by show X.A.units+1+1+40<_;lia
 have p:∀vs:List Value,ItemsOf (λi v=>∃e,es[i]? =some e/\v=e.key) vs.toArray es.size->vs=es.toList.map (·.key):=λvs h=>by
  apply List.ext_getElem?;intro i;have hs:vs.length=es.size:=by simpa using h.1
  by_cases hi:i<es.size
  ·have x :i<vs.length:=by lia
   obtain⟨e,j,f⟩:=h.2 i vs[i] (by simp[x]);rw[List.getElem?_map,List.getElem?_eq_getElem x];simp only[Array.getElem?_toList,j,Option.map_some,f]
  ·rw[List.getElem?_eq_none (by lia),List.getElem?_eq_none (by simp;lia)]
 refine TS.LX (AN s.heap) (RZ (ep:=ep) hd) (I.ok.hd V) B (by lia) (λvs hi j tk kept=>?_) λvs hi out O D j f tk E kept g he=>?_
 ·cases p vs hi;by_cases f:2<=(es.toList.map (·.key)).length
  ·obtain⟨κ,hk⟩:=qI (prog:=X.prog) (w:=X.w) (A:=X.A.in1.in1) (s:={s with toks:=tk}) u2 U C f;exact⟨κ,λ_ h' k=>hk h' λb o e=>k b o (kept b o e)⟩
  ·exact⟨general',λz=>absurd z f⟩
 ·cases p vs hi;obtain⟨ts,P,t2,t3,t4⟩:=RB l M C;rw[<-t3]at O;obtain⟨c,G,S⟩:=qM (·.u) O ts rfl;have y:∀t∈c,Is X.K μ H t.d t.v/\RelV t.v t.u/\Vl s.heap t.d t.u:=λt ht=>t4 t (G.mem_iff.mp ht);have pd:(c.map (·.d)).Perm (kvs.map (·.1)):=by rw[<-P];exact G.map _
  have pw:(c.map (·.d)).Pairwise (λd e=>lx (enc e) (enc d)=false):=by
   rw[<-S]at D;rw[List.pairwise_map]at D⊢;refine D.imp_of_mem λ{t t'} m m' J=>?_;have e1:dv s.heap t.u=t.d:=jO (y t m).2.2;have e2:dv s.heap t'.u=t'.d:=jO (y t' m').2.2;unfold ltV at J;rw[e1,e2]at J;exact J
  have ln:(c.map (·.v)).length<=sizeLine:=by
   have a1:=G.length_eq;have a2:=aJ7 List.length P;have a3:=aIf;simp at a2⊢
   lia
  have T:Inv X pins σ H {s with heap:=j,toks:=tk}:=I.kept (t' :=tk) kept
  have I1:Inv X pins σ (upd H j.objs.size (.lst (c.map (·.v)))) {s with heap:=f,toks:=tk}:=
   T.laid (h' :=f) (t' :=tk) g (aHw _) ⟨ln,out,E,by rw[<-S];exact qC λt ht=>(y t ht).2.1,he⟩
  exact⟨.ref j.objs.size,_,I1,rfl,jM L F (uF λt ht=>(y t ht).1) (q _ pd pw) _ (T.bJ.fresh (aHw _))⟩
end
theorem AM:∀x y:List Int,lx x y=false->lx y x=false->x=y
 | [],[],_,_=>rfl
 | [],b::y,h,_=>by simp[lx]at h
 | a::x,[],_,h=>by simp[lx]at h
 | a::x,b::y,h1,h2=>by
  unfold lx at h1 h2;by_cases e:a=b
  ·subst e;simp at h1 h2;rw[AM x y h1 h2]
  ·have c :¬b=a:=λz=>e z.symm;simp[e,c]at h1 h2
   lia
theorem AJ(x:List Int):lx x x=false:=by
 cases h:lx x x with
 | false=>rfl
 | true=>have:=AL x x h;rw[h]at this;cases this
theorem DS:∀{a:List Sc} {es fs:List D},c9 a es=true->c9 a fs=true->(es.map fQ).flatten=(fs.map fQ).flatten->es=fs
 | [],[],[],_,_,_=>rfl
 | [],_::_,_,h,_,_=>by simp[c9]at h
 | [],_,_::_,_,h,_=>by simp[c9]at h
 | _::_,[],_,h,_,_=>by simp[c9]at h
 | _::_,_::_,[],_,h,_=>by simp[c9]at h
 | c::a,e::es,f::fs,h1,h2,h=>by
  simp only[c9,Bool.and_eq_true]at h1 h2;simp only[List.map_cons,List.flatten_cons]at h
  have he:e=f:=by
   apply aIl;intro ne;have b:=AK h1.1 h2.1 ne (es.map fQ).flatten (fs.map fQ).flatten;have d:=AK h2.1 h1.1 (λz=>ne z.symm) (fs.map fQ).flatten (es.map fQ).flatten;rw[h,AJ]at b;rw[<-h,AJ]at d;exact ne (HY h1.1 h2.1 (AM _ _ b.symm d.symm))
  subst he;rw[DS h1.2 h2.2 (List.append_cancel_left h)]
theorem Q7{ds:List D}(U:GI ds){d e:D}(hd:d∈ds)(he:e∈ds)(h:enc d=enc e):d=e:=by
 rcases U with ⟨c,a⟩ | ⟨c,g,a⟩
 ·have b:=a d hd;have f:=a e he;cases c <;> cases d <;> simp[eS]at b <;> cases e <;> simp[eS]at f
  ·simpa[enc,fQ] using h
  ·exact HY (c:= .s) rfl rfl h
 ·obtain⟨es,rfl,b⟩:=a d hd;obtain⟨fs,rfl,f⟩:=a e he;rw[DS b f h]
theorem rL{ds:List D}(U:GI ds):∀{l1 l2:List D},(∀d∈l1,d∈ds)->l1.Perm l2->l1.Pairwise (λd e=>lx (enc e) (enc d)=false)->l2.Pairwise (λd e=>lx (enc e) (enc d)=false)->l1=l2
 | [],l2,_,p,_,_=>(List.nil_perm.mp p).symm
 | a::t,l2,hm,p,s1,s2=>by
  cases l2 with
  | nil=>exact absurd p.length_eq (by simp)
  | cons b u=>
   have c:lx (enc b) (enc a)=false:=by
    rcases aI5.mp (p.mem_iff.mpr aHx) with z | z
    ·rw[z];exact AJ _
    ·exact(aKv.mp s1).1 b z
   have f:lx (enc a) (enc b)=false:=by
    rcases aI5.mp (p.mem_iff.mp aHx) with z | z
    ·rw[z];exact AJ _
    ·exact(aKv.mp s2).1 a z
   have e:a=b:=Q7 U (hm a aHx) (hm b (p.mem_iff.mpr aHx)) (AM _ _ f c);subst e;rw[rL U (λd hd=>hm d (List.mem_cons_of_mem _ hd)) (List.Perm.cons_inv p) (List.pairwise_cons.mp s1).2 (List.pairwise_cons.mp s2).2]
def i8(mh:MH)(b:Nat)(mh' :MH):Prop:=∃a T,mh' =a++T/\kY mh b a
variable{mh:MH}{b:Nat}
theorem i8.refl(h:QP mh b):i8 mh b mh:=⟨mh,[],by simp,.refl h⟩
variable{mh':MH}
theorem i8.le(h:i8 mh b mh'):mh.length<=mh'.length:=by
 obtain⟨a,T,rfl,t⟩:=h;rw[List.length_append,t.len];lia
theorem i8.blt(h:i8 mh b mh'):b<mh.length:=by
 obtain⟨a,T,rfl,t⟩:=h;rw[<-t.len];exact t.1.lt
theorem i8.bag(h:i8 mh b mh'):QP mh' b:=by
 obtain⟨a,T,rfl,⟨c,m,e,r⟩,_⟩:=h;exact⟨c,m,by rw[List.getElem?_append_left (List.getElem?_eq_some_iff.mp e).1];exact e,r⟩
theorem i8.to{mh mh' a:MH}(h:i8 mh b mh')(t:kY mh' b a):i8 mh b a:=by
 have i:=h.blt;obtain⟨d,T,rfl,g⟩:=h;have f:b<d.length:=by rw[g.len];exact i
 obtain⟨⟨c,m,e,r⟩,o,rfl⟩:=t;rw[List.set_append_left _ _ f]at e⊢;refine⟨d.set b o,T,rfl,g.trans ⟨⟨c,m,?_,r⟩,o,rfl⟩⟩;rw[List.getElem?_append_left (by simpa using f)]at e;exact e
theorem i8.push(h:i8 mh b mh')(o:MO):i8 mh b (mh' ++[o]):=by
 obtain⟨a,T,rfl,c⟩:=h;exact⟨a,T++[o],by simp,c⟩
theorem i8.set{b n:Nat}(h:i8 mh b mh')(d:mh.length<=n)(o:MO):i8 mh b (mh'.set n o):=by
 obtain⟨a,T,rfl,c⟩:=h;refine⟨a,T.set (n-a.length) o,?_,c⟩;rw[List.set_append_right _ _ (by rw[c.len];exact d)]
theorem uW{a:Int}{Q:DK}(h:i8 mh b mh')(d:1<=a)(e:a<=1073741789)
  (q:∀r c,0<=r->r<a->i8 mh b c->c.length=mh'.length->(∀n,mh.length<=n->c[n]? =mh'[n]?)->Q (.int r) c):yF [.ref b,.int a] mh' Q:=
 ⟨b,a,rfl,d,e,h.bag,λr c f r1 t=>q r c f r1 (h.to t) t.len λn g=>t.other (by have:=h.blt;lia)⟩
open Classical in
noncomputable def aU:List (D×D)->D->Option D
 | [],_=>none
 | p::r,k=>if p.1=k then some p.2 else aU r k
theorem jI{K:aLw}{μ:List Addr}{H:Hp}(key:Key):∀{kvs:List (D×D)} {kk:List (Key×V)},kvs.map (·.1)=kk.map (λp=>aW p.1)->IsL K μ H (kvs.map (·.2)) (kk.map (·.2))->
  (gS kk key=none/\aU kvs (aW key)=none)\/∃d v,gS kk key=some v/\aU kvs (aW key)=some d/\Is K μ H d v
 | [],[],_,_=>.inl ⟨rfl,rfl⟩
 | [],_::_,h,_=>by simp at h
 | _::_,[],h,_=>by simp at h
 | p::kvs,q::kk,h,l=>by
  simp only[List.map_cons,List.cons.injEq]at h;simp only[List.map_cons]at l;unfold IsL at l;obtain⟨w,r,e,i,l⟩:=l;simp only[List.cons.injEq]at e;obtain⟨rfl,rfl⟩:=e;by_cases hk:q.1=key
  ·right;have a:p.1=aW key:=by rw[h.1,hk]
   exact⟨p.2,q.2,m3 hk,by simp[aU,a],i⟩
  ·have a:¬p.1=aW key:=λz=>hk (kM (h.1.symm.trans z));rw[m4 hk];simp only[aU,if_neg a];exact jI key h.2 l
section
variable {X:Cx}
theorem HM(n:X.A.units+64<cLine):QX X (λx y H Q=>∃a v,x= .ref a/\GO H a y (some v)/\Q v H):=by
 intro b c pins s σ H x y v u Q I j k h l;obtain⟨a,z,rfl,g,q⟩:=h;cases j;have i:=DW I g;unfold subscriptTail;refine aHs ?_;rw[getitemInPython_of_ne i.not_modules];refine aHs (wpAny_specialOf i PySem.F.slot_dict_getitem.lookup ?_)
 have d:wpAny (model X.prog X.w) X.A (subscripted c false (.ref a) u) (λr e=>wpAny (model X.prog X.w) X.A (letTemporaryGo b (.ref a) r >>=λ_=>pure r) (EP X pins σ Q) X.xe e) X.xe s:=by
  rw[l];exact wpAny_operating (KD (by lia) I g k λw' o m f =>aHs (wpAny_letTemporaryGo (aHt ⟨z,H,m,f,q⟩)))
 first
  | exact aHt (aHs d)
  | exact aHs (aHt (aHs d))
  | exact aHs d
def AA:O2:=λx y mh Q=>∃n kvs key d,x= .ref n/\mh[n]? =some (.bM false kvs)/\y=aW key/\aU kvs y=some d/\Q d mh
theorem ixD(h:X.A.units+64<cLine):QX X (bC X.K AA):=by
 intro b c pins s σ H x y v u Q I i j q m;obtain⟨μ,mh,dx,C,R,f,o,p,⟨n,kvs,key,d,rfl,e,rfl,hd,q⟩,F⟩:=q;obtain⟨a,vs,rfl,D,⟨kk,hv,r,rfl⟩,l⟩:=pJ f o e;cases jL p
 rcases jI key r l with ⟨_,z⟩ | ⟨d',w,t,g,B⟩
 ·rw[hd]at z;cases z
 ·rw[hd]at g;cases g;exact HM h b c pins s σ H _ _ v u Q I i j ⟨a,w,rfl,by rw[<-t];exact .k hv,F.here f q B⟩ m
end
def bestOf(f:Int->Int->Bool)(m:Int)(ms:List Int):Int:=ms.foldl (λa b=>if f b a then b else a) m
theorem D6(f:Int->Int->Bool)(m:Int)(ms:List Int):∀k,k<=ms.length->(m::ms).getD (argBest (λi j=>f ((m::ms).getD i 0) ((m::ms).getD j 0)) k) 0=bestOf f m (ms.take k)
 | 0,_=>by simp[argBest,bestOf]
 | k+1,h=>by
  have a:=D6 f m ms k (by lia);have hk:k<ms.length:=by lia
  have b:ms.take (k+1)=ms.take k++[ms[k]]:=by rw[List.take_succ,List.getElem?_eq_getElem hk];rfl
  have c:(m::ms).getD (k+1) 0=ms[k]:=by simp[hk]
  have d:bestOf f m (ms.take k++[ms[k]])=if f ms[k] (bestOf f m (ms.take k))=true then ms[k] else bestOf f m (ms.take k):=by unfold bestOf;rw[List.foldl_append];rfl
  rw[b,d,<-a,<-c];simp only[argBest];split <;> rfl
theorem uH{K:aLw}{μ:List Addr}{H:Hp}:∀{ns:List Int} {vs:List V} {us:List Value},IsL K μ H (ns.map .int) vs->Vals vs us->IntsAre us ns
 | [],vs,us,l,r=>by unfold IsL at l;subst l;cases r;exact .nil
 | n::ns,vs,us,l,r=>by
  simp only[List.map_cons]at l;unfold IsL at l;obtain⟨v,c,rfl,i,l⟩:=l;cases bK i
  cases r with
  | cons a b=>
   obtain⟨t,rfl⟩:=a;exact .cons n t (uH l b)
def aEi(f:Int->Int->Bool):OA:=λxs mh Q=>∃x m ms,xs=[x]/\aX mh x=some ((m::ms).map .int)/\Q (.int (bestOf f m ms)) mh
abbrev QH:OA:=aEi λa b=>decide (a > b)
section
variable {X:Cx}
theorem OL{prog:Program}{w:World}{A:Around}{E:aLx}{l:Addr}{items:Array Value}{Q:aLx}(b:s.heap.IsTuple l items)
  (h:∀a:Shared,a={s with heap:=s.heap.push {cls:= .type "tuple_iterator",data:= .fields #[.ref l,.int 0 0]}}->
   (a.heap.IsTupleIter s.heap.objs.size l 0/\a.heap.IsTuple l items)->l<s.heap.objs.size->Q (.ref s.heap.objs.size) a):
  wpAny (model prog w) A (pyIter (.ref l)) Q E s:=by
 have c:l<s.heap.objs.size:=by obtain⟨_,e,_⟩:=b;exact aHz e
 exact aKu b (h _ rfl ⟨⟨_,aHy _ rfl,rfl,rfl⟩,b.push _⟩ c)
theorem wW{σ:L2.St}{H:Hp}{R:DK}{Q:VK}{f:Int->Int->Bool}{m:Int}{ms:List Int}{aL:List Value}{v:Value}{h' :Heap}{tk:Nat}
  (I:Inv X pins σ H s) (a:Rep X.K μ mh H) (F:Fin X.K μ H R Q) (q:R (.int (bestOf f m ms)) mh) (c:IntsAre aL (m::ms))
  (hv:aL[argBest (λi j=>f ((m::ms).getD i 0) ((m::ms).getD j 0)) ms.length]? =some v) (hk:∀b o',s.heap.get? b=some o' ->h'.get? b=some o'):
  EP X pins σ Q v {s with heap:=h',toks:=tk}:=by
 obtain⟨t,rfl⟩:=c.int_at _ _ hv;refine⟨.int (bestOf f m ms),H,I.kept hk,⟨t,?_⟩,F.here a q .int⟩;rw[D6 f m ms ms.length (Nat.le_refl _),List.take_length]
theorem vS{aL:List Value}{ns:List Int}(a:IntsAre aL ns):∀(i:Nat) (v:Value),aL.toArray[i]? =some v->∃t,v= .int (ns.getD i 0) t:=λi v hv=>a.int_at i v (by simpa using hv)
theorem U8(z:X.calm=true):cE X (.builtin "max") (dU X.K QH):=by
 intro pins s σ H xs us Q I r q;obtain⟨μ,mh,ds,R,o,B,⟨x,m,ms,rfl,e,q⟩,F⟩:=q;obtain⟨v,rfl,C⟩:=hJ B;obtain⟨a,vs,rfl,sq,l⟩:=pC o C e;obtain⟨u,rfl,D⟩:=vals1 r;cases D;rcases sq with sq | sq
 ·obtain⟨aL,p,n,hz⟩:=I.list sq;have f:=uH l p;have c:aL.length=ms.length+1:=by have:=f.length;simpa using this
  refine call_max_walk (nZ n.isList λg t st w=>?_);have d:a<s.heap.objs.size:=by obtain⟨_,e,_⟩:=n.isList;exact aHz e
  subst t;refine⟨_,_,_,_,_,_,λi j=>decide ((m::ms).getD i 0 > (m::ms).getD j 0),rfl,Walks.list (A:=X.A.in1) (I.ok.hd z) _ a w aL.toArray,st,?_,by simp[c],CmpOf.ints_gt (λi=>(m::ms).getD i 0) (vS f),λv h' tk y hk=>?_⟩
  ·intro b h;simp only[List.mem_cons,List.not_mem_nil,or_false]at h;simp only[Heap.size_push];rcases h with rfl | rfl
   ·exact aIs _
   ·exact aIr d
  ·refine wW (s:=s) I o F q f (by simpa[c] using y) λb o' k =>hk b o' (by simp;exact aI4 (aHz k)) (aHu _ k)
 ·obtain⟨aL,p,n,hz⟩:=I.tuple sq;have f:=uH l p;have c:aL.length=ms.length+1:=by have:=f.length;simpa using this
  refine call_max_walk (OL (show s.heap.IsTuple a aL.toArray from n) λg t st d=>?_);subst t;refine⟨_,_,_,_,_,_,λi j=>decide ((m::ms).getD i 0 > (m::ms).getD j 0),rfl,Walks.tuple (A:=X.A.in1) (I.ok.hd z) _ a (aI4 d) aL.toArray,st,?_,by simp[c],CmpOf.ints_gt (λi=>(m::ms).getD i 0) (vS f),λv h' tk y hk=>?_⟩
  ·intro b h;simp only[List.mem_cons,List.not_mem_nil,or_false]at h;simp only[Heap.size_push];rcases h with rfl | rfl
   ·exact aIs _
   ·exact aIr d
  ·refine wW (s:=s) I o F q f (by simpa[c] using y) λb o' k =>hk b o' (by simp;exact aI4 (aHz k)) (aHu _ k)
end
end D3
namespace TS
open PySem PySem.Spec PyProof.Rows L2
section
variable {prog:Program}{w:World}{A:Around}{E:aLx}{s:Shared}{lt:Value×Value->Value×Value->Bool}
theorem CC(O:Wk lt){Q:aLx}{r:Addr}{Ok:List Value->Shared->Prop}
  (c:∀(E:aLx) (R:List Value->Shared->Prop),(∀vs a,Ok vs a ->R vs a)->wpAny (model prog w) A.in1 (collect (.ref r)) R E s)
  (g:∀vs a,Ok vs a ->vs.length<64)
  (i:∀vs a,Ok vs a ->∃κ,2<=vs.length->∀h' :Heap,(∀b o,a.heap.get? b=some o->h'.get? b=some o)->
   GQ prog w A.in1.in1 {a with heap:=h'} κ lt (pairsOf vs)/\∀f l,f κ {a with heap:=h'}->wpAny (model prog w) A.in1.in1 (keyKind' vs.toArray) f l {a with heap:=h'})
  (h:∀vs a,Ok vs a ->∀out:List Value,out.Perm vs->out.Pairwise (λx y=>lt (y,y) (x,x)=false)->∀(d:Heap) (ep:Nat),(∀b o,a.heap.get? b=some o->d.get? b=some o)->
   d.get? a.heap.objs.size=some (seqObj "list" out.toArray ep)->Q (.ref a.heap.objs.size) {a with heap:=d}):
  wpAny (model prog w) A (call (.builtin "sorted") [.ref r]) Q E s:=by
 have z:sizeLine=16777216:=aIf;refine aKk kind_sorted plain_sorted entry_sorted (args_sorted1 _) ?_;unfold Builtin.«sorted»;refine aHs (m:=checkCount "sorted" 1 1 _) (aHt ?_);refine aHs (c _ _ λvs a ok=>?_);have hsz:=g vs a ok;obtain⟨κ,i⟩:=i vs a ok;refine aHs (aLr ?_ (by lia));have ob:(a.heap.push (seqObj "list" vs.toArray 0)).get? a.heap.objs.size=some (seqObj "list" vs.toArray 0):=aHy _ rfl;refine aHs (aIj (aI7 slot_list_sort ⟨_,ob,rfl⟩ entry_list_sort (EV (κ:=κ) (s:={a with heap:=a.heap.push (seqObj "list" vs.toArray 0)}) O ob (by lia) (λd h' k=>?_) λout n p=>⟨_,rfl,aHt ⟨_,rfl,?_⟩⟩) (args_list_sort _)))
 ·obtain⟨t,u⟩:=i d h' λb o e=>k b o (aI4 (aHz e)) (aHu _ e);exact⟨t,λf q=>u f _ q⟩
 ·obtain⟨ep,he⟩:=sortedHeap_at (out:=out.toArray) ob;refine h vs a ok out n p _ ep (λb o e=>?_) he;have j:=aHz e;have v:b<(a.heap.push (seqObj "list" vs.toArray 0)).objs.size:=by rw[size_push'];exact aIr j
  rw[sortedHeap_old (Nat.ne_of_lt j) v];exact aHu _ e
end
end TS
namespace D3
open PySem PySem.Spec PyProof.Rows L2
section
variable {X:Cx}
variable{pins:List (Addr×Obj)}
theorem Inv.drawn{σ:L2.St}{H:Hp}{s a :Shared}(I:Inv X pins σ H s)(hg:a.gens=s.gens)(ho:a.os=s.os)(hk:∀b o,s.heap.get? b=some o->a.heap.get? b=some o):Inv X pins σ H a :=by
 have J:Inv X pins σ H {s with heap:=a.heap,toks:=a.toks}:=I.kept (t' :=a.toks) hk;obtain⟨e,f,g,h,i,j,k,l,m,c,d⟩:=J;exact⟨e,by rw[ho];exact f,by rw[hg];exact g,h,i,j,k,l,m,c,d⟩
theorem x9{P:Program}{w:World}:∀{ks:List Key} {us:List Value},Vals (ks.map kV) us->ks.length=us.length/\∀(i:Nat) (v:Value),us[i]? =some v->∃k,ks[i]? =some k/\(aS P w).is k v=true/\v.scannable=true
 | [],us,r=>by cases r;exact⟨rfl,λi v h=>by simp at h⟩
 | k::ks,us,r=>by
  cases r with
  | cons a b=>
   obtain⟨e,f⟩:=x9 (P:=P) (w:=w) b;refine⟨by simp[e],λi v h=>?_⟩
   cases i with
   | zero=>
    simp at h;subst h;refine⟨k,rfl,qQ a,?_⟩
    cases k with
    | inl i=>obtain⟨t,rfl⟩:=a;rfl
    | inr x=>obtain⟨t,rfl⟩:=a;rfl
   | succ i=>exact f i v (by simpa using h)
theorem KL(c:X.calm=true):cE X (.type "set") (λxs H Q=>∃(a:Addr) (ks:List Key),xs=[.ref a]/\rB X.K H a (ks.map kV)/\ks.length+1<scanBound/\∀p,H p=none->Q (.ref p) (upd H p (EE X.prog X.w p (ST.bN [] ks)))):=by
 intro pins s σ H xs us Q I r q;obtain⟨a,ks,rfl,sq,m,q⟩:=q;obtain⟨u,rfl,d⟩:=vals1 r;cases d;obtain⟨aL,f,g,hz⟩:=I.list sq;obtain⟨j,k⟩:=x9 (P:=X.prog) (w:=X.w) f;refine ST.set_list (knd:=aS X.prog X.w) (I.ok.hd c) g.isList (xs:=ks) (by simpa using j) (λi v h=>k i v (by simpa using h)) (by simp;lia) λh' tk l hk=>?_;exact⟨.ref s.heap.objs.size,_,I.laid (a:=s.heap.objs.size) (o:=EE X.prog X.w s.heap.objs.size (ST.bN [] ks)) (t' :=tk) (λb o e=>hk b o (aHz e) e) (aHw _) (zS l),rfl,q _ (I.bJ.fresh (aHw _))⟩
theorem LY{σ:L2.St}{H:Hp}{s:Shared}{p:Addr}{ks:List Key}(I:Inv X pins σ H s)(e:H p=some (EE X.prog X.w p ks)):ST.mO (aS X.prog X.w) (ST.fM X.w) s.heap p ks:=(I.bJ p _ e).1
theorem D5:cE X (.builtin "len") (λxs H Q=>∃(p:Addr) (ks:List Key),xs=[.ref p]/\H p=some (EE X.prog X.w p ks)/\Q (.int ks.length) H):=by
 intro pins s σ H xs us Q I r q;obtain⟨p,ks,rfl,e,q⟩:=q;obtain⟨u,rfl,a⟩:=vals1 r;cases a;obtain⟨o,es,ep,t,ho,hex,hd,he,nd,c,d,ht⟩:=LY I e;have f:=he.size;have:es.size<4096:=c;refine call_len_set ho hex hd d (by lia) ⟨.int ks.length,H,I.kept (h' :=s.heap) λb o e=>e,⟨_,by rw[<-f]⟩,q⟩
theorem qB{P:Program}{w:World}{h:Heap}:∀{ps:List (Key×Value)},(∀p∈ps,(aS P w).is p.1 p.2=true)->eA h (ps.map λp=>aW p.1) (ps.map (·.2))
 | [],_=>by simp[eA]
 | p::ps,hp=>by
  simp only[List.map_cons];unfold eA;refine⟨_,_,rfl,?_,qB λq c=>hp q (aI0 _ c)⟩;have:=hp p aHx
  rcases bU (k:=p.1) (v:=p.2) this with ⟨i,t,a,b⟩ | ⟨x,t,a,b⟩
  ·rw[a,b];simp only[aW];unfold Vl;exact⟨t,rfl⟩
  ·rw[a,b];simp only[aW];unfold Vl;exact⟨t,rfl⟩
theorem K8{ds es:List D}(U:GI ds)(p:es.Perm ds):GI es:=by
 rcases U with ⟨c,h⟩ | ⟨c,a,h⟩
 ·exact .inl ⟨c,λd hd=>h d (p.mem_iff.mp hd)⟩
 ·exact .inr ⟨c,a,λd hd=>h d (p.mem_iff.mp hd)⟩
theorem wR(hu:X.A.units+64<cLine)(L:X.calm=true):cE X (.builtin "sorted") (λxs H Q=>∃(p:Addr) (ks:List Key),xs=[.ref p]/\H p=some (EE X.prog X.w p ks)/\ks.length<64/\GI (ks.map aW)/\
  ∀f :List Key,f.Perm ks->(f.map aW).Pairwise (λd e=>lx (enc e) (enc d)=false)->∀q,H q=none->Q (.ref q) (upd H q (.lst (f.map kV)))):=by
 intro pins s σ H xs us Q I r q;obtain⟨p,ks,rfl,e,M,U,q⟩:=q;obtain⟨u,rfl,N⟩:=vals1 r;cases N;have O:=LY I e;have sz:=aIf;have S:X.A.in1.in1.units+40<cLine:=by show X.A.units+1+1+40<_;lia
 refine TS.CC (A:=X.A) (AN s.heap) (Ok:=λvs c =>ST.Vof (aS X.prog X.w) ks vs/\c.gens=s.gens/\c.os=s.os/\∀b o,s.heap.get? b=some o->c.heap.get? b=some o)
  (λE R T=>ST.CD (A:=X.A.in1) O (I.ok.hd L) (by lia) λc vs hv hg ho hk=>T vs c ⟨hv,hg,ho,hk⟩) ?_ ?_ ?_
 ·rintro vs c ⟨⟨ps,V,i,l⟩,_⟩;have W:=aJ7 List.length V;have Y:=i.length_eq;simp at W Y
  lia
 ·rintro vs c ⟨⟨ps,rfl,i,l⟩,hg,ho,hk⟩;have Z:eA s.heap (ps.map λp=>aW p.1) (ps.map (·.2)):=qB l;have U2:GI (ps.map λp=>aW p.1):=K8 U (by have:=i.map aW;simpa[Function.comp_def] using this);by_cases j:2<=(ps.map (·.2)).length
  ·obtain⟨κ,x⟩:=qI (prog:=X.prog) (w:=X.w) (A:=X.A.in1.in1) (s:={c with heap:=s.heap}) S U2 Z j;exact⟨κ,λ_ h' k=>x h' λb o e=>k b o (hk b o e)⟩
  ·exact⟨general',λz=>absurd z j⟩
 ·rintro vs c ⟨⟨ps,rfl,i,l⟩,hg,ho,hk⟩ out p1 y j ep kept he;obtain⟨a,B,C⟩:=qM (·.2) p1 ps rfl;have n:∀p∈a,(aS X.prog X.w).is p.1 p.2=true:=λp hp=>l p (B.mem_iff.mp hp);have G:Inv X pins σ H c :=Inv.drawn I hg ho hk;have D:(a.map (·.1)).Perm ks:=(B.map _).trans i
  have J:((a.map (·.1)).map aW).Pairwise (λd e=>lx (enc e) (enc d)=false):=by
   rw[<-C]at y;rw[List.pairwise_map]at y;rw[List.pairwise_map,List.pairwise_map];refine y.imp_of_mem λ{t t'} m m' F=>?_
   have v1:Vl s.heap (aW t.1) t.2:=by
    have:=qB (h:=s.heap) (ps:=[t]) (P:=X.prog) (w:=X.w) λq g=>by simp at g;subst g;exact n _ m
    simp only[List.map_cons,List.map_nil]at this;unfold eA at this;obtain⟨u,r,e,v,_⟩:=this;cases e;exact v
   have v2:Vl s.heap (aW t'.1) t'.2:=by
    have:=qB (h:=s.heap) (ps:=[t']) (P:=X.prog) (w:=X.w) λq g=>by simp at g;subst g;exact n _ m'
    simp only[List.map_cons,List.map_nil]at this;unfold eA at this;obtain⟨u,r,e,v,_⟩:=this;cases e;exact v
   unfold ltV at F;rw[jO v1,jO v2]at F;exact F
  have K:((a.map (·.1)).map kV).length<=sizeLine:=by have:=D.length_eq;simp at*;lia
  have vv:Vals ((a.map (·.1)).map kV) out:=by
   rw[<-C];clear B C D J K
   induction a with
   | nil=>exact .nil
   | cons p a ih=>exact .cons (u5 (n p aHx)) (ih λq g=>n q (aI0 _ g))
  have I1:Inv X pins σ (upd H c.heap.objs.size (.lst ((a.map (·.1)).map kV))) {c with heap:=j}:=
   G.laid (h' :=j) (t' :=c.toks) kept (aHw _) ⟨K,out,ep,vv,he⟩
  exact⟨.ref c.heap.objs.size,_,I1,rfl,q _ D J _ (G.bJ.fresh (aHw _))⟩
end
def uR(w:WE):WE:=λc mh Q=>w c mh λx b=>∃ks:List Key,i7 b x=some (ks.map aW)/\ks.length<64/\GI (ks.map aW)/\
 ∀a :List Key,(∀k,k∈a ↔k∈ks)->a.Nodup->a.length<=ks.length->(a.map aW).Pairwise (λd e=>lx (enc e) (enc d)=false)->Q (.ref b.length) (b++[.lst (a.map aW)])
def tZ(w:WE):WE:=λb mh Q=>w b mh λx a=>∃ks:List Key,i7 a x=some (ks.map aW)/\ks.length<64/\Q (.int (ST.bN [] ks).length) a
@[simp] theorem V5 (w:WE)(c:dY)(mh:MH)(Q:DK):uR w c mh Q↔w c mh λx b=>∃ks:List Key,i7 b x=some (ks.map aW)/\ks.length<64/\GI (ks.map aW)/\
 ∀a :List Key,(∀k,k∈a ↔k∈ks)->a.Nodup->a.length<=ks.length->(a.map aW).Pairwise (λd e=>lx (enc e) (enc d)=false)->Q (.ref b.length) (b++[.lst (a.map aW)]):=Iff.rfl
@[simp] theorem aBy (w:WE)(b:dY)(mh:MH)(Q:DK):tZ w b mh Q=(w b mh λx a=>∃ks:List Key,i7 a x=some (ks.map aW)/\ks.length<64/\Q (.int (ST.bN [] ks).length) a):=rfl
theorem FC{ks:List Key}(h:ks.Nodup)(k:Key):(ST.nQ ks k).Nodup:=by
 unfold ST.nQ;split
 ·exact h
 ·rename_i hk;rw[List.nodup_append];exact⟨h,by simp,λa d b c=>by simp at c;subst c;exact λz=>hk (z▸d)⟩
theorem lO:∀{xs ks:List Key},ks.Nodup->(ST.bN ks xs).Nodup
 | [],ks,h=>h
 | x::xs,ks,h=>lO (xs:=xs) (FC h x)
section
variable {X:Cx}{e:Expr}{w:WE}{p1 p2 p3 pos:Pos}
theorem G9{te:TE}(c:X.calm=true)(d:X.mg "set"=none)(he:PE X e te)(hg:Gl X "set":=by rfl)
  (b:starEach [e] X.env=(false,eval e X.env)::starEach [] X.env:=by rfl):PE X (.Call (.Name "set" p2) [e] [] p3) (tCB (λxs H Q=>∃(a:Addr) (ks:List Key),xs=[.ref a]/\rB X.K H a (ks.map kV)/\ks.length+1<scanBound/\∀p,H p=none->Q (.ref p) (upd H p (EE X.prog X.w p (ST.bN [] ks)))) (V4 te aBk)):=
 yK (KL c) hg d aAl (uB he vB b) (by decide) (by decide) b rfl
theorem UC(t:X.A.units+64<cLine)(g:X.calm=true)(u:X.mg "set"=none)(m:X.mg "sorted"=none)(he:LE X e w)(hg:Gl X "set":=by rfl)(n:Gl X "sorted":=by rfl)
  (v:starEach [e] X.env=(false,eval e X.env)::starEach [] X.env:=by rfl)
  (i:starEach [.Call (.Name "set" p2) [e] [] p3] X.env=(false,eval (.Call (.Name "set" p2) [e] [] p3) X.env)::starEach [] X.env:=by rfl):
  LE X (.Call (.Name "sorted" p1) [.Call (.Name "set" p2) [e] [] p3] [] pos) (uR w):=
 PE.imp (vA (wR t g) n m oF (uB (G9 g u he hg v) vB i) (by decide) (by decide) i rfl) λσ H Q h=>by
  obtain⟨μ,x,mh,R,y,E,h,F⟩:=h;refine⟨μ,x,mh,_,y,E,h,λdx z B C N O D o G=>?_⟩;obtain⟨ks,I,J,U,q⟩:=B;obtain⟨a,vs,rfl,sq,l⟩:=nE o G I;cases f9 l;have j:=ST.lV ks ([]:List Key);simp at j;have b:∀k,k∈ST.bN [] ks↔k∈ks:=λk=>by rw[ST.lQ];simp
  refine⟨a,ks,rfl,sq,by unfold scanBound;lia,λp s=>?_⟩;show ∃K f,[V.ref p]=[.ref K]/\_;refine⟨p,ST.bN [] ks,rfl,aR,by lia,?_,λf r L=>?_⟩
  ·rcases U with ⟨c,g⟩ | ⟨c,M,g⟩
   ·exact .inl ⟨c,λd hd=>by obtain⟨k,hk,rfl⟩:=aI1.mp hd;exact g _ (aI1.mpr ⟨k,(b k).mp hk,rfl⟩)⟩
   ·exact .inr ⟨c,M,λd hd=>by obtain⟨k,hk,rfl⟩:=aI1.mp hd;exact g _ (aI1.mpr ⟨k,(b k).mp hk,rfl⟩)⟩
  ·exact jM (o.new s) (F.at (D.trans (aJ.new o s))) (uG f) (q f (λk=>by rw[r.mem_iff,b]) (r.symm.nodup (lO (by simp))) (by have:=r.length_eq;lia) L)
theorem JT(i:X.calm=true)(j:X.mg "set"=none)(c:X.mg "len"=none)(he:LE X e w)(hg:Gl X "set":=by rfl)(d:Gl X "len":=by rfl)
  (k:starEach [e] X.env=(false,eval e X.env)::starEach [] X.env:=by rfl)
  (b:starEach [.Call (.Name "set" p2) [e] [] p3] X.env=(false,eval (.Call (.Name "set" p2) [e] [] p3) X.env)::starEach [] X.env:=by rfl):
  LE X (.Call (.Name "len" p1) [.Call (.Name "set" p2) [e] [] p3] [] pos) (tZ w):=
 PE.imp (vA D5 d c QC (uB (G9 i j he hg k) vB b) (by decide) (by decide) b rfl) λσ H Q h=>by
  obtain⟨μ,m,mh,R,n,E,h,F⟩:=h;refine⟨μ,m,mh,_,n,E,h,λdx o r s z A t f u=>?_⟩;obtain⟨ks,v,B,q⟩:=r;obtain⟨a,vs,rfl,sq,l⟩:=nE f u v;cases f9 l;refine⟨a,ks,rfl,sq,by unfold scanBound;lia,λp g=>?_⟩;show ∃x y,[V.ref p]=[.ref x]/\_;exact⟨p,ST.bN [] ks,rfl,aR,(F.at (t.trans (aJ.new f g))).here (f.new g) q .int⟩
end
def YQ:Expr->Bool
 | .Starred .. =>false
 | _=>true
def JK:List Expr->Bool
 | []=>true
 | e::es=>YQ e && JK es
theorem uX{e:Expr}{es:List Expr}{env:Env}(h:YQ e=true):starEach (e::es) env=(false,eval e env)::starEach es env:=by
 cases e <;> first | rfl | (simp[YQ]at h)
theorem qG{pos:Pos}{env:Env}:∀{es:List Expr},JK es=true->(backTo pos (starEach es env)).any (·.1)=false
 | [],_=>rfl
 | e::es,h=>by
  unfold JK at h;rw[Bool.and_eq_true]at h;rw[uX h.1];show (false || (backTo pos (starEach es env)).any (·.1))=false;rw[qG h.2];rfl
section
variable {X:Cx}{e:Expr}{es:List Expr}{w:WE}{wr wa:WA}{pos p:Pos}{x:Str}
theorem aH9(a:LE X e w)(b:LA X es wr)(h:YQ e=true:=by rfl):LA X (e::es) (aB w wr):=UM a b (uX h)
theorem aDd{k:Nat}{ps:List Str}{s:OA}(F:Fn X.prog X.w X.K X.mg X.base k x ps s)(b:gX k X.A)(c:LA X (e::es) wr)(hg:Gl X x:=by rfl)(a:(x==("__debug__":Str))=false:=by decide)
  (h:YQ e=true:=by rfl) (d:JK es=true:=by rfl):LE X (.Call (.Name x p) (e::es) [] pos) (aG s wr):=N6 F b c hg a (uX h) (qG d)
theorem vJ{id:String}{f:OA}(b:cE X (.builtin id) (dU X.K f))(c:X.mg x=none)(hv:bootBuiltins x=some (.builtin id))(d:LA X (e::es) wr)(hg:Gl X x:=by rfl)(g:x≠ "__name__":=by decide)(a:(x==("__debug__":Str))=false:=by decide)
  (h:YQ e=true:=by rfl) (i:JK es=true:=by rfl):LE X (.Call (.Name x p) (e::es) [] pos) (aG f wr):=aDe b c hv d hg g a (uX h) (qG i)
theorem UB{T:String}{f:OA}(b:cE X (.type T) (dU X.K f))(c:X.mg x=none)(hv:bootBuiltins x=some (.type T))(d:LA X (e::es) wr)(hg:Gl X x:=by rfl)(g:x≠ "__name__":=by decide)(a:(x==("__debug__":Str))=false:=by decide)
  (h:YQ e=true:=by rfl) (i:JK es=true:=by rfl):LE X (.Call (.Name x p) (e::es) [] pos) (aG f wr):=aDc b c hv d hg g a (uX h) (qG i)
end
def HE:Expr->Bool
 | .ListComp .. =>false
 | .SetComp .. =>false
 | .DictComp .. =>false
 | _=>true
theorem CA{e:Expr}{t:Option Expr}{l:Nat}{env:Env}(h:HE e=true):swapsWith e t l env=pure false:=by
 cases e <;> first | rfl | (simp[HE]at h)
section
variable {X:Cx}{e:Expr}{w:WE}{pos:Pos}
theorem aH4(i:Nat){x:Str}{a :Pos}(hN:X.N.Nodup)(he:LE X e w)(hi:X.N[i]? =some x:=by rfl)(b:Loc X.env.scope x:=by first | exact Or.inl rfl | exact Or.inr rfl)(c:HE e=true:=by rfl)(d:X.fn x=true\/X.env.scope.names.lookup x=some .local:=by first | exact .inl rfl | exact .inr rfl | assumption):
  LS X (.Assign [.Name x a] e pos) (bI w (gN i)):=NS i hN he hi b (CA c) d
theorem aH5(he:LE X e w)(a:HE e=true:=by rfl):LS X (.Expr e pos) (mY w):=T3 he (CA a)
end
section
variable {ρ:dY}{mh:MH}{Q:DK}{E:i5}
@[simp] theorem s_dic (t:Bool):B7 t ρ mh Q=(Q (.ref mh.length) (mh++[.bM t []])):=rfl
end
open Classical in
theorem GZ(k v:D):∀kvs:List (D×D),(∃p∈kvs,p.1=k)->aU (kvs.map λp=>if p.1=k then (p.1,v) else p) k=some v
 | [],h=>by obtain⟨p,b,_⟩:=h;cases b
 | p::kvs,h=>by
  rw[List.map_cons];by_cases e:p.1=k
  ·simp[aU,e]
  ·simp only[aU,if_neg e];refine GZ k v kvs ?_;obtain⟨r,c,a⟩:=h;rcases aI5.mp c with z | z
   ·subst z;exact absurd a e
   ·exact⟨r,z,a⟩
theorem G0(k v:D):∀kvs:List (D×D),(¬∃p∈kvs,p.1=k)->aU (kvs++[(k,v)]) k=some v
 | [],h=>by simp[aU]
 | p::kvs,h=>by
  have e:¬p.1=k:=λz=>h ⟨p,aHx,z⟩;rw[List.cons_append];simp only[aU,if_neg e];exact G0 k v kvs λa=>by obtain⟨r,b,c⟩:=a;exact h ⟨r,aI0 _ b,c⟩
theorem lJ(kvs:List (D×D))(k v:D):aU (putD kvs k v) k=some v:=by
 classical
 unfold putD;by_cases h:∃p∈kvs,p.1=k
 ·rw[if_pos h];exact GZ k v kvs h
 ·rw[if_neg h];exact G0 k v kvs h
open Classical in
theorem pB(k v:D){a :D}(hk:a ≠k):∀kvs:List (D×D),aU (kvs.map λp=>if p.1=k then (p.1,v) else p) a =aU kvs a
 | []=>rfl
 | p::kvs=>by
  rw[List.map_cons];by_cases e:p.1=k
  ·have b:¬p.1=a :=λz=>hk (z.symm.trans e);simp only[if_pos e,aU,if_neg b,pB k v hk kvs]
  ·simp only[if_neg e,aU,pB k v hk kvs]
theorem uT(k v:D){a :D}(hk:a ≠k):∀kvs:List (D×D),aU (kvs++[(k,v)]) a =aU kvs a
 | []=>by simp[aU,Ne.symm hk]
 | p::kvs=>by
  rw[List.cons_append];simp only[aU,uT k v hk kvs]
theorem cK(kvs:List (D×D)){k a :D}(v:D)(hk:a ≠k):aU (putD kvs k v) a =aU kvs a :=by
 classical
 unfold putD;split
 ·exact pB k v hk kvs
 ·exact uT k v hk kvs
def pN(mh mh' :MH):Prop:=∃T,mh' =mh++T
theorem pN.push{mh mh' :MH}(h:pN mh mh')(o:MO):pN mh (mh' ++[o]):=by
 obtain⟨T,rfl⟩:=h;exact⟨T++[o],by simp⟩
variable{n:Nat}
theorem pN.set{mh mh' :MH}(h:pN mh mh')(a:mh.length<=n)(o:MO):pN mh (mh'.set n o):=by
 obtain⟨T,rfl⟩:=h;exact⟨T.set (n-mh.length) o,by rw[List.set_append_right _ _ a]⟩
variable{mh:MH}
theorem aZ{o x:MO}(e:mh[n]? =some o):(mh++[x])[n]? =some o:=by
 rw[List.getElem?_append_left (List.getElem?_eq_some_iff.mp e).1];exact e
theorem get_set{n m:Nat}{o x:MO}(e:mh[n]? =some o)(h:m≠n):(mh.set m x)[n]? =some o:=by
 rw[List.getElem?_set_ne h];exact e
theorem cS{o:MO}(x:MO)(e:mh[n]? =some o):(mh.set n x)[n]? =some x:=by
 rw[List.getElem?_set_self (List.getElem?_eq_some_iff.mp e).1]
theorem jW{o:MO}(e:mh[n]? =some o):n<mh.length:=(aHv.mp e).1
theorem aP{ds:List D}(e:mh[n]? =some (.lst ds)):aX mh (.ref n)=some ds:=by simp[aX,e]
theorem AO{ds:List D}(e:mh[n]? =some (.lst ds)):i7 mh (.ref n)=some ds:=by simp[i7,e]
theorem UP{α:Type}(l:List α)(x:α):pP (l++[x]) (-1)=some x:=by
 unfold pP FP;rw[if_neg (by lia),if_pos (by simp;lia)];simp only[Option.bind_some];have:((-1:Int)+((l++[x]).length:Int)).toNat=l.length:=by simp;lia
 rw[this];simp
theorem yX(ds:List D):cutD ds (some 1) none=ds.tail:=by
 cases ds with
 | nil=>rfl
 | cons a ds=>
  unfold cutD;have b:HT.dX (a::ds).length 0 (some 1)=1:=by simp[HT.dX]
  have c:HT.dX (a::ds).length (a::ds).length none=(a::ds).length:=by simp[HT.dX]
  rw[b,c];simp
theorem yY{α c:Type}{g:WG}{w:WE}{ρe:dY}{St:MH->Prop}{Q:DK}(em:α->D)(f:α->c)(b:c->D):∀(ds:List α) (a:List c) {mh:MH},St mh->
  (∀d∈ds,∀(N:DK),N (b (f d)) mh->g (em d) ρe λi=>w i mh N)->
  Q (.ref mh.length) (mh++[.lst ((a++ds.map f).map b)])->kR g fS w ρe St Q (ds.map em) (a.map b) mh
 | [],a,mh,hst,_,q=>⟨hst,by simpa using q⟩
 | d::ds,a,mh,hst,h,q=>by
  refine⟨hst,?_⟩;simp only[L0,if_true];refine h d aHx _ ?_;have:=yY (Q:=Q) (St:=St) (g:=g) (w:=w) (ρe:=ρe) em f b ds (a++[f d]) hst (λe he=>h e (aI0 _ he)) (by simpa using q);simpa using this
theorem dR{α e:Type}{g:WG}{w:WE}{ρe:dY}{St:MH->Prop}{Q:DK}(em:α->D)(f:α->e)(a:e->D)(ds:List α)(b:St mh)
  (h:∀d∈ds,∀(N:DK),N (a (f d)) mh->g (em d) ρe λc=>w c mh N)
  (q:Q (.ref mh.length) (mh++[.lst ((ds.map f).map a)])):kR g fS w ρe St Q (ds.map em) [] mh:=yY em f a ds [] b h q
theorem zip_map{α:Type}(f:α->D):∀(l m:List α),jQ (l.map f) (m.map f)=(l.zip m).map λp=>.tup [f p.1,f p.2]
 | [],_=>by simp[jQ]
 | a::l,[]=>by simp[jQ]
 | a::l,b::m=>by simp[jQ,zip_map f l m]
def sM(P:Program)(w:World)(K:aLw)(mg:aLz)(base:Heap)(k:Nat)(x:Str)(N:List Str)(st:Stmt)(wB:WS):Prop:=
 ∀(f:Addr) (cdv:Value) (A:Around) (outer:List Env) (s:Shared) (H:Hp) (E:XK),gX k (A.deeper (envOfC x (aF st) s.heap.objs.size f cdv))->
  kZ (wJ EF P w K mg base N x (aF st) f cdv A outer s H E).TH (cU st) wB
section
variable {P:Program}{w:World}{K:aLw}{mg:aLz}{base:Heap}{h:Heap}
theorem d5{x:Str}{st:Stmt}{N ps:List Str}{k:Nat}{s:OA}{wB:WS}(b:eT K x st)(KX:K.In h)(G:h.Ns mainGlobals mg)(c:bW x st ps)(S:aY N ps (aF st))(e:sM P w K mg base k x N st wB)(len:∀ds mh R,s ds mh R->ds.length=ps.length)
  (f:∀ds mh R,oG mh->s ds mh R->wB {nx:=λ_ a=>Out mh.length .bT a R,rt:=λd a=>Out mh.length d a R} (aK N ds) mh):Fn P w K mg base (k+1) x ps s:=
 aA6 b KX G c S len e λds mh R ok _ g=>f ds mh R ok g
theorem aA5{x:Str}{st:Stmt}{N ps:List Str}{j k:Nat}{s:OA}{wB:WS}(e:k+1=j)(b:eT K x st)(KX:K.In h)(G:h.Ns mainGlobals mg)(c:bW x st ps)(S:aY N ps (aF st))(f:sM P w K mg base k x N st wB)(len:∀ds mh R,s ds mh R->ds.length=ps.length)
  (g:∀ds mh R,oG mh->s ds mh R->wB {nx:=λ_ a=>Out mh.length .bT a R,rt:=λd a=>Out mh.length d a R} (aK N ds) mh):Fn P w K mg base j x ps s:=
 e▸d5 b KX G c S f len g
theorem ZN{x:Str}{st:Stmt}{N:List Str}{k:Nat}{c:Addr}{wB:WS}(KX:K.In h)(G:h.Ns mainGlobals mg)(b:mg "law"=some (.ref c))(e:eT K "law" st)(S:aY N [x] (aF st))(f:bW "law" st [x])
  (g:∀base:Heap,sM P w K mg base k "law" N st wB)
  (i:∀ds mh R,oG mh->xH ds mh R->wB {nx:=λ_ a=>Out mh.length .bT a R,rt:=λd a=>Out mh.length d a R} (aK N ds) mh):
  ∃fd:FuncData,(∀(s:Shared) (u:Value),BindsTo s fd ⟨[u],[]⟩ [(x,u)])/\∀base:Heap,kX P w K mg base EF (k+1) c fd [x] (QT K xH):=
 ZO KX G b e S f λbase=>⟨wB,g base,λds mh R ok _ j=>i ds mh R ok j⟩
end
def cmB:Bool->Nat
 | false=>sizeLine
 | true=>4000
def rZ(b:Bool)(g:WG)(t:WT)(w:WE)(ρe:dY)(St:MH->Prop)(K:List D->MH->Prop):List D->List D->MH->Prop
 | [],ys,mh=>St mh/\K ys mh
 | d::ds,ys,mh=>St mh/\ys.length<cmB b/\g d ρe λa=>t a mh λc e=>if c=true then w a e λy f=>(b=true->∃k,y=aW k)/\rZ b g t w ρe St K ds (ys++[y]) f else rZ b g t w ρe St K ds ys e
def iX(b:Bool)(g:WG)(t:WT)(a:WI)(h:WG)(i:WT)(w:WE)(ρe:dY)(St:MH->Prop)(K:List D->MH->Prop):List D->List D->MH->Prop
 | [],ys,mh=>St mh/\K ys mh
 | d::ds,ys,mh=>St mh/\g d ρe λe=>t e mh λc f=>if c=true then a e f λes j k=>rZ b h i w e j (iX b g t a h i w ρe St K ds) es ys k else iX b g t a h i w ρe St K ds ys f
def lstK(Q:DK):List D->MH->Prop:=λa mh=>Q (.ref mh.length) (mh++[.lst a])
def K3(own:List Str)(aE:List Nat)(wi:WI)(g:WG)(t:WT)(a:WI)(d:WG)(e:WT)(w:WE):WE:=λc mh Q=>wi c mh λds St b=>iX false g t a d e w (cX own aE c) St (lstK Q) ds [] b
@[simp] theorem s_lc2 {b:dY}{Q:DK}(own:List Str)(aE:List Nat)(i:WI)(g:WG)(t:WT)(i2:WI)(d:WG)(e:WT)(a:WE):K3 own aE i g t i2 d e a b mh Q=(i b mh λds St c=>iX false g t i2 d e a (cX own aE b) St (lstK Q) ds [] c):=rfl
theorem cD.gP{K:aLw}{μ μ' :List Addr}{H H' :Hp}{a:dY}{σ:L2.St}(p:eC μ H μ' H')(E:cD K μ H a σ):cD K μ' H' a σ:=⟨E.1,λi d e=>by
 obtain⟨v,b,c⟩:=E.2 i d e
 exact⟨v,b,Is.gP p d v c⟩⟩
section
variable {X:Cx}
theorem aAb{P:Program}{w:World}{b:Bool}{a:Addr}{c:List V}:Own (some (EJ P w b a c)):=by cases b <;> trivial
theorem U6{b:Bool}{a:List V}(h:a.length<cmB b):a.length<sizeLine/\(b=true->(ST.bN [] (a.filterMap xD)).length+1<scanBound):=by
 have sz:=aIf
 cases b with
 | false=>exact⟨h,λz=>nomatch z⟩
 | true=>
  have h' :a.length<4000:=h;have l1:=ST.lV (a.filterMap xD) [];have l2:=aKr xD a;exact⟨by lia,λ_=>by unfold scanBound;simp at l1;lia⟩
theorem N9{b:Bool}{wi A:WI}{g g2:TG}{gd r:WG}{t M:WT}{w:WE}{own:List Str}{aE:List Nat}(hr:gY X.K g gd)(hr2:gY X.K g2 r){σ:L2.St}{H:Hp}{Q:VK}{μ:List Addr}{L:dY}{R:List D->MH->Prop}(RR:Rep X.K μ mh H)(En:cD X.K μ H L σ)
  (h:wi L mh λds St O=>iX b gd t A r M w (cX own aE L) St R ds [] O)
  (F:∀(l μ' :List Addr) (N H' :Hp) (mh' :MH) (a:List D) (u:List V) (acc:Addr),aJ μ H l N->aJ l N μ' H' ->N acc=none->Rep X.K μ' mh' H' ->acc∉μ' ->H' acc=some (EJ X.prog X.w b acc u)->IsL X.K μ' H' a u->R a mh' ->Q (.ref acc) H'):
  W7 X.prog X.w b own aE (LM X.K wi) g (G1 X.K t) (ES X.prog X.w b (LM X.K A) g2 (G1 X.K M) (tL X.K w)) σ H Q:=by
 refine⟨μ,L,mh,_,RR,En,h,λds St O q l J N P1 R1 It acc s=>?_⟩;have P:acc∉l:=λz=>R1.ne s z rfl;have mutC:∀{H:Hp} {u:List V},H acc=some (EJ X.prog X.w b acc u)->GK (H acc):=λ{H u} e=>by rw[e];cases b <;> trivial
 refine⟨λi m u H' =>∃μ' mh' a,aJ l N μ' H' /\Rep X.K μ' mh' H' /\acc∉μ' /\H' acc=some (EJ X.prog X.w b acc u)/\IsL X.K μ' H' a u/\i<=ds.length/\m=ds.length-i/\iX b gd t A r M w (cX own aE L) St R (ds.drop i) a mh',
  ⟨ds.length,l,O,[],aJ.out aJ.refl s,R1.new s,P,aR,by unfold IsL;rfl,aIx _,by simp,by simpa using q⟩,?_⟩
 rintro i m u H' ⟨μ',mh',a,P',R',ha',e',l',hi',rfl,c⟩;refine⟨e',?_⟩;by_cases S:i<ds.length
 ·rw[List.drop_eq_getElem_cons S]at c;obtain⟨hst,c⟩:=c;obtain⟨hgo,hy⟩:=It.go μ' mh' H' (P'.weak R1) R' hst i ds[i] (by simp[S]);refine .inr ⟨hgo,λv B=>∃d p f,aJ l N d B/\Rep X.K d p B/\acc∉d/\B acc=some (EJ X.prog X.w b acc v)/\IsL X.K d B f v/\iX b gd t A r M w (cX own aE L) St R (ds.drop (i+1)) f p,?_,λx H'' y=>?_⟩
  ·rintro v B ⟨d,p,f,P2,R2,T,e2,l2,c2⟩;exact⟨ds.length-(i+1),by lia,d,p,f,P2,R2,T,e2,l2,S,rfl,c2⟩
  ·obtain⟨Py,Ry,Iy⟩:=hy x H'' y;obtain⟨hay,ey⟩:=Py.away ha' e';have ly:=IsL.mono R' Py a u l';have P0y:=P1.trans (P'.trans Py);refine hr x _ H'' _ μ' (cX own aE L) mh' _ _ Ry (En.mono RR P0y).emb Iy c λC q2 σ2 U=>?_;refine⟨μ',C,mh',_,Ry,U,q2,λc mh3 q3 μ3 H3 P3 R3=>?_⟩;obtain⟨ha3,e3⟩:=P3.away hay ey;have l3:=IsL.mono Ry P3 a u ly;have P13:=(P'.trans Py).trans P3
   cases c with
   | false=>rw[if_neg Bool.false_ne_true]at q3⊢;exact⟨μ3,mh3,a,P13,R3,ha3,e3,l3,q3⟩
   | true=>
    rw[if_pos rfl]at q3⊢;refine⟨μ3,C,mh3,_,R3,U.mono Ry P3,q3,λes St2 mh4 q4 W J2 H4 P4 R4 It2=>?_⟩;obtain⟨ha4,e4⟩:=P4.away ha3 e3;have l4:=IsL.mono R3 P4 a u l3
    refine⟨λk m u H' =>∃μ' mh' a,aJ l N μ' H' /\eC W H4 μ' H' /\Rep X.K μ' mh' H' /\acc∉μ' /\H' acc=some (EJ X.prog X.w b acc u)/\IsL X.K μ' H' a u/\k<=es.length/\m=es.length-k/\rZ b r M w C St2 (iX b gd t A r M w (cX own aE L) St R (ds.drop (i+1))) (es.drop k) a mh',
     ⟨es.length,W,mh4,a,P13.trans P4,aJ.refl.weak R4,R4,ha4,e4,l4,aIx _,by simp,by simpa using q4⟩,?_⟩
    rintro k m Y H5 ⟨E,G,j,P15,P5,R5,ha5,e5,l5,hk5,rfl,Z⟩;by_cases I:k<es.length
    ·rw[List.drop_eq_getElem_cons I]at Z;obtain⟨hst5,hsz5,Z⟩:=Z;obtain⟨hgo5,hy5⟩:=It2.go E G H5 P5 R5 hst5 k es[k] (by simp[I]);refine .inr ⟨hgo5,λv B=>∃d p f,aJ l N d B/\eC W H4 d B/\Rep X.K d p B/\acc∉d/\B acc=some (EJ X.prog X.w b acc v)/\IsL X.K d B f v/\rZ b r M w C St2 (iX b gd t A r M w (cX own aE L) St R (ds.drop (i+1))) (es.drop (k+1)) f p,?_,λx6 H6 y6=>?_⟩
     ·rintro v B ⟨d,p,f,P2,W2,R2,T,e2,l2,c2⟩;exact⟨es.length-(k+1),by lia,d,p,f,P2,W2,R2,T,e2,l2,I,rfl,c2⟩
     ·obtain⟨P6,R6,I6⟩:=hy5 x6 H6 y6;obtain⟨ha6,e6⟩:=P6.away ha5 e5;have l6:=IsL.mono R5 P6 j Y l5;have En6:=cD.mono R5 P6 (cD.gP P5 ((U.mono Ry P3).mono R3 P4));refine hr2 x6 _ H6 _ E C G _ _ R6 En6 I6 Z λρ7 q7 σ7 En7=>?_;refine⟨E,ρ7,G,_,R6,En7,q7,λc mh8 q8 μ8 H8 P8 R8=>?_⟩;obtain⟨ha8,e8⟩:=P8.away ha6 e6;have l8:=IsL.mono R6 P8 j Y l6;have P18:=(P15.trans P6).trans P8;have W48:=(P5.trans (P6.weak R5)).trans (P8.weak R6)
      cases c with
      | false=>rw[if_neg Bool.false_ne_true]at q8⊢;exact⟨μ8,mh8,j,P18,W48,R8,ha8,e8,l8,q8⟩
      | true=>
       rw[if_pos rfl]at q8⊢;refine⟨U6 (by rw[aV l8];exact hsz5),μ8,ρ7,mh8,_,R8,En7.mono R6 P8,q8,λy mh9 q9 μ9 vy H9 P9 R9 I9=>?_⟩;obtain⟨ha9,e9⟩:=P9.away ha8 e8;have hm:GK (H9 acc):=mutC e9;obtain⟨hk9,q9⟩:=q9;have l9:=IsL.mono R8 P9 j Y l8;refine⟨λhb=>by obtain⟨k,rfl⟩:=hk9 hb;exact⟨k,jL I9⟩,e9,μ9,mh9,j++[y],aJ.out (P18.trans P9) s,?_,R9.out hm ha9,ha9,aR,IsL.out hm _ _ (lR l9 (fN I9)),q9⟩;have W49:=W48.trans (P9.weak R8);refine⟨W49.pre,λb o e n=>?_⟩;have:=W49.fr b o e n;by_cases hb:b=acc
       ·subst hb;rw[e9]at this;cases this;exact absurd aAb n
       ·rw[aO hb];exact this
    ·have e:k=es.length:=by lia
     subst e;rw[List.drop_of_length_le (Nat.le_refl _)]at Z;exact .inl ⟨It2.stop E G H5 P5 R5 Z.1,E,G,j,P15,R5,ha5,e5,l5,Z.2⟩
 ·have e:i=ds.length:=by lia
  subst e;rw[List.drop_of_length_le (Nat.le_refl _)]at c;exact .inl ⟨It.stop μ' mh' H' (P'.weak R1) R' c.1,F _ _ _ _ _ _ _ _ P1 P' s R' ha' e' l' c.2⟩
theorem ZJ{tg iter d m f:Expr}{i B:List Expr}{scope sc:Scope}{N:List Str}{pos:Pos}{wi e:WI}{g l:TG}{D j:WG}{t n:WT}{w:WE}(own:List Str)(o1:Nat)(aE:List Nat)
  (hN:X.N=N) (hsc:X.env.scope=sc) (chk:cB N sc scope aE=true) (dB:X.calm=true) (hi:LI X tg iter wi) (o:o1<=own.length) (ho:kW o1 g)
  (G:gY X.K g D) (p:GIn o1 own.length l) (q:gY X.K l j)
  (hg:∀cl C fp s₀ H₀,PG (aH X own aE scope cl C fp s₀ H₀) tg g) (ht:∀cl C fp s₀ H₀,BX (aH X own aE scope cl C fp s₀ H₀) i t)
  (r:∀cl C fp s₀ H₀,LI (aH X own aE scope cl C fp s₀ H₀) d m e)
  (s:∀cl C fp s₀ H₀,PG (aH X own aE scope cl C fp s₀ H₀) d l) (u:∀cl C fp s₀ H₀,BX (aH X own aE scope cl C fp s₀ H₀) B n)
  (he:∀cl C fp s₀ H₀,LE (aH X own aE scope cl C fp s₀ H₀) f w)
  (I:∀x,foldedSetIterable iter X.env x=pure x:=by intro _;rfl) (v:∀env x,foldedSetIterable m env x=pure x:=by intro _ _;rfl):
  LE X (.ListComp f [⟨tg,iter,i,0⟩,⟨d,m,B,0⟩] scope pos) (K3 own aE wi D t e j n w):=
 PE.imp (X5 (b:=false) (wi:=LM X.K wi) (tt:=G1 X.K t) (tb:=ES X.prog X.w false (LM X.K e) l (G1 X.K n) (tL X.K w)) own o1 aE hN hsc chk dB hi o ho hg (λcl C fp s₀ H₀=>ht cl C fp s₀ H₀)
  (λacc cl C fp s₀ H₀=>KP (b:=false) dB rfl (r cl C fp s₀ H₀) (s cl C fp s₀ H₀) p (u cl C fp s₀ H₀) (he cl C fp s₀ H₀)) v I) λσ H Q h=>by
  obtain⟨μ,U,mh,R,J,En,h,F⟩:=h;refine N9 G q J En h λy μ' L H' mh' M V acc O z k E A P S c=>?_
  have T:aJ y L (μ' ++[acc]) H' :=⟨by obtain⟨t,rfl⟩:=z.pre;exact⟨t++[acc],by simp⟩,z.fr,λa ha=>by
   rcases aI9.mp ha with ha | ha
   ·exact z.nw a ha
   ·simp at ha;subst ha;exact .inr k⟩
  exact F _ _ c (μ' ++[acc]) _ H' (O.trans T) (E.aAu A P S) (by unfold Is;exact⟨acc,by rw[<-E.len];simp,rfl⟩)
end
theorem vT{b:Bool}{d γ:Type}{g:WG}{w:WE}{ρe:dY}{St:MH->Prop}{K:List D->MH->Prop}(em:d->D)(f:d->γ)(c:γ->D)(j:b=true->∀x,∃k,c x=aW k):∀(es:List d) (a:List D) {mh:MH},St mh->a.length+es.length<=cmB b->
  (∀e∈es,∀N:DK,N (c (f e)) mh->g (em e) ρe λi=>w i mh N)->K (a++(es.map f).map c) mh->rZ b g fS w ρe St K (es.map em) a mh
 | [],a,mh,hst,_,_,q=>⟨hst,by simpa using q⟩
 | e::es,a,mh,hst,hl,h,q=>by
  simp only[List.length_cons]at hl;refine⟨hst,by lia,?_⟩;simp only[L0,if_true];refine h e aHx _ ⟨λz=>j z _,?_⟩;exact vT em f c j es (a++[c (f e)]) hst (by simp;lia) (λe he=>h e (aI0 _ he)) (by simpa using q)
theorem wL{b:Bool}{α n γ:Type}{g r:WG}{l:WI}{w:WE}{ρe:dY}{St:MH->Prop}{K:List D->MH->Prop}(em:α->D)(a:α->List n)(c:n->D)(f:α->n->γ)(m:γ->D)(h:α->dY)(s:b=true->∀x,∃k,m x=aW k):∀(ds:List α) (j:List D) {mh:MH},St mh->j.length+(ds.flatMap a).length<=cmB b->
  (∀d∈ds,∀N:dY->Prop,N (h d)->g (em d) ρe N)->(∀d∈ds,∀N:List D->(MH->Prop)->MH->Prop,(∀i:MH->Prop,i mh->N ((a d).map c) i mh)->l (h d) mh N)->
  (∀d∈ds,∀e∈a d,∀N:DK,N (m (f d e)) mh->r (c e) (h d) λo=>w o mh N)->
  K (j++(ds.flatMap λd=>(a d).map (f d)).map m) mh->iX b g fS l r fS w ρe St K (ds.map em) j mh
 | [],j,mh,hst,_,_,_,_,q=>⟨hst,by simpa using q⟩
 | d::ds,j,mh,hst,hl,h1,h2,h3,q=>by
  simp only[List.flatMap_cons,List.length_append]at hl;refine⟨hst,?_⟩;simp only[L0,if_true];refine h1 d aHx _ ?_;refine h2 d aHx _ λi p=>?_;refine vT c (f d) m s (a d) j p (by lia) (λe he=>h3 d aHx e he) ?_;exact wL em a c f m h s ds _ hst (by rw[List.length_append,List.length_map,List.length_map];lia) (λe he=>h1 e (aI0 _ he)) (λe he=>h2 e (aI0 _ he)) (λe he=>h3 e (aI0 _ he)) (by simpa using q)
theorem U5{b:Bool}{α m γ:Type}{g p:WG}{i:WI}{w:WE}{ρe:dY}{St:MH->Prop}{K:List D->MH->Prop}(em:α->D)(a:α->List m)(h:m->D)(f:α->m->γ)(l:γ->D)(c:α->dY)(ds:List α)(r:b=true->∀x,∃k,l x=aW k)(n:St mh)(s:(ds.flatMap a).length<=cmB b)
  (t:∀d∈ds,∀N:dY->Prop,N (c d)->g (em d) ρe N) (u:∀d∈ds,∀N:List D->(MH->Prop)->MH->Prop,(∀j:MH->Prop,j mh->N ((a d).map h) j mh)->i (c d) mh N)
  (v:∀d∈ds,∀e∈a d,∀N:DK,N (l (f d e)) mh->p (h e) (c d) λo=>w o mh N)
  (q:K ((ds.flatMap λd=>(a d).map (f d)).map l) mh):iX b g fS i p fS w ρe St K (ds.map em) [] mh:=
 wL em a h f l c r ds [] n (by simpa using s) t u v (by simpa using q)
theorem EY{Q:DK}{bs:List Bool}(h:mh[n]? =some (.lst (bs.map .bl))):GH [.ref n] mh Q↔Q (.bl (bs.any id)) mh:=by
 unfold GH;have e:i7 mh (.ref n)=some (bs.map .bl):=by simp[i7,h]
 constructor
 ·rintro⟨x,c,i,g,d⟩;cases i;rw[e]at g;have j:bs.map D.bl=c.map D.bl:=aIn g;have k:bs=c :=(aLp (f:=D.bl) (λa b e=>by injection e)).mp j;subst k;exact d
 ·intro d;exact⟨_,bs,rfl,e,d⟩
end D3
namespace L2
open PySem PySem.Spec PyProof.Rows
open Builtin Builtin.Str
open AutoSeq1 (wpAny_loadPart')
end L2
namespace D3
open PySem PySem.Spec PyProof.Rows L2
end D3
namespace L2
open PySem PySem.Spec PyProof.Rows
end L2
namespace D3
open PySem PySem.Spec PyProof.Rows L2
end D3
namespace L2
open PySem PySem.Spec PyProof.Rows
section
variable {prog:Program}{w:World}{A:Around}{E:aLx}{s:Shared}
def enO(f0:Value)(it:Addr)(i:Nat)(old:Value):Obj:={cls:= .type "enumerate",dict:=none,data:= .fields #[f0,.bool false,.ref it,rawInt (i:Int),.none,old],slots:= #[]}
structure xB(h:Heap)(e:Addr)(q:Src)(f0:Value)(i:Nat):Prop where
 obj:∃old,h.get? e=some (enO f0 q.it i old)
 at_:q.At h i
variable{e:Addr}{q:Src}{i:Nat}{items:Array Value}
theorem UZ{x:Value}{Q:aLx}(Z:xB s.heap e q .none i)(G:q.Sq s.heap items)(H:items[i]? =some x)(a:e≠q.it)
  (I:∀h',xB h' e q (rawInt s.heap.objs.size) (i+1)->h'.get? s.heap.objs.size=some {cls:= .type "tuple",data:= .seq #[.int i s.toks,x]}->
   (∀b o,b≠e->b≠q.it->s.heap.get? b=some o->h'.get? b=some o)->Q (.ref s.heap.objs.size) {s with heap:=h',toks:=s.toks+1}):
  wpAny (model prog w) A (Builtin.«enumerate.__next__» ⟨[.ref e],[]⟩) (λu J =>∃v,u= .done (.ret v)/\Q v J) E s:=by
 obtain⟨⟨old,he⟩,y⟩:=Z;obtain⟨z,g,d,tk,os⟩:=s;have c:e<z.objs.size:=aHz he;show wpAny _ _ (field (.ref e) 2 >>=_) _ _ _;refine aHs (aIc he rfl (x:= .ref q.it) rfl (aHs (Src.item y G H λm KQ f=>?_)));have B:m.get? e=some (enO .none q.it i old):=(f.2 e a).trans he;show wpAny _ _ (field (.ref e) 3 >>=_) _ _ ⟨m,g,d,tk,os⟩;refine aHs (aIc B rfl (x:=rawInt (i:Int)) rfl ?_);show wpAny _ _ (field (.ref e) 4 >>=_) _ _ ⟨m,g,d,tk,os⟩;refine aHs (aIc B rfl (x:= .none) rfl ?_);show wpAny _ _ (mkInt (i:Int) >>=_) _ _ ⟨m,g,d,tk,os⟩;refine aHs (wpAny_mkInt ?_);show wpAny _ _ (setField (.ref e) 3 (rawInt ((i:Int)+1)) >>=_) _ _ ⟨m,g,d,tk+1,os⟩;refine aHs (aI6 B (by simp) λK L n=>?_);show wpAny _ _ (setField (.ref e) 4 .none >>=_) _ _ ⟨K,g,d,tk+1,os⟩;refine aHs (aI6 L (by simp) λp M r=>?_);show wpAny _ _ (newTuple [.int i tk,x] >>=_) _ _ ⟨p,g,d,tk+1,os⟩;refine aHs (aJn ?_);have hsz:p.objs.size=z.objs.size:=by rw[r.1,n.1,f.1]
 have t:=aHu {cls:= .type "tuple",data:= .seq #[.int i tk,x]} M;have F:(p.push {cls:= .type "tuple",data:= .seq #[.int i tk,x]}).get? z.objs.size=some {cls:= .type "tuple",data:= .seq #[.int i tk,x]}:=by rw[<-hsz];exact aHy _ rfl
 have C:∀b o,b≠e->m.get? b=some o->(p.push {cls:= .type "tuple",data:= .seq #[.int i tk,x]}).get? b=some o:=λb o h D=>aHu _ (r.extBut b o h (n.extBut b o h D));show wpAny _ _ (Builtin.SmallTypes.ownedTupleIsFree (.ref e) >>=_) _ _ _;rw[hsz];generalize p.push {cls:= .type "tuple",data:= .seq #[.int i tk,x]}=h4 at t F C⊢;refine aHs ?_;unfold Builtin.SmallTypes.ownedTupleIsFree;refine aHs (aIc t rfl (x:= .none) rfl (aHt ?_));simp only[if_true];refine aHs (aJ0 (aHs (aIc t rfl (x:=old) rfl (aHs (aI6 t (by simp) λT N j=>?_)))));refine aHs ?_;unfold Builtin.SmallTypes.ownedTupleHandOut;refine aHs (aI6 N (by simp) λU O k=>aI6 O (by simp) λP R l=>aHs (aJr (aHt ⟨_,rfl,I P ⟨⟨x,?_⟩,?_⟩ ?_ ?_⟩)))
 ·exact R
 ·exact KQ.to λo ho=>l.extBut _ _ (aIg a) (k.extBut _ _ (aIg a) (j.extBut _ _ (aIg a) (C _ _ (aIg a) ho)))
 ·exact l.extBut _ _ (aJ4 c) (k.extBut _ _ (aJ4 c) (j.extBut _ _ (aJ4 c) F))
 ·exact λb o h S D=>l.extBut _ _ h (k.extBut _ _ h (j.extBut _ _ h (C _ _ h (f.extBut _ _ S D))))
variable{Q:Option Value->Shared->Prop}
theorem AH{x:Value}(Z:xB s.heap e q .none i)(g:q.Sq s.heap items)(h:items[i]? =some x)(d:e≠q.it)
  (j:∀h',xB h' e q (rawInt s.heap.objs.size) (i+1)->h'.get? s.heap.objs.size=some {cls:= .type "tuple",data:= .seq #[.int i s.toks,x]}->
   (∀b o,b≠e->b≠q.it->s.heap.get? b=some o->h'.get? b=some o)->Q (some (.ref s.heap.objs.size)) {s with heap:=h',toks:=s.toks+1}):
  wpAny (model prog w) A (pyNext (.ref e)) Q E s:=by
 have f:s.TypeIs (.ref e) "enumerate":=by obtain⟨old,he⟩:=Z.obj;exact⟨_,he,rfl⟩
 unfold pyNext
 exact aHs (aJ5 (aI8 (name:=Str.ofString "__next__") f aIw (aI7 aIw f aK7
  (UZ Z g h d λh' a b c=>aHt (j h' a b c)) (aK5 _))))
theorem CY(f:A.handled=none)(Z:xB s.heap e q .none i)(g:q.Sq s.heap items)(h:items[i]? =none)
  (j:∀h',Heap.ExtBut q.it s.heap h' ->Q none {s with heap:=h'}):wpAny (model prog w) A (pyNext (.ref e)) Q E s:=by
 obtain⟨old,he⟩:=Z.obj
 have d:s.TypeIs (.ref e) "enumerate":=⟨_,he,rfl⟩
 unfold pyNext;refine aHs (aJ5 (aI8 (name:=Str.ofString "__next__") d aIw (aI7 aIw d aK7 ?_ (aK5 _))));show wpAny _ _ (field (.ref e) 2 >>=_) _ _ _;refine aHs (aIc he rfl (x:= .ref q.it) rfl (aHs (Src.done f Z.at_ g h λh' x a c =>?_)));obtain⟨o,ho,k⟩:=c;exact aHs (aJs (T:= "StopIteration") (b:=true) ⟨o,ho,k⟩ aL5 (aHt (j _ a)))
theorem aEa{elts:List Expr}{x1}{pos:Pos}{e T:Addr}{Q:Unit->Shared->Prop}(a:e≠q.it)(Z:xB s.heap e q (rawInt T) i)
  (f:∀h',xB h' e q .none i->Heap.SameBut e s.heap h' ->Q () {s with heap:=h'}):wpAny (model prog w) A (letOwnedTupleGo (.Tuple elts x1 pos) (.ref e) (.ref T)) Q E s:=by
 obtain⟨⟨old,he⟩,b⟩:=Z;exact wpAny_letOwnedTupleGo_enum he λh' c d=>f h' ⟨⟨old,c⟩,b.to λo ho=>d.extBut _ _ (aIg a) ho⟩ d
theorem HP{f0:Value}{Q:aLx}(Z:xB s.heap e q f0 i)(h:Q (.ref e) s):wpAny (model prog w) A (pyIter (.ref e)) Q E s:=by
 have a:s.TypeIs (.ref e) "enumerate":=by obtain⟨old,he⟩:=Z.obj;exact⟨_,he,rfl⟩
 refine aJi a aKd (aI7 aKd a F.entry_enumerate_iter ?_ (F.args_enumerate_iter_1 _));exact aHt ⟨_,rfl,"enumerate",_,a,aIw.lookup,h⟩
end
open AutoSeq1 (wpAny_loadPart')
theorem NK(q:Src):Meets (Builtin.«enumerate.__new__» ⟨[.type "enumerate",.ref q.l],[]⟩) (λ_ R s=>(∃items,q.Sq s.heap items)/\
   ∀h' e,s.heap.objs.size<e->xB h' e ⟨s.heap.objs.size,q.l,q.tup⟩ .none 0->(∀b o,s.heap.get? b=some o->h'.get? b=some o)->R (.ok (.ret (.ref e))) {s with heap:=h'}):=
 .of_wp λprog w A R s h=>by
  obtain⟨m,r⟩:=h;obtain⟨items,m⟩:=m;obtain⟨n,g,d,tk,os⟩:=s;have p:=sub_enumerate
  have f:∀a:Heap,(⟨n.objs.size,q.l,q.tup⟩:Src).At a 0->a.objs.size=n.objs.size+1->(∀b o,n.get? b=some o->a.get? b=some o)->
    R (.ok (.ret (.ref a.objs.size))) ⟨a.push {cls:= .type "enumerate",data:= .fields #[.none,.bool false,.ref n.objs.size,rawInt 0,.none,.none]},g,d,tk,os⟩:=λa i k j=>
   r _ _ (by show n.objs.size<_;lia) ⟨⟨.none,aHy _ rfl⟩,i.to λo e=>aHu _ e⟩ λb o e=>aHu _ (j b o e)
  unfold Builtin.«enumerate.__new__»
  wp_walk
  refine wpAny_stack_any λst=>aHt ?_;split
  ·rename_i c _ _ _ _ _;cases (c==Value.type "enumerate")
   ·wp_walk using Src.start m
    intro a i k j
    wp_walk
    exact⟨_,rfl,f a i k j⟩
   ·wp_walk using Src.start m
    intro a i k j
    wp_walk
    exact⟨_,rfl,f a i k j⟩
  ·wp_walk using Src.start m
   intro a i k j
   wp_walk
   exact⟨_,rfl,f a i k j⟩
section
variable {prog:Program}{w:World}{A:Around}{E:aLx}{s:Shared}
theorem VC{q:Src}{Q:aLx}(a:∃items,q.Sq s.heap items)
  (h:∀h' e,s.heap.objs.size<e->xB h' e ⟨s.heap.objs.size,q.l,q.tup⟩ .none 0->(∀b o,s.heap.get? b=some o->h'.get? b=some o)->Q (.ref e) {s with heap:=h'}):
  wpAny (model prog w) A (call (.type "enumerate") [Value.ref q.l]) Q E s:=
 callType_new F.called_enumerate (by decide) (F.typeCall_enumerate_1 _) (F.newCall_enumerate_1 _) (λobj=>F.args_object_init_2 obj _) F.entry_enumerate_new (NK q)
  ⟨a,λh' e t Z k=>⟨by obtain⟨old,he⟩:=Z.obj;exact⟨_,he,rfl⟩,h h' e t Z k⟩⟩
end
def Ite(K:aLw)(a:Addr)(t:Bool):It where
 go:=λi H=>∃xs v,rD K H t a xs/\xs[i]? =some v
 QZ:=λi H x H' =>∃p v,H p=none/\x= .ref p/\H' =upd H p (.tup [.int i,v])/\∀xs,rD K H t a xs->xs[i]? =some v
 stop:=λi H=>∃xs,rD K H t a xs/\xs.length<=i
theorem RA{P:Program}{w:World}{K:aLw}{elts:List Expr}{x1}{pos:Pos}{e:Addr}{q:Src}(f:e≠q.it):
  Turn P w K (.Tuple elts x1 pos) (Ite K q.l q.tup) [e,q.it] e (λi h=>xB h e q .none i) where
 mem:=aHx
 self:=λA i s Q E Z h=>HP Z h
 obj:=λi h Z b a=>by
  simp only[List.mem_cons,List.not_mem_nil,or_false]at a;rcases a with rfl | rfl
  ·obtain⟨old,he⟩:=Z.obj;exact⟨_,he,λv z=>by cases z⟩
  ·obtain⟨o,ho,hd⟩:=Z.at_.obj;exact⟨o,ho,λv z=>by rw[hd]at z;cases z⟩
 keep:=λi h h' Z k=>by
  obtain⟨⟨old,he⟩,KQ⟩:=Z;exact⟨⟨old,k e (by simp) _ he⟩,KQ.to λo ho=>k q.it (by simp) o ho⟩
 item:=by
  intro X n p t C i pins s σ H E I j Z hg;subst n p t;obtain⟨xs,v,m,hi⟩:=hg;obtain⟨aL,F,x⟩:=I.BW m;obtain⟨u,G,r⟩:=F.get hi;refine AH Z (x q.it) (by simpa using G) f λJ L D M=>?_;refine⟨_,rfl,aEa (s:={s with heap:=J,toks:=s.toks+1}) f L λN O d=>?_⟩;have g:e<s.heap.objs.size:=by obtain⟨old,he⟩:=Z.obj;exact aHz he
  have y:q.it<s.heap.objs.size:=by obtain⟨o,ho,_⟩:=Z.at_.obj;exact aHz ho
  have c:s.heap.objs.size≠e:=aJ4 g
  have kk:∀b o,b∉[e,q.it]->s.heap.get? b=some o->N.get? b=some o:=λb o a ho=>by
   simp only[List.mem_cons,List.not_mem_nil,or_false,not_or]at a;exact d.extBut _ _ a.1 (M b o a.1 a.2 ho)
  refine⟨.ref s.heap.objs.size,upd H s.heap.objs.size (.tup [.int i,v]),I.DM (t' :=s.toks+1) j kk (aHw _) ⟨by have:=aIf;simp;lia,[.int i s.toks,u],.cons ⟨_,rfl⟩ (.cons r .nil),⟨_,d.extBut _ _ c D,rfl,0,rfl⟩,λo ho=>by rw[d.extBut _ _ c D]at ho;cases ho;rfl⟩,rfl,?_,O,λb a=>?_⟩
  ·refine⟨s.heap.objs.size,v,I.bJ.fresh (aHw _),rfl,rfl,λT R=>?_⟩;rw[I.nX R m];exact hi
  ·have B:=(j b a).1
   have:b≠s.heap.objs.size:=by
    simp only[List.mem_cons,List.not_mem_nil,or_false]at a;rcases a with rfl | rfl
    ·exact aI4 g
    ·exact aI4 y
   rw[aO this];exact B
 done:=by
  intro X n p t C i pins s σ H E I j Z hg;subst n p t;obtain⟨xs,m,S⟩:=hg;obtain⟨aL,r,x⟩:=I.BW m
  refine CY (I.ok.hd C) Z (x q.it) ?_ λh' kp=>⟨rfl,I.A3 (t' :=s.toks) j λb o a ho=>kp b o (λz=>a (by simp[z])) ho⟩
  have:=r.length;rw[List.getElem?_toArray];exact aJu.mpr (by lia)
def iEn(K:aLw)(c:TA):TI:=λσ H R=>c σ H λvs b=>∃a t,vs=[.ref a]/\(∃xs,rD K b t a xs)/\R (Ite K a t) b
theorem aCc{X:Cx}{e:Expr}{i:TA}{p pos:Pos}{elts:List Expr}{x1}{j:Pos}(hg:Gl X "enumerate")(m:X.mg "enumerate"=none)(n:PA X [e] i)
  (hv:bootBuiltins "enumerate"=some (.type "enumerate"):=by decide+kernel)
  (o:starEach [e] X.env=(false,eval e X.env)::starEach [] X.env:=by rfl):
  PI X (.Tuple elts x1 j) (.Call (.Name "enumerate" p) [e] [] pos) (iEn X.K i):=by
 intro pins s σ H R I h;refine aJ8 (iQ I hg m hv ?_);refine aIt (b6 (n pos pins s σ H _ I h) λus s1 ⟨vs,f,d,r1,q1⟩=>?_) o rfl;obtain⟨a,t,rfl,⟨xs,r⟩,v⟩:=q1;obtain⟨u,rfl,x⟩:=vals1 r1;cases x;obtain⟨aL,_,g⟩:=d.BW r;refine VC (q:=⟨0,a,t⟩) ⟨aL.toArray,g 0⟩ λh' z k Z kp=>?_;have y:Inv X pins σ f {s1 with heap:=h'}:=d.kept (t' :=s1.toks) kp;have T:=RA (P:=X.prog) (w:=X.w) (K:=X.K) (elts:=elts) (x1:=x1) (pos:=j) (e:=z) (q:=⟨s1.heap.objs.size,a,t⟩) (aJ4 k);refine HP Z ⟨z,_,_,Ite X.K a t,f,rfl,y,T,Z,λb l=>?_,v⟩
 have c:s1.heap.objs.size<=b:=by
  simp only[List.mem_cons,List.not_mem_nil,or_false]at l;rcases l with rfl | rfl
  ·exact aJ6 k
  ·exact aHw _
 exact(d.DO c (d.bJ.fresh c):pO X pins f b)
end L2
namespace D3
open PySem PySem.Spec PyProof.Rows L2
def B8(e wi f:WE):WE:=λc mh Q=>e c mh λo b=>∃n,o= .ref n/\(∃kvs,b[n]? =some (.bM false kvs))/\wi c b λi d=>f c d λx a=>∃kvs key,a[n]? =some (.bM false kvs)/\i=aW key/\kvs.length<sizeLine/\
 (∀v,aU kvs i=some v->Q v a)/\(aU kvs i=none->Q x (a.set n (.bM false (putD kvs i x))))
open Classical in
noncomputable def iV(kvs:List (D×D))(k:D):List (D×D):=kvs.filter λp=>decide (p.1≠k)
def GY(d wi:WE):WS:=λE b mh=>d b mh λo c=>wi b c λi a=>∃n kvs key,o= .ref n/\a[n]? =some (.bM false kvs)/\i=aW key/\(aU kvs i).isSome=true/\E.nx b (a.set n (.bM false (iV kvs i)))
theorem DU{K:aLw}{μ:List Addr}{H:Hp}(key:Key):∀{kvs:List (D×D)} {kk:List (Key×V)},kvs.map (·.1)=kk.map (λp=>aW p.1)->IsL K μ H (kvs.map (·.2)) (kk.map (·.2))->
  (iV kvs (aW key)).map (·.1)=(hV kk key).map (λp=>aW p.1)/\IsL K μ H ((iV kvs (aW key)).map (·.2)) ((hV kk key).map (·.2))
 | [],[],_,_=>⟨rfl,by simp[iV,hV,IsL]⟩
 | [],_::_,h,_=>by simp at h
 | _::_,[],h,_=>by simp at h
 | p::kvs,q::kk,h,l=>by
  simp only[List.map_cons,List.cons.injEq]at h;simp only[List.map_cons]at l;unfold IsL at l;obtain⟨w,r,e,i,l⟩:=l;simp only[List.cons.injEq]at e;obtain⟨rfl,rfl⟩:=e;obtain⟨d,f⟩:=DU key h.2 l;by_cases hk:q.1=key
  ·have a:p.1=aW key:=by rw[h.1,hk]
   have b:iV (p::kvs) (aW key)=iV kvs (aW key):=by unfold iV;rw[List.filter_cons_of_neg (by simp[a])]
   have c:hV (q::kk) key=hV kk key:=by unfold hV;rw[List.filter_cons_of_neg (by simp[hk])]
   rw[b,c];exact⟨d,f⟩
  ·have a:¬p.1=aW key:=λz=>hk (kM (h.1.symm.trans z));have b:iV (p::kvs) (aW key)=p::iV kvs (aW key):=by unfold iV;rw[List.filter_cons_of_pos (by simp[a])]
   have c:hV (q::kk) key=q::hV kk key:=by unfold hV;rw[List.filter_cons_of_pos (by simp[hk])]
   rw[b,c];refine⟨by simp[h.1,d],?_⟩;simp only[List.map_cons];unfold IsL;exact⟨_,_,rfl,i,f⟩
section
variable {X:Cx}{o i x:Expr}{wo wi wx:WE}{apos dP pos lK:Pos}
theorem Z7{K:aLw}{μ:List Addr}{mh:MH}{H:Hp}{n:Nat}{v:V}{kvs:List (D×D)}(R:Rep K μ mh H)(h:Is K μ H (.ref n) v)(e:mh[n]? =some (.bM false kvs)):∃a,v= .ref a/\IsD H a:=by
 obtain⟨a,vs,rfl,b,⟨kk,hv,_,_⟩,_⟩:=pJ R h e;exact⟨a,rfl,.inl ⟨kk,.inl hv⟩⟩
theorem SU{t ty A:TE}(ho:PE X o t)(he:PE X i ty)(E:PE X x A)(m:M2 X o "setdefault" apos i x dP):PE X (.Call (.Attribute o "setdefault" apos) [i,x] [] dP)
  (λσ H Q=>t σ H λx j=>∃a,x= .ref a/\IsD j a/\ty σ j λy l=>A σ l λz f=>∃kvs k,f a=some (.dK kvs)/\y=kV k/\kvs.length<sizeLine/\(∀v,gS kvs k=some v->Q v f)/\(gS kvs k=none->Q z (upd f a (.dK (putK kvs k z))))):=by
 intro pins s σ H Q I h;refine wpAny_Call_method m.base m.UW m.line PySem.F.plainAttrs_dict aJp aLi (b6 (ho pins s σ H _ I h) λu s1 n=>?_);obtain⟨x,j,B,G,a,ex,d,q1⟩:=n;subst ex;obtain rfl:u=Value.ref a:=G;obtain⟨J,K,_⟩:=OU B d;refine⟨J,K,?_⟩;rw[m.trees]
 refine aL1 rfl (aLd (aJk (b6 (he pins s1 σ j _ B q1) λY s2 ⟨y,l,L,M,q2⟩=>
  aJk (b6 (E pins s2 σ l _ L q2) λN Z ⟨z,f,p,C,kvs,k,e,O,P,R,S⟩=>aKe ?_))))
 subst O;obtain⟨T,hd,vs,b,D⟩:=IA p.bJ e;have hz:vs.length<=sizeLine:=by rw[<-b.length];exact T
 refine call_meetsIn aJp D.typeIs aLf (aLc _ _ _) (kt_meets_setdefault (aS X.prog X.w) a (qQ M) hd N) ⟨vs,D,hz,λv hv=>?_,λU h' g V=>?_⟩
 ·have c:=b.val k;rw[hv]at c
  cases hvv:gS kvs k with
  | none=>rw[hvv]at c;exact c.elim
  | some r =>rw[hvv]at c;exact⟨r,f,p.tok _,c,R r hvv⟩
 ·have c:=b.val k;rw[U]at c
  cases hvv:gS kvs k with
  | some r =>rw[hvv]at c;exact c.elim
  | none=>
   have W:(putK kvs k z).length<=sizeLine:=by have:=nH kvs k z;lia
   have he:∃q,h'.get? a=some q:=let ⟨q,_,_,hq,_⟩:=g;⟨q,hq⟩;exact⟨z,_,oE p (by rw[e];exact True.intro) V he (FZ W hd (b.put k C) g),C,S hvv⟩
theorem UE(ho:LE X o wo)(hi:LE X i wi)(P:LE X x wx)(base:attributeBase o "setdefault" X.env (eval o X.env)=eval o X.env:=by rfl)
  (UW:((backTo dP (starEach [i,x] X.env)).all (λx=>!x.1) && (backToKw dP (keywordEach [] X.env)).all (λx=>x.1.isSome) && decide (([i,x]:List Expr).length+([]:List Keyword).length+(if ([]:List Keyword).isEmpty then 0 else 1)<30))=true:=by rfl)
  (line:(apos.endLine==dP.line)=true:=by rfl) (trees:backTo dP (starEach [i,x] X.env)=[(false,eval i X.env),(false,eval x X.env)]:=by rfl):
  LE X (.Call (.Attribute o "setdefault" apos) [i,x] [] dP) (B8 wo wi wx):=PE.imp (SU ho hi P ⟨base,UW,line,trees⟩) λσ H Q h=>by
 obtain⟨μ,m,mh,R,p,En,h,F⟩:=h;refine⟨μ,m,mh,_,p,En,h,λS r q s vo H1 t u E=>?_⟩;obtain⟨n,rfl,⟨G,T⟩,q⟩:=q;obtain⟨a,rfl,U⟩:=Z7 u E T;refine⟨a,rfl,U,s,m,r,_,u,En.mono p t,q,λdi y q2 z vi H2 A R2 V=>?_⟩;refine⟨z,m,y,_,R2,En.mono p (t.trans A),q2,λdx B q3 b I C J g L=>?_⟩;obtain⟨kvs,key,e,rfl,hz,W,Y⟩:=q3;obtain⟨a',vs,Z,M,⟨kk,hv,k,rfl⟩,l⟩:=pJ g (Is.mono u (A.trans J) _ _ E) e;cases Z;cases jL V;have N:=F.at ((t.trans A).trans J);have ln:kk.length=kvs.length:=by have:=aJ7 List.length k;simp at this;lia
 refine⟨kk,key,hv,rfl,by lia,λv c=>?_,λc=>?_⟩
 ·rcases jI key k l with ⟨d,j⟩ | ⟨d',w,d,j,O⟩
  ·rw[c]at d;cases d
  ·rw[c]at d;cases d;exact N.here g (W d' j) O
 ·rcases jI key k l with ⟨d,j⟩ | ⟨d',w,d,j,O⟩
  ·have D:aJ b C b (upd C a (.dK (putK kk key I))):=aJ.set g M;obtain⟨p1,p2⟩:=zW (f:=aW) kM key L k l;have R4:Rep X.K b (B.set n (.bM false (putD kvs (aW key) dx))) (upd C a (.dK (putK kk key I))):=uJ g M (by trivial) ⟨_,⟨_,aR,p1,rfl⟩,p2.mono g D⟩;exact N _ _ (Y j) b _ _ D R4 (Is.mono g D _ _ L)
  ·rw[c]at d;cases d
theorem T4(ho:LE X o wo)(hi:LE X i wi):LS X (.Delete [.Subscript o i lK] pos) (GY wo wi):=PS.imp (SK ho hi) λD σ H h=>by
 obtain⟨μ,d,mh,E,R,En,h,F⟩:=h;refine⟨μ,d,mh,_,R,En,h,λz f q g J L m p A=>?_⟩;refine⟨g,d,f,_,p,En.mono R m,q,λM j q2 b N k r R2 B=>?_⟩;obtain⟨n,kvs,key,rfl,e,rfl,s,q⟩:=q2;obtain⟨a,vs,rfl,t,⟨kk,hv,u,rfl⟩,l⟩:=pJ R2 (Is.mono p r _ _ A) e;cases jL B;have v:aJ b k b (upd k a (.dK (hV kk key))):=aJ.set R2 t;obtain⟨C,G⟩:=DU key u l;have I:Rep X.K b (j.set n (.bM false (iV kvs (aW key)))) (upd k a (.dK (hV kk key))):=uJ R2 t (by trivial) ⟨_,⟨_,aR,C,rfl⟩,G.mono R2 v⟩;have c:=(m.trans r).trans v;refine⟨a,kk,key,rfl,hv,rfl,?_,F.nx d _ q b σ _ c I (En.mono R c)⟩
 rcases jI key u l with ⟨x,y⟩ | ⟨d',w,x,y,O⟩
 ·rw[y]at s;cases s
 ·rw[x];rfl
@[simp] theorem aGm {c:dY}{mh:MH}{Q:DK}:B8 wo wi wx c mh Q↔wo c mh λo b=>∃n,o= .ref n/\(∃kvs,b[n]? =some (.bM false kvs))/\wi c b λi d=>wx c d λx a=>∃kvs key,a[n]? =some (.bM false kvs)/\i=aW key/\kvs.length<sizeLine/\
 (∀v,aU kvs i=some v->Q v a)/\(aU kvs i=none->Q x (a.set n (.bM false (putD kvs i x)))):=Iff.rfl
@[simp] theorem aGp {b:dY}{mh:MH}{E:i5}:GY wo wi E b mh=(wo b mh λo c=>wi b c λi a=>∃n kvs key,o= .ref n/\a[n]? =some (.bM false kvs)/\i=aW key/\(aU kvs i).isSome=true/\E.nx b (a.set n (.bM false (iV kvs i)))):=rfl
end
theorem Y1{X:Cx}(i j:Nat){x y:Str}{a b:Expr}{t:WA}{k l pt pos:Pos}{m n:Nat}{c:Pos}(A:X.calm=true)(hN:X.N.Nodup)(B:LA X [a,b] t)(hi:X.N[i]? =some x:=by rfl)(C:X.N[j]? =some y:=by rfl)(o:i≠j:=by decide)
  (G:X.env.scope.names.lookup x=some .local:=by rfl) (I:X.env.scope.names.lookup y=some .local:=by rfl)
  (J:swappedStores [.Tuple [.Name x k,.Name y l] m pt] (.Tuple [a,b] n c) X.env=pure (some [x,y]):=by rfl)
  (K:swapsWithSole [.Tuple [.Name x k,.Name y l] m pt] (.Tuple [a,b] n c) pos.line X.env=pure false:=by rfl):
  LS X (.Assign [.Tuple [.Name x k,.Name y l] m pt] (.Tuple [a,b] n c) pos) (bI (mJ t) (gT 2 (cA (gN i) (cA (gN j) kN)))):=
 PS.imp (XS A hN hi C o G I B J K) λD σ H h=>by
  obtain⟨μ,L,mh,E,u,En,h,F⟩:=h;refine⟨μ,L,mh,_,u,En,h,λds p M s vs O w P f=>?_⟩;obtain⟨_,Q,e,T,d,r,rfl,U,r2,rfl,rfl,q⟩:=M;cases e;unfold IsL at f;obtain⟨v,V,rfl,f,g⟩:=f;unfold IsL at g;obtain⟨R,S,rfl,g,z⟩:=g;unfold IsL at z;subst z;exact⟨v,R,rfl,F.nx _ p q s _ O w P (((En.mono u w).set i f).set j g)⟩
abbrev cF(P:Program)(W:World)(K:aLw)(mg:aLz)(base:Heap)(N:List Str)(q:Str)(S:Stmt)(f:Addr)(a:Value)(A:Around)(o:List Env)(s:Shared)(H:Hp)(E:XK):Cx:=(wJ EF P W K mg base N q (aF S) f a A o s H E).TH
section
variable {P:Program}{W:World}{K:aLw}{mg:aLz}{base:Heap}{N:List Str}{q:Str}{S:Stmt}{f:Addr}{cd:Value}{A:Around}{o:List Env}{s:Shared}{H:Hp}{E:XK}
 {tg iter elt:Expr} {ifs:List Expr} {scope:Scope} {pos:Pos} {wi:WI} {g:TG} {gd:WG} {t:WT} {w:WE} (own:List Str) (aE:List Nat)
def cN(N own:List Str)(aE:List Nat):List Str:=own++aE.map λi=>N.getD i ""
theorem ZH(chk:cB N (aF S) scope aE=true)(nd:(cN N own aE).Nodup)(a:gY K g gd)(ho:kW own.length g)
  (hi:LI (cF P W K mg base N q S f cd A o s H E) tg iter wi)
  (hg:(cN N own aE).Nodup->∀cl C fp s₀ H₀,PG (aH (cF P W K mg base N q S f cd A o s H E) own aE scope cl C fp s₀ H₀) tg g) (ht:∀cl C fp s₀ H₀,BX (aH (cF P W K mg base N q S f cd A o s H E) own aE scope cl C fp s₀ H₀) ifs t)
  (he:∀cl C fp s₀ H₀,LE (aH (cF P W K mg base N q S f cd A o s H E) own aE scope cl C fp s₀ H₀) elt w)
  (b:∀x,foldedSetIterable iter (cF P W K mg base N q S f cd A o s H E).env x=pure x:=by intro _;rfl):LE (cF P W K mg base N q S f cd A o s H E) (.ListComp elt [⟨tg,iter,ifs,0⟩] scope pos) (oV own aE wi gd t w):=
 WM (N:=N) (sc:=aF S) own aE rfl rfl chk rfl hi ho a (hg nd) ht he b
theorem JP{i:Nat}{x:Str}{a c:Pos}(chk:cB N (aF S) scope aE=true)(nd:(cN N own aE).Nodup)(d:gY K g gd)(ho:kW own.length g)
  (hN:N.Nodup) (hi:LI (cF P W K mg base N q S f cd A o s H E) tg iter wi)
  (hg:(cN N own aE).Nodup->∀cl C fp s₀ H₀,PG (aH (cF P W K mg base N q S f cd A o s H E) own aE scope cl C fp s₀ H₀) tg g) (ht:∀cl C fp s₀ H₀,BX (aH (cF P W K mg base N q S f cd A o s H E) own aE scope cl C fp s₀ H₀) ifs t)
  (he:∀cl C fp s₀ H₀,LE (aH (cF P W K mg base N q S f cd A o s H E) own aE scope cl C fp s₀ H₀) elt w)
  (b:N[i]? =some x:=by rfl) (e:Loc (cF P W K mg base N q S f cd A o s H E).env.scope x:=by first | exact Or.inl rfl | exact Or.inr rfl) (h:swapsWith (.ListComp elt [⟨tg,iter,ifs,0⟩] scope pos) (some (.Name x a)) c.line (cF P W K mg base N q S f cd A o s H E).env=pure true:=by rfl)
  (j:(cF P W K mg base N q S f cd A o s H E).fn x=true\/(cF P W K mg base N q S f cd A o s H E).env.scope.names.lookup x=some .local:=by first | exact .inl rfl | exact .inr rfl | assumption)
  (k:∀x,foldedSetIterable iter (cF P W K mg base N q S f cd A o s H E).env x=pure x:=by intro _;rfl):LS (cF P W K mg base N q S f cd A o s H E) (.Assign [.Name x a] (.ListComp elt [⟨tg,iter,ifs,0⟩] scope pos) c) (bI (oV own aE wi gd t w) (gN i)):=
 NU i hN (N:=N) (sc:=aF S) own aE rfl rfl chk rfl hi ho d (hg nd) ht he b e h j k
theorem UD{o1:Nat}{a d:Expr}{p:List Expr}{b:WI}{e:TG}{c:WG}{r:WT}(chk:cB N (aF S) scope aE=true)(nd:(cN N own aE).Nodup)(u:gY K g gd)(h:gY K e c)(i:o1<=own.length)(ho:kW o1 g)
  (j:GIn o1 own.length e) (hi:LI (cF P W K mg base N q S f cd A o s H E) tg iter wi)
  (hg:(cN N own aE).Nodup->∀cl C fp s₀ H₀,PG (aH (cF P W K mg base N q S f cd A o s H E) own aE scope cl C fp s₀ H₀) tg g) (ht:∀cl C fp s₀ H₀,BX (aH (cF P W K mg base N q S f cd A o s H E) own aE scope cl C fp s₀ H₀) ifs t)
  (k:∀cl C fp s₀ H₀,LI (aH (cF P W K mg base N q S f cd A o s H E) own aE scope cl C fp s₀ H₀) a d b)
  (l:(cN N own aE).Nodup->∀cl C fp s₀ H₀,PG (aH (cF P W K mg base N q S f cd A o s H E) own aE scope cl C fp s₀ H₀) a e) (m:∀cl C fp s₀ H₀,BX (aH (cF P W K mg base N q S f cd A o s H E) own aE scope cl C fp s₀ H₀) p r)
  (he:∀cl C fp s₀ H₀,LE (aH (cF P W K mg base N q S f cd A o s H E) own aE scope cl C fp s₀ H₀) elt w)
  (v:∀x,foldedSetIterable iter (cF P W K mg base N q S f cd A o s H E).env x=pure x:=by intro _;rfl) (n:∀env x,foldedSetIterable d env x=pure x:=by intro _ _;rfl):
  LE (cF P W K mg base N q S f cd A o s H E) (.ListComp elt [⟨tg,iter,ifs,0⟩,⟨a,d,p,0⟩] scope pos) (K3 own aE wi gd t b c r w):=
 ZJ (N:=N) (sc:=aF S) own o1 aE rfl rfl chk rfl hi i ho u j h (hg nd) ht k (l nd) m he v n
end
def nU:HO->Nat
 | .dK kk=>kk.length
 | .dT kk=>kk.length
 | _=>0
def QK:HO->Nat->Hp->V->Prop
 | .dK kk,i,_,x=>∃p,kk[i]? =some p/\x=kV p.1
 | .dT kk,i,H,x=>∃p b,kk[i]? =some p/\x= .ref b/\H b=some (.tup (p.1.map kV))
 | _,_,_,_=>False
def A0:HO->Prop
 | .dK _=>True
 | .dT _=>True
 | _=>False
def Itd(a:Addr)(ob:Obj):It where
 go:=λi H=>∃u,H a=some (.tP ob u)/\A0 u/\i<nU u
 QZ:=λi H x H' =>H' =H/\∃u,H a=some (.tP ob u)/\QK u i H x
 stop:=λi H=>∃u,H a=some (.tP ob u)/\A0 u/\nU u<=i
theorem OF{H:Hp}:∀{kk:List (List Key×V)} {xs:List (List Key×Addr×Value)} {i:Nat},KT H kk xs->i<kk.length->∃p q,kk[i]? =some p/\xs[i]? =some q/\H q.2.1=some (.tup (p.1.map kV))
 | _,_,_,.nil,h=>by simp at h
 | _,_,0,.cons r _,h=>⟨_,_,rfl,rfl,r.2.1⟩
 | _,_,i+1,.cons _ t,h=>by
  obtain⟨p,q,a,b,c⟩:=OF (i:=i) t (by simpa using h);exact⟨p,q,by simpa using a,by simpa using b,c⟩
theorem OE{H:Hp}:∀{kk:List (List Key×V)} {xs:List (List Key×Addr×Value)},KT H kk xs->kk.length=xs.length
 | _,_,.nil=>rfl
 | _,_,.cons _ t=>by simp[OE t]
variable{es:Array DictEntry}
theorem OH{P:Program}{w:World}{H:Hp}{h:Heap}{a:Addr}{ob:Obj}{ep:Nat}{u:HO}(m:A0 u)(ok:cV P w H h a u)(ho:h.get? a=some ob)(hd:ob.data= .dict es ep):
  es.size=nU u/\∀i,i<nU u->∃e x,es[i]? =some e/\RelV x e.key/\QK u i H x:=by
 cases u with
 | dK kk=>
  obtain⟨z,n,vs,r,o,f,g,b,s,c,j,k,C⟩:=ok;rw[ho]at b;cases b;rw[hd]at c;cases c;have V:=pE k r;have d:=V.length;simp at d;refine⟨d.symm,λi hi=>?_⟩
  replace hi:i<kk.length:=hi
  obtain⟨y,l,t⟩:=V.get (i:=i) (x:=kV kk[i].1) (by simp[hi]);rw[List.getElem?_map,Option.map_eq_some_iff]at l;obtain⟨e,he,rfl⟩:=l;exact⟨e,_,by simpa using he,t,kk[i],by simp[hi],rfl⟩
 | dT kk=>
  obtain⟨z,n,xs,r,o,f,g,b,s,c,j,k⟩:=ok;rw[ho]at b;cases b;rw[hd]at c;cases c;have d:=aJ7 List.length j;simp at d;have hk:=OE r;refine⟨by rw[d];exact hk.symm,λi hi=>?_⟩;obtain⟨p,q,v,A,B⟩:=OF r hi;have:es.toList[i]? =some (entryOfKey (tupleKind (aS P w)) q):=by rw[j,List.getElem?_map,A];rfl
  exact⟨entryOfKey (tupleKind (aS P w)) q,.ref q.2.1,by simpa using this,rfl,p,q.2.1,v,rfl,B⟩
 | _=>exact m.elim
theorem LC{P:Program}{w:World}{K:aLw}{tg:Expr}(it a:Addr){ob:Obj}{ep:Nat}(C:ob.ExactDict)(hd:ob.data= .dict es ep):Turn P w K tg (Itd a ob) [it] it (λi h=>Heap.IsKeyIter h it a i es.size ep) where
 mem:=by simp
 obj:=λi h st b f=>by
  have e:b=it:=by simpa using f
  subst e;obtain⟨o,e,c,d⟩:=st;exact⟨o,e,λv z=>by rw[d]at z;cases z⟩
 keep:=λi h h' st k=>st.at λo e=>k it (by simp) o e
 item:=by
  intro X p q r D i pins s σ H E I m st hg;subst p q r;obtain⟨u,n,g,hi⟩:=hg
  obtain⟨j,t⟩:=(show s.heap.get? a=some ob/\cV X.prog X.w H s.heap a u from I.bJ a _ n)
  obtain⟨e,x,F,r1,G⟩:=(OH g t j hd).2 i hi;obtain⟨f0,f1,J,y,A,B⟩:=m it (by simp);refine CL st ⟨ob,j,C,hd⟩ F λh' l L=>?_;have M:Inv X pins σ H {s with heap:=h'}:=I.turned (t' :=s.toks) (λb o f e=>(L.2 b f).trans e) f0 f1 y A B;obtain⟨o,e,c,d⟩:=id l;exact⟨_,rfl,HU (s:={s with heap:=h'}) e c d (by decide) ⟨x,H,M,r1,⟨rfl,u,n,G⟩,l,λb f=>(m b f).1⟩⟩
 done:=by
  intro X p q r D i pins s σ H E I m st hg;subst p q r;obtain⟨u,n,g,hi⟩:=hg
  obtain⟨j,t⟩:=(show s.heap.get? a=some ob/\cV X.prog X.w H s.heap a u from I.bJ a _ n)
  have hz:=(OH g t j hd).1;obtain⟨f0,f1,J,y,A,B⟩:=m it (by simp)
  exact G7 (I.ok.hd D) st ⟨ob,j,C,hd⟩ (by simp;lia) λh' N=>⟨rfl,I.turned (t' :=s.toks) (λb o f e=>N b o f e) f0 f1 y A B⟩
 self:=λ_ _ _ _ _ st h=>wpAny_pyIter_keyiter st h
theorem DX{K:aLw}{μ:List Addr}{mh:MH}{H:Hp}{n:Nat}{a:Addr}{o:MO}{ob:HO}(R:Rep K μ mh H)(h:μ[n]? =some a)(l:nS K μ (upd H a ob) o a):Rep K μ (mh.set n o) (upd H a ob):=by
 have P:aJ μ H μ (upd H a ob):=aJ.set R h;refine⟨by simp[R.len],R.nd,λm b f d e=>?_⟩;by_cases c:m=n
 ·subst c;rw[h]at d;cases d;have g:m<mh.length:=by rw[<-R.len];exact(aHv.mp h).1
  rw[List.getElem?_set_self g]at e;cases e;exact l
 ·rw[List.getElem?_set_ne (Ne.symm c)]at e;exact(R.obj m b f d e).mono R P (aO λz=>c (HD R.nd d (by rw[z];exact h)))
def oW(w:WE):WI:=λb mh Q=>w b mh λx a=>∃n t kvs,x= .ref n/\((a[n]? =some (.bM t kvs)/\∀ob,Q (kvs.map (·.1)) (λmh' =>mh'[n]? =some (.gD t kvs ob)) (a.set n (.gD t kvs ob)))\/
 ∃ob,a[n]? =some (.gD t kvs ob)/\Q (kvs.map (·.1)) (λmh' =>mh'[n]? =some (.gD t kvs ob)) a)
section
variable {K:aLw}{μ:List Addr}{mh:MH}{H:Hp}{n:Nat}{a:Addr}{t:Bool}{kvs:List (D×D)}{ob:Obj}
theorem qY{u:HO}{ks:List D}{vs:List V}(h:tH (some u) ks vs t):A0 u/\nU u=ks.length:=by
 cases t with
 | false=>obtain⟨kk,e,rfl,_⟩:=h;cases e;exact⟨trivial,by simp[nU]⟩
 | true=>obtain⟨kk,e,rfl,_⟩:=h;cases e;exact⟨trivial,by simp[nU]⟩
theorem OJ{u:HO}{ks:List D}{vs:List V}{i:Nat}{d:D}{x:V}(h:tH (some u) ks vs t)(hd:ks[i]? =some d)(k:QK u i H x):Is K μ H d x:=by
 cases t with
 | false=>
  obtain⟨kk,e,rfl,_⟩:=h;cases e;obtain⟨p,a,rfl⟩:=k;rw[List.getElem?_map,a]at hd;cases hd;exact OQ _
 | true=>
  obtain⟨kk,e,rfl,_⟩:=h;cases e;obtain⟨p,b,a,rfl,c⟩:=k;rw[List.getElem?_map,a]at hd;cases hd;unfold Is;exact⟨b,_,rfl,.inl c,uG _⟩
theorem Z5(o:μ[n]? =some a)(hz:kvs.length<=sizeLine):GL K μ H (kvs.map (·.1)) (λmh' =>mh'[n]? =some (.gD t kvs ob)) (Itd a ob):=by
 refine⟨by simpa using hz,λμ' mh' H' g c h i d e=>?_,λμ' mh' H' g c h=>?_⟩
 ·obtain⟨vs,u,hv,f,l⟩:=c.obj n a _ (g.get o) h;obtain⟨j,m⟩:=qY f;refine⟨⟨u,hv,j,by rw[m];exact(aHv.mp e).1⟩,λx H'' y=>?_⟩;obtain⟨rfl,p,b,k⟩:=y;rw[hv]at b;cases b;exact⟨aJ.refl,c,OJ f e k⟩
 ·obtain⟨vs,u,hv,f,l⟩:=c.obj n a _ (g.get o) h;obtain⟨j,m⟩:=qY f;exact⟨u,hv,j,by rw[m];exact aHw _⟩
theorem freeze{X:Cx}{pins:List (Addr×Obj)}{σ:L2.St}{s:Shared}{u:HO}(I:Inv X pins σ H s)(e:H a=some u)(j:A0 u):
  ∃ob es ep,s.heap.get? a=some ob/\ob.ExactDict/\ob.data= .dict es ep/\(a==sysModules)=false/\Inv X pins σ (upd H a (.tP ob u)) s:=by
 have ok:=I.bJ a u e
 obtain⟨ob,es,ep,c,g,h,i⟩:∃ob es ep,s.heap.get? a=some ob/\ob.ExactDict/\ob.data= .dict es ep/\(a==sysModules)=false:=by
  cases u with
  | dK kk=>obtain⟨z,i,vs,r,o,d,f,c,g,h,_⟩:=ok;exact⟨o,d,f,c,g,h,i⟩
  | dT kk=>obtain⟨z,i,xs,r,o,d,f,c,g,h,_⟩:=ok;exact⟨o,d,f,c,g,h,i⟩
  | _=>exact j.elim
 have k:GK (H a):=by rw[e];cases u <;> first | exact j.elim | trivial
 refine⟨ob,es,ep,c,g,h,i,?_⟩;refine I.write (t' :=s.toks) (h' :=s.heap) k (.inl rfl) (λb u _ q=>q) ⟨ob,c⟩ ⟨c,?_⟩;refine ok.xE (λb u _ q=>q) (λb q=>?_) λb xs q=>?_
 ·rw[aO (λz=>by subst z;rw[e]at q;cases q;exact j)];exact q
 ·rw[aO (λz=>by subst z;rw[e]at q;cases q;exact j)];exact q
end
section
variable {X:Cx}{tg l:Expr}{w:WE}
theorem Y8(Y:LE X l w):LI X tg l (oW w):=by
 intro pins s σ H R I h;obtain⟨μ,Z,mh,S,RR,En,h,F⟩:=h
 refine b6 (Y pins s σ H (λv j=>∃c x f,aJ μ H c j/\Rep X.K c f j/\Is X.K c j x v/\∃n t kvs,x= .ref n/\((f[n]? =some (.bM t kvs)/\∀ob,S (kvs.map (·.1)) (λmh' =>mh'[n]? =some (.gD t kvs ob)) (f.set n (.gD t kvs ob)))\/
  ∃ob,f[n]? =some (.gD t kvs ob)/\S (kvs.map (·.1)) (λmh' =>mh'[n]? =some (.gD t kvs ob)) f)) I ⟨μ,Z,mh,_,RR,En,h,λd f q c v j O y E=>⟨c,d,f,O,y,E,q⟩⟩) λv s1 zz=>?_
 obtain⟨x,j,E,r1,c,dx,f,O,y,ix,n,t,kvs,rfl,q⟩:=zz;obtain⟨a,J,rfl⟩:=jV ix;cases r1
 have L:∀{G:Hp} {B:MH} {ob:Obj} {es:Array DictEntry} {ep:Nat},Inv X pins σ G s1->aJ μ H c G->Rep X.K c B G->s1.heap.get? a=some ob->ob.ExactDict->ob.data= .dict es ep->(a==sysModules)=false->kvs.length<=sizeLine->
   S (kvs.map (·.1)) (λmh' =>mh'[n]? =some (.gD t kvs ob)) B->wpAny (model X.prog X.w) X.A (pyIter (.ref a)) (PIE X pins σ tg R) X.xe s1:=λ{G B ob es ep} M P R2 k g i T hz q=>by
  refine CK T ⟨ob,k,g,i⟩ ?_;refine⟨s1.heap.objs.size,[s1.heap.objs.size],_,_,G,rfl,M.kept (t' :=s1.toks) λb o e=>aHu _ e,LC _ a g i,⟨_,aHy _ rfl,rfl,rfl⟩,λb hb=>?_,F _ _ _ q c _ G P R2 (Z5 J hz)⟩;have e:b=s1.heap.objs.size:=by simpa using hb
  subst e;exact M.DO (aHw _) (M.bJ.fresh (aHw _))
 rcases q with ⟨e,q⟩ | ⟨ob,e,q⟩
 ·obtain⟨vs,hv,V⟩:=y.obj n a _ J e
  obtain⟨u,W,Q⟩:∃u,j a=some u/\tH (some u) (kvs.map (·.1)) vs t:=by
   cases t with
   | false=>obtain⟨kk,z,r⟩:=hv;exact⟨_,z,kk,rfl,r⟩
   | true=>obtain⟨kk,z,r⟩:=hv;exact⟨_,z,kk,rfl,r⟩
  obtain⟨m,p⟩:=qY Q;obtain⟨ob,es,ep,k,g,i,T,M⟩:=freeze E W m
  have hz:kvs.length<=sizeLine:=by
   have ok:=E.bJ a u W
   cases u with
   | dK kk=>
    obtain⟨z,_⟩:=ok;have:kk.length=kvs.length:=by simpa[nU] using p
    lia
   | dT kk=>
    obtain⟨z,_⟩:=ok;have:kk.length=kvs.length:=by simpa[nU] using p
    lia
   | _=>exact m.elim
  have P:aJ c j c (upd j a (.tP ob u)):=aJ.set y J;exact L M (O.trans P) (DX (o:= .gD t kvs ob) y J ⟨vs,u,aR,Q,IsL.mono y P _ vs V⟩) k g i T hz (q ob)
 ·obtain⟨vs,u,hv,Q,V⟩:=y.obj n a _ J e;obtain⟨m,p⟩:=qY Q
  obtain⟨U,ok⟩:=(show s1.heap.get? a=some ob/\cV X.prog X.w j s1.heap a u from E.bJ a _ hv)
  obtain⟨es,ep,g,i,N,hz⟩:∃es ep,ob.ExactDict/\ob.data= .dict es ep/\(a==sysModules)=false/\nU u<=sizeLine:=by
   cases u with
   | dK kk=>obtain⟨z,N,vs,r,o,C,D,k,g,i,_⟩:=ok;rw[U]at k;cases k;exact⟨C,D,g,i,N,z⟩
   | dT kk=>obtain⟨z,N,xs,r,o,C,D,k,g,i,_⟩:=ok;rw[U]at k;cases k;exact⟨C,D,g,i,N,z⟩
   | _=>exact m.elim
  exact L E O y U g i N (by rw[p]at hz;simpa using hz) q
end
def kOk:Bool->D->Prop
 | false,y=>∃key,y=aW key
 | true,y=>∃ks:List Key,y= .tup (ks.map aW)
def iE(mh:MH)(n:Nat)(t:Bool)(kvs:List (D×D)):Prop:=mh[n]? =some (.bM t kvs)\/∃ob,mh[n]? =some (.gD t kvs ob)
theorem kG{K:aLw}{μ:List Addr}{H:Hp}(key:List Key):∀{kvs:List (D×D)} {kk:List (List Key×V)},kvs.map (·.1)=kk.map (λp=>.tup (p.1.map aW))->IsL K μ H (kvs.map (·.2)) (kk.map (·.2))->
  (gS kk key=none/\aU kvs (.tup (key.map aW))=none)\/∃d v,gS kk key=some v/\aU kvs (.tup (key.map aW))=some d/\Is K μ H d v
 | [],[],_,_=>.inl ⟨rfl,rfl⟩
 | [],_::_,h,_=>by simp at h
 | _::_,[],h,_=>by simp at h
 | p::kvs,q::kk,h,l=>by
  simp only[List.map_cons,List.cons.injEq]at h;simp only[List.map_cons]at l;unfold IsL at l;obtain⟨w,r,e,i,l⟩:=l;simp only[List.cons.injEq]at e;obtain⟨rfl,rfl⟩:=e;by_cases hk:q.1=key
  ·right;have c:p.1= .tup (key.map aW):=by rw[h.1,hk]
   exact⟨p.2,q.2,m3 hk,by simp[aU,c],i⟩
  ·have c:¬p.1= .tup (key.map aW):=λz=>hk (by
    have:=h.1.symm.trans z;simp only[D.tup.injEq]at this
    exact(aLp (f:=aW) λa b e=>kM e).mp this)
   rw[m4 hk];simp only[aU,if_neg c];exact kG key h.2 l
section
variable {X:Cx}{pins:List (Addr×Obj)}{σ:L2.St}{H:Hp}{s:Shared}{a:Addr}
theorem jP{μ:List Addr}{mh:MH}{n:Nat}{t:Bool}{kvs:List (D×D)}{v:V}(R:Rep X.K μ mh H)(h:Is X.K μ H (.ref n) v)(e:iE mh n t kvs):∃a vs u,v= .ref a/\Rd H a u/\tH (some u) (kvs.map (·.1)) vs t/\IsL X.K μ H (kvs.map (·.2)) vs:=by
 obtain⟨a,q,rfl⟩:=jV h;rcases e with e | ⟨ob,e⟩
 ·obtain⟨vs,hv,l⟩:=R.obj n a _ q e
  cases t with
  | false=>obtain⟨kk,z,r⟩:=hv;exact⟨a,vs,_,rfl,.inl z,⟨kk,rfl,r⟩,l⟩
  | true=>obtain⟨kk,z,r⟩:=hv;exact⟨a,vs,_,rfl,.inl z,⟨kk,rfl,r⟩,l⟩
 ·obtain⟨vs,u,hv,b,l⟩:=R.obj n a _ q e;exact⟨a,vs,u,rfl,.inr ⟨ob,hv⟩,b,l⟩
theorem AV{b:Addr}{ks:List Key}(I:Inv X pins σ H s)(e:uL X.K H b (ks.map kV)):(tupleKind (aS X.prog X.w)).is s.heap ks b:=by
 obtain⟨aL,r,⟨o,a,c,n,d⟩,_⟩:=I.tuple e;exact⟨o,aL.toArray,n,a,c,d,by simpa using rX r⟩
def JJ:O2:=λy x mh Q=>∃n t kvs,x= .ref n/\iE mh n t kvs/\kOk t y/\Q (.bl (aU kvs y).isSome) mh
def uC:O2:=λy x mh Q=>∃n t kvs,x= .ref n/\iE mh n t kvs/\kOk t y/\Q (.bl !(aU kvs y).isSome) mh
theorem YL(G:X.A.units+64<cLine):dW X (compareOp .In) (bC X.K JJ):=by
 intro pins s σ H y x u v Q I i r q;obtain⟨μ,mh,J,dx,R,f,j,B,⟨n,t,kvs,rfl,e,hk,q⟩,F⟩:=q;obtain⟨a,vs,L,rfl,k,m,l⟩:=jP f B e;cases r
 cases t with
 | false=>
  obtain⟨kk,z,g,rfl⟩:=m;cases z;obtain⟨key,rfl⟩:=hk;cases jL j;refine aHj (by lia) I (.inl ⟨kk,key,k,rfl,rfl⟩) i λM o =>?_
  rcases jI key g l with ⟨c,d⟩ | ⟨d',w,c,d,C⟩
  ·rw[c];rw[d]at q;exact⟨.bl false,H,o,rfl,F.here f q .bl⟩
  ·rw[c];rw[d]at q;exact⟨.bl true,H,o,rfl,F.here f q .bl⟩
 | true=>
  obtain⟨kk,z,g,rfl⟩:=m;cases z;obtain⟨ks,rfl⟩:=hk;obtain⟨b,N,rfl,sq,D⟩:=dS j;cases f9 D;cases i;obtain⟨z,hd,xs,h,E⟩:=qW I.bJ k;refine wpAny_in_heap (aJl (by lia)) (AV I sq) hd E ?_;have p:=(h.val ks).eW;rw[Option.isSome_map]at p;rw[<-p]
  rcases kG ks g l with ⟨c,d⟩ | ⟨d',w,c,d,C⟩
  ·rw[c];rw[d]at q;exact⟨.bl false,H,I.tok _,rfl,F.here f q .bl⟩
  ·rw[c];rw[d]at q;exact⟨.bl true,H,I.tok _,rfl,F.here f q .bl⟩
theorem JF(G:X.A.units+64<cLine):dW X (compareOp .NotIn) (bC X.K uC):=by
 intro pins s σ H y x u v Q I i r q;obtain⟨μ,mh,J,dx,R,f,j,B,⟨n,t,kvs,rfl,e,hk,q⟩,F⟩:=q;obtain⟨a,vs,L,rfl,k,m,l⟩:=jP f B e;cases r
 cases t with
 | false=>
  obtain⟨kk,z,g,rfl⟩:=m;cases z;obtain⟨key,rfl⟩:=hk;cases jL j;refine U4 (by lia) I (.inl ⟨kk,key,k,rfl,rfl⟩) i λM o =>?_
  rcases jI key g l with ⟨c,d⟩ | ⟨d',w,c,d,C⟩
  ·rw[c];rw[d]at q;exact⟨.bl true,H,o,rfl,F.here f q .bl⟩
  ·rw[c];rw[d]at q;exact⟨.bl false,H,o,rfl,F.here f q .bl⟩
 | true=>
  obtain⟨kk,z,g,rfl⟩:=m;cases z;obtain⟨ks,rfl⟩:=hk;obtain⟨b,N,rfl,sq,D⟩:=dS j;cases f9 D;cases i;obtain⟨z,hd,xs,h,E⟩:=qW I.bJ k;refine wpAny_notIn_heap (aJl (by lia)) (AV I sq) hd E ?_;have p:=(h.val ks).eW;rw[Option.isSome_map]at p;rw[<-p]
  rcases kG ks g l with ⟨c,d⟩ | ⟨d',w,c,d,C⟩
  ·rw[c];rw[d]at q;exact⟨.bl true,H,I.tok _,rfl,F.here f q .bl⟩
  ·rw[c];rw[d]at q;exact⟨.bl false,H,I.tok _,rfl,F.here f q .bl⟩
end
open PySem.Calls
theorem aFb{l:PySem.W.OpenLaw}{q:Program}{loose:List Str}{K:Params->aLw}{as:List Addr}{d:DefRec}{a:List (Str×Expr)}{N:Nat}(ok:l.wellSaid=true)(e:∀P,as=(K P).map (·.1))
  (left:PySem.W.LeftO l.prog q loose (λ_=>true) (λs=>as.map s.heap.get?) (λw=>(K w.params).map λp=>some p.2) N)
  (b:PySem.W.defOf q l.name=some (d,a)) (h:l.prog.theDef l.name=some (d.params,d.body,d.scope)) (hk:PySem.W.kwWritten? d.params.kwonlyargs d.params.kw_defaults=some a)
  (g:(PySem.W.chainsOk q && PySem.W.opensWell l.prog && (PySem.W.frees l.row.toRowW && l.row.within.isEmpty))=true) (i:l.prog.bare) (j:l.row.toRowW.promised)
  (call:PySem.W.WalkO q loose (λ_ _=>True) (PySem.W.InK K) l.row.toRowW d a λf vs=>PySem.call f vs):l.Holds:=
 PySem.W.holds_law ok λc=>PySem.W.holds_open (r:=l.row) (XP:=λ_ _=>True) left (PySem.W.InK.of e) PySem.W.InK.keeps (λ_ _=>trivial) (λ_ _ _ _ _=>trivial) b h hk
  (λs _=>PySem.W.recFacts_of (R:=[]) rfl) (Bool.or_true _) c g i j call
section
variable {P:Program}{W:World}{K:aLw}{mg:aLz}{base:Heap}{N:List Str}{q:Str}{S:Stmt}{f:Addr}{cd:Value}{A:Around}{o:List Env}{s:Shared}{H:Hp}{E:XK}
 {tg iter elt:Expr} {ifs:List Expr} {scope:Scope} {pos p1 p2:Pos} {wi:WI} {g:TG} {gd:WG} {t:WT} {w:WE} (own:List Str) (aE:List Nat)
end
variable {X:Cx}{pos:Pos}
def wX:OA:=λxs mh Q=>∃ds,xs=[.tup ds]/\ds.length<64/\GI ds/\
 ∀a,a.Perm ds->a.Pairwise (λd e=>lx (enc e) (enc d)=false)->Q (.ref mh.length) (mh++[.lst a])
section
variable {X:Cx}
theorem F5(hu:X.A.units+64<cLine):cE X (.builtin "sorted") (dU X.K wX):=by
 intro pins s σ H xs us Q I r q;obtain⟨μ,mh,ds,R,N,O,⟨es,rfl,P,U,q⟩,F⟩:=q;obtain⟨v,rfl,S⟩:=hJ O;obtain⟨a,vs,rfl,sq,l⟩:=dS S;obtain⟨u,rfl,T⟩:=vals1 r;cases T;obtain⟨aL,i,V,hz⟩:=I.tuple sq;have sz:=aIf;have j:=iM I es (sI U) l i;have G:aL.length=es.length:=bL j;have W:X.A.in1.in1.units+40<cLine:=by show X.A.units+1+1+40<_;lia
 obtain⟨o,ho,Y,n,hd⟩:=V
 refine TS.CC (A:=X.A) (AN s.heap) (Ok:=λvs Z =>vs=aL/\∃c,Z ={s with heap:=c}/\∀b o,s.heap.get? b=some o->c.get? b=some o)
  (λE R hR=>wpAny_collect_seq a (.inr rfl) ho Y hd (λh' k=>hR _ _ ⟨by simp,h',rfl,k⟩) (by simp;lia)) ?_ ?_ ?_
 ·rintro J _ ⟨e,_⟩;rw[e];lia
 ·rintro J _ ⟨e,c,rfl,hk⟩;rw[e];by_cases g:2<=aL.length
  ·obtain⟨κ,p⟩:=qI (prog:=X.prog) (w:=X.w) (A:=X.A.in1.in1) W U j g;exact⟨κ,λ_ h' k=>p h' λb o e=>k b o (hk b o e)⟩
  ·exact⟨general',λz=>absurd z g⟩
 ·rintro J _ ⟨e,c,rfl,hk⟩ out x y g ep kept B;rw[e]at x;obtain⟨ts,t1,t2,t3,t4⟩:=RB l i j;rw[<-t3]at x;obtain⟨f,C,L⟩:=qM (·.u) x ts rfl;have h:∀t∈f,Is X.K μ H t.d t.v/\RelV t.v t.u/\Vl s.heap t.d t.u:=λt ht=>t4 t (C.mem_iff.mp ht);have pd:(f.map (·.d)).Perm es:=by rw[<-t1];exact C.map _
  have pw:(f.map (·.d)).Pairwise (λd e=>lx (enc e) (enc d)=false):=by
   rw[<-L]at y;rw[List.pairwise_map]at y⊢;refine y.imp_of_mem λ{t t'} m m' c=>?_;have e1:dv s.heap t.u=t.d:=jO (h t m).2.2;have e2:dv s.heap t'.u=t'.d:=jO (h t' m').2.2;unfold ltV at c;rw[e1,e2]at c;exact c
  have ln:(f.map (·.v)).length<=sizeLine:=by
   have:=C.length_eq;have D :=aJ7 List.length t2;have:=i.length;simp at D ⊢
   lia
  have M:Inv X pins σ H {s with heap:=c}:=Inv.drawn I rfl rfl hk
  have I1:Inv X pins σ (upd H c.objs.size (.lst (f.map (·.v)))) {s with heap:=g}:=
   M.laid (h' :=g) (t' :=s.toks) kept (aHw _) ⟨ln,out,ep,by rw[<-L];exact qC λt ht=>(h t ht).2.1,B⟩
  exact⟨.ref c.objs.size,_,I1,rfl,jM N F (uF λt ht=>(h t ht).1) (q _ pd pw) _ (M.bJ.fresh (aHw _))⟩
end
end D3
namespace HT
open PySem PyProof.Rows
open PySem.SeqAt
end HT
namespace D3
open PySem PySem.Spec PyProof.Rows L2
section
variable {P:Program}{W:World}{K:aLw}{mg:aLz}{base:Heap}{N:List Str}{q:Str}{S:Stmt}{f:Addr}{cd:Value}{A:Around}{o:List Env}{s:Shared}{H:Hp}{E:XK}
 {tg iter elt:Expr} {ifs:List Expr} {scope scope0:Scope} {pos:Pos} {wi:WI} {g:TG} {gd:WG} {t:WT} {w:WE} {own0:List Str} {caps0:List Nat} {cl0:List (Str×Addr)} {C0:Addr} {fp0:List Addr} {s0:Shared} {H0:Hp} (own:List Str) (aE:List Nat)
abbrev cC(P:Program)(W:World)(K:aLw)(mg:aLz)(base:Heap)(N:List Str)(q:Str)(S:Stmt)(f:Addr)(cd:Value)(A:Around)(o:List Env)(s:Shared)(H:Hp)(E:XK)(own0:List Str)(caps0:List Nat)(scope0:Scope)(cl0:List (Str×Addr))(C0:Addr)(fp0:List Addr)(s0:Shared)(H0:Hp):Cx:=
 aH (cF P W K mg base N q S f cd A o s H E) own0 caps0 scope0 cl0 C0 fp0 s0 H0
def reS(sc scope:Scope):Scope:={scope with names:=scope.names.map λy=>if (y.2==NameKind.free && sc.kind== .function && sc.names.lookup y.1==some .cell) then (y.1,NameKind.cell) else y}
theorem ZI(chk:cB (cN N own0 caps0) (reS (aF S) scope0) scope aE=true)(nd:(cN (cN N own0 caps0) own aE).Nodup)(a:gY K g gd)(ho:kW own.length g)
  (hi:LI (cC P W K mg base N q S f cd A o s H E own0 caps0 scope0 cl0 C0 fp0 s0 H0) tg iter wi)
  (hg:(cN (cN N own0 caps0) own aE).Nodup->∀cl C fp s₀ H₀,PG (aH (cC P W K mg base N q S f cd A o s H E own0 caps0 scope0 cl0 C0 fp0 s0 H0) own aE scope cl C fp s₀ H₀) tg g)
  (ht:∀cl C fp s₀ H₀,BX (aH (cC P W K mg base N q S f cd A o s H E own0 caps0 scope0 cl0 C0 fp0 s0 H0) own aE scope cl C fp s₀ H₀) ifs t)
  (he:∀cl C fp s₀ H₀,LE (aH (cC P W K mg base N q S f cd A o s H E own0 caps0 scope0 cl0 C0 fp0 s0 H0) own aE scope cl C fp s₀ H₀) elt w)
  (b:∀x,foldedSetIterable iter (cC P W K mg base N q S f cd A o s H E own0 caps0 scope0 cl0 C0 fp0 s0 H0).env x=pure x:=by intro _;rfl):
  LE (cC P W K mg base N q S f cd A o s H E own0 caps0 scope0 cl0 C0 fp0 s0 H0) (.ListComp elt [⟨tg,iter,ifs,0⟩] scope pos) (oV own aE wi gd t w):=
 WM (N:=cN N own0 caps0) (sc:=reS (aF S) scope0) own aE rfl rfl chk rfl hi ho a (hg nd) ht he b
end
def jN:Nat->List D->List D
 | _,[]=>[]
 | k,d::ds=>.tup [.int (k:Nat),d]::jN (k+1) ds
theorem gA:∀(k:Nat) (ds:List D),(jN k ds).length=ds.length
 | _,[]=>rfl
 | k,d::ds=>by simp[jN,gA (k+1) ds]
theorem oC:∀{k:Nat} {ds:List D} {i:Nat} {x:D},(jN k ds)[i]? =some x->∃d,ds[i]? =some d/\x= .tup [.int ((k+i:Nat):Int),d]
 | k,[],i,x,h=>by simp[jN]at h
 | k,d::ds,0,x,h=>by simp[jN]at h;exact⟨d,rfl,by rw[<-h];rfl⟩
 | k,d::ds,i+1,x,h=>by
  obtain⟨e,he,rfl⟩:=oC (k:=k+1) (ds:=ds) (i:=i) (by simpa[jN] using h);exact⟨e,by simpa using he,by rw[show k+1+i=k+(i+1) by lia]⟩
def wEn(b:WA):WI:=λc mh Q=>b c mh λxs a=>∃x ds,xs=[x]/\aX a x=some ds/\ds.length<=sizeLine/\Q (jN 0 ds) (λmh' =>aX mh' x=some ds) a
@[simp] theorem s_en (a:WE)(g:dY)(mh:MH)(P:List D->(MH->Prop)->MH->Prop):wEn (aB a aI) g mh P=(a g mh λx b=>got (aX b x) λds=>ds.length<=sizeLine/\P (jN 0 ds) (λmh' =>aX mh' x=some ds) b):=by
 unfold wEn;simp only[XE,aBx];congr 1;funext x b;apply propext;rw[<-fO];constructor
 ·rintro⟨y,ds,e,c,d,f⟩;cases e;exact⟨ds,c,d,f⟩
 ·rintro⟨ds,c,d,f⟩;exact⟨x,ds,rfl,c,d,f⟩
section
variable {X:Cx}{e:Expr}{elts:List Expr}{wa:WA}{p pos lK:Pos}
theorem aD8{x1}(hg:Gl X "enumerate")(y:X.mg "enumerate"=none)(A:LA X [e] wa)
  (B:starEach [e] X.env=(false,eval e X.env)::starEach [] X.env:=by rfl):
  LI X (.Tuple elts x1 lK) (.Call (.Name "enumerate" p) [e] [] pos) (wEn wa):=
 PI.imp (aCc hg y A (by decide+kernel) B) λσ H R h=>by
  obtain⟨μ,C,mh,f,D,En,h,F⟩:=h;refine⟨μ,C,mh,_,D,En,h,λxs l q g vs n E o G=>?_⟩;obtain⟨x,ds,rfl,I,hz,q⟩:=q;obtain⟨v,rfl,r⟩:=hJ G;obtain⟨a,xs,rfl,J,P⟩:=fJ o r I;refine⟨a,vP x,rfl,⟨xs,J⟩,F _ _ l q g _ n E o ?_⟩
  have c:∀μ' mh' H',eC g n μ' H' ->Rep X.K μ' mh' H' ->aX mh' x=some ds->∃xs,rD X.K H' (vP x) a xs/\IsL X.K μ' H' ds xs:=λμ' mh' H' j f st=>by
   obtain⟨Q,b,L,s1,l1⟩:=fJ f (Is.gP j _ _ r) st;cases L;exact⟨b,s1,l1⟩
  refine⟨by rw[gA];exact hz,λμ' mh' H' j f st i d M=>?_,λμ' mh' H' j f st=>?_⟩
  ·obtain⟨b,s1,l1⟩:=c μ' mh' H' j f st;obtain⟨d',N,rfl⟩:=oC M;obtain⟨k,s,i1⟩:=d9 l1 N;refine⟨⟨b,k,s1,s⟩,λz H'' O=>?_⟩;obtain⟨t,S,u,rfl,rfl,m⟩:=O;have:=m b s1;rw[s]at this;cases this;have w:aJ μ' H' μ' (upd H' t (.tup [.int i,k])):=aJ.new f u;refine⟨w,f.new u,?_⟩;unfold Is;refine⟨t,[.int i,k],rfl,.of aR,?_⟩;unfold IsL;exact⟨.int i,[k],rfl,by rw[Nat.zero_add];unfold Is;rfl,fN (Is.mono f w _ _ i1)⟩
  ·obtain⟨b,s1,l1⟩:=c μ' mh' H' j f st;rw[gA];exact⟨b,s1,by rw[aV l1];exact aHw _⟩
end
mutual
def okh:D->Bool
 | .int _=>true
 | .str _=>true
 | .bl _=>true
 | .tup ds=>aCx ds
 | _=>false
def aCx:List D->Bool
 | []=>true
 | d::ds=>okh d && aCx ds
end
mutual
def good:D->Bool
 | .int _=>true
 | .str _=>true
 | .tup ds=>DJ ds
 | _=>false
def DJ:List D->Bool
 | []=>true
 | d::ds=>good d && DJ ds
end
section
variable {prog:Program}{w:World}
mutual
theorem qR:∀(d e:D),good d=true->good e=true->(hU d e=true↔d=e)
 | .int i,e,_,h2=>by cases e <;> simp[good]at h2 <;> simp[hU]
 | .str x,e,_,h2=>by cases e <;> simp[good]at h2 <;> simp[hU]
 | .tup ds,e,h1,h2=>by
  cases e with
  | tup es=>simp only[hU,D.tup.injEq];exact DI ds es (by simpa only[good] using h1) (by simpa only[good] using h2)
  | int i=>simp[hU]
  | str x=>simp[hU]
  | _=>simp[good]at h2
 | .bT,e,h1,_=>by simp[good]at h1
 | .bl _,e,h1,_=>by simp[good]at h1
 | .ty _,e,h1,_=>by simp[good]at h1
 | .fl _,e,h1,_=>by simp[good]at h1
 | .ref _,e,h1,_=>by simp[good]at h1
theorem DI:∀(ds es:List D),DJ ds=true->DJ es=true->(iU ds es=true↔ds=es)
 | [],es,_,_=>by cases es <;> simp[iU]
 | d::ds,[],_,_=>by simp[iU]
 | d::ds,e::es,h1,h2=>by
  simp only[DJ,Bool.and_eq_true]at h1 h2;simp only[iU,Bool.and_eq_true,List.cons.injEq];rw[qR d e h1.1 h2.1,DI ds es h1.2 h2.2]
end
noncomputable instance:DecidableEq DN:=λ_ _=>Classical.propDecidable _
end
section
variable {prog:Program}{w:World}{K:Type}[DecidableEq K]{knd:HeapKind prog w K}{A:Around}{E:aLx}{s:Shared}
theorem CF{d a:Addr}{xs:List (K×Addr×Value)}{k:K}{dflt:Value}{Q:aLx}(h:knd.room A)(b:knd.is s.heap k a)(m:s.heap.DictOfH knd d xs)
  (n:∀(j:Nat) (p:Addr×Value),xs[j]? =some (k,p)->Q p.2 {s with toks:=s.toks+knd.draws k})
  (q:(∀(j:Nat) (p:Addr×Value),xs[j]? ≠some (k,p))->∀h',h'.DictOfH knd d (xs++[(k,a,dflt)])->Heap.SameBut d s.heap h' ->Q dflt {s with heap:=h',toks:=s.toks+knd.draws k})
  (hz:xs.length<=sizeLine):wpAny (model prog w) A (dictSetDefault d (.ref a) dflt) Q E s:=by
 obtain⟨o,es,ep,ho,r,hd,he,c,i⟩:=m;unfold dictSetDefault
 try with_reducible refine aIj ?_
 refine aHs (knd.pyHash h b (aHs (wpAny_dictFind_heap (s:={s with toks:=s.toks+knd.draws k}) h b ho hd he c i ?_ ?_)))
 ·intro f
  refine aHs (aJ0 (aHs (wpAny_updateDictKeys (hz:=by have e:=size_of_entries he;lia) (s:={s with toks:=s.toks+knd.draws k}) ho hd (aHt (q f _ ⟨_,_,ep+1,aJ3 _ ho (Obj.isFreed_of_dict (Obj.data_mapDictKeys hd _)),
   r.mapDictKeys _,Obj.data_mapDictKeys hd _,?_,?_,?_⟩ (aIo ..))))))
  ·simp[he,entryOfKey]
  ·intro x hx;rcases aI9.mp hx with hx | hx
   ·exact knd.keeps (c x hx) ho hd (aIo ..)
   ·simp only[List.mem_singleton]at hx;subst hx;exact knd.keeps b ho hd (aIo ..)
  ·rw[List.map_append,List.nodup_append];refine⟨i,by simp,λx hx y l=>?_⟩;simp only[List.map_cons,List.map_nil,List.mem_singleton]at l;subst l;rintro rfl;obtain⟨p,t,e⟩:=aI1.mp hx;obtain⟨j,g⟩:=aJb.mp t;exact f j p.2 (by rw[g,<-e])
 ·intro j p g;refine aHs (aL7 (s:={s with toks:=s.toks+knd.draws k}) ho hd ?_);rw[entry_at he j,g];exact aHs (aJ0 (aHt (n j p g)))
theorem qO(knd:HeapKind prog w K)(d a:Addr)(hd:(d==sysModules)=false)(dflt:Value):
  MeetsIn prog w (Builtin.«dict.setdefault» ⟨[.ref d,.ref a,dflt],[]⟩) (λA R s=>knd.room A.in1/\∃k xs,knd.is s.heap k a/\s.heap.DictOfH knd d xs/\xs.length<=sizeLine/\
   (∀(j:Nat) (p:Addr×Value),xs[j]? =some (k,p)->R (.ok (.ret p.2)) {s with toks:=s.toks+knd.draws k})/\
   ((∀(j:Nat) (p:Addr×Value),xs[j]? ≠some (k,p))->∀h',h'.DictOfH knd d (xs++[(k,a,dflt)])->Heap.SameBut d s.heap h' ->R (.ok (.ret dflt)) {s with heap:=h',toks:=s.toks+knd.draws k})):=
 .of_wp λA R s f=>by
  obtain⟨g,k,xs,hk,e,hz,h,i⟩:=f;unfold Builtin.«dict.setdefault»;refine aHs ?_;unfold Builtin.Dict.keyAndDefault;refine aHs (wpAny_notOrdered_dict e.typeIs ?_);show wpAny _ _ (pure (d,Value.ref a,some dflt)) _ _ s;refine aHt ?_;show wpAny _ _ (if (d==sysModules)=true then _ else (dictSetDefault d (.ref a) dflt >>=_)) _ _ s;rw[if_neg (by rw[hd];exact Bool.false_ne_true)];exact aHs (CF g hk e (λj p l=>aHt ⟨_,rfl,h j p l⟩) (λm h' b c =>aHt ⟨_,rfl,i m h' b c⟩) hz)
end
def eF(mh:MH):Nat->D->D
 | 0,d=>d
 | n+1,.ref k=>match mh[k]? with | some (.lst ds)=>.fl (ds.map (eF mh n)) | _=>.ref k
 | n+1,.tup ds=>.tup (ds.map (eF mh n))
 | _+1,d=>d
section
variable {X:Cx}{pins:List (Addr×Obj)}{σ:L2.St}{H:Hp}{s:Shared}{μ:List Addr}{mh:MH}
theorem sJ:∀{ds:List D},fR ds=true↔∀d∈ds,bare d=true
 | []=>by simp[fR]
 | d::ds=>by simp only[fR,Bool.and_eq_true,sJ (ds:=ds),List.mem_cons,forall_eq_or_imp]
theorem mZ(I:Inv X pins σ H s){n:Nat}(h:∀{d:D} {v:V} {u:Value},bare (eF mh n d)=true->Is X.K μ H d v->RelV v u->Vl s.heap (eF mh n d) u):
  ∀(ds:List D) {vs:List V} {us:List Value},(∀d∈ds,bare (eF mh n d)=true)->IsL X.K μ H ds vs->Vals vs us->eA s.heap (ds.map (eF mh n)) us
 | [],vs,us,_,l,r=>by unfold IsL at l;subst l;cases r;simp;unfold eA;rfl
 | d::ds,vs,us,b,l,r=>by
  unfold IsL at l;obtain⟨v,a,rfl,i,l⟩:=l
  cases r with
  | cons r1 r2=>
   rw[List.map_cons];unfold eA;exact⟨_,_,rfl,h (b d aHx) i r1,mZ I h ds (λe he=>b e (aI0 _ he)) l r2⟩
theorem qA(I:Inv X pins σ H s)(R:Rep X.K μ mh H):∀(n:Nat) {d:D} {v:V} {u:Value},bare (eF mh n d)=true->Is X.K μ H d v->RelV v u->Vl s.heap (eF mh n d) u:=by
 intro n
 induction n with
 | zero=>intro d v u b i r;exact p9 I d b i r
 | succ n ih=>
  intro d v u b i r
  cases d with
  | ref k=>
   simp only[eF]at b⊢
   cases o:mh[k]? with
   | none=>rw[o]at b;simp[bare]at b
   | some ob=>
    cases ob with
    | lst ds=>
     rw[o]at b;simp only;obtain⟨a,vs,rfl,_,hv,l⟩:=lN R i o;have c :u=Value.ref a:=r;subst c;obtain⟨aL,e,p,_⟩:=I.list (.of hv);unfold Vl;have g :fR (ds.map (eF mh n))=true:=by simpa[bare] using b
     exact⟨a,aL,rfl,p.isList,mZ I ih ds (λd hd=>sJ.mp g _ (List.mem_map_of_mem hd)) l e⟩
    | bM t kvs=>rw[o]at b;simp[bare]at b
    | gD t kvs ob=>rw[o]at b;simp[bare]at b
    | oth ds f=>rw[o]at b;simp[bare]at b
  | tup ds=>
   simp only[eF]at b⊢;obtain⟨a,vs,rfl,sq,l⟩:=dS i;have c :u=Value.ref a:=r;subst c;obtain⟨aL,e,p,_⟩:=I.tuple sq;unfold Vl;have g :fR (ds.map (eF mh n))=true:=by simpa[bare] using b
   exact⟨a,aL,rfl,p,mZ I ih ds (λd hd=>sJ.mp g _ (List.mem_map_of_mem hd)) l e⟩
  | bT=>exact p9 I _ b i r
  | bl _=>exact p9 I _ b i r
  | int _=>exact p9 I _ b i r
  | str _=>exact p9 I _ b i r
  | ty _=>exact p9 I _ b i r
  | fl _=>exact p9 I _ b i r
end
def YO:O2:=λx y mh Q=>∃n,bare (eF mh n x)=true/\bare (eF mh n y)=true/\deep (eF mh n x)<=40/\Q (.bl !hU (eF mh n x) (eF mh n y)) mh
def inN(mh:MH)(n:Nat)(x:D)(ds:List D):Bool:=ds.any λy=>hU (eF mh n y) (eF mh n x)
def Thg(mh:MH)(n:Nat)(d:D):Prop:=bare (eF mh n d)=true/\deep (eF mh n d)<=40
def TC:O2:=λx y mh Q=>∃n ds,aX mh y=some ds/\Thg mh n x/\(∀d∈ds,Thg mh n d)/\Q (.bl (inN mh n x ds)) mh
section
variable {X:Cx}
theorem YG(b:X.A.units+64<cLine):dW X (compareOp .NotEq) (bC X.K YO):=by
 intro pins s σ H x y v u Q I c d q;obtain⟨μ,mh,dx,i,R,a,e,f,⟨n,g,h,hd,q⟩,F⟩:=q;exact CJ hd b (qA I a n g e c) (qA I a n h f d) X.prog X.w X.xe _ ⟨.bl _,H,I,rfl,F.here a q .bl⟩
noncomputable def QU(h:Heap)(x:D)(u:Value):Bool:=hU (dv h u) x
theorem BP{h:Heap}{x:D}{f:D->D}:∀{ds:List D} {us:List Value},eA h (ds.map f) us->us.any (QU h x)=ds.any λy=>hU (f y) x
 | [],us,l=>by simp only[List.map_nil]at l;unfold eA at l;subst l;rfl
 | d::ds,us,l=>by
  simp only[List.map_cons]at l;unfold eA at l;obtain⟨u,r,rfl,p,l⟩:=l;rw[List.any_cons,List.any_cons,BP l];unfold QU;rw[jO p]
theorem HF{A:Around}{s:Shared}{x:D}{v:Value}(c:A.units+64<cLine)(q:Vl s.heap x v):∀{ds:List D} {us:List Value},(∀d∈ds,deep d<=40)->eA s.heap ds us->∀u∈us,SeqAt.EqAt A.in1 s u v (QU s.heap x u):=λ{ds us} hd l u a =>by
 obtain⟨d,b,p⟩:=lI l u a;unfold QU;rw[jO p];exact lT 40 (hd d b) (by show A.units+1+40+1<_;lia) p q
theorem YK(m:X.A.units+64<cLine):dW X (compareOp .In) (bC X.K TC):=by
 intro pins s σ H x y v u Q I p r q;obtain⟨μ,mh,dx,C,R,c,t,z,⟨n,ds,e,B,g,q⟩,F⟩:=q;obtain⟨a,vs,rfl,sq,l⟩:=pC c z e;have h :u=Value.ref a:=r;subst h;have o:=qA I c n B.1 t p;have f:∀d∈ds.map (eF mh n),deep d<=40:=λd hd=>by obtain⟨e,he,rfl⟩:=aI1.mp hd;exact(g e he).2
 rcases sq with sq | sq
 ·obtain⟨aL,i,j,hz⟩:=I.list sq;have b:=mZ I (qA I c n) ds (λd hd=>(g d hd).1) l i;refine SeqAt.in_listAt (QU s.heap (eF mh n dx)) j.isList (λw k=>HF m o f b w (by simpa using k)) ⟨.bl _,H,I,rfl,?_⟩;rw[show aL.toArray.any (QU s.heap (eF mh n dx))=aL.any (QU s.heap (eF mh n dx)) by simp,BP b];exact F.here c q .bl
 ·obtain⟨aL,i,j,hz⟩:=I.tuple sq;have b:=mZ I (qA I c n) ds (λd hd=>(g d hd).1) l i;refine SeqAt.in_tupleAt (QU s.heap (eF mh n dx)) j (λw k=>HF m o f b w (by simpa using k)) ⟨.bl _,H,I,rfl,?_⟩;rw[show aL.toArray.any (QU s.heap (eF mh n dx))=aL.any (QU s.heap (eF mh n dx)) by simp,BP b];exact F.here c q .bl
end
def pA:WS:=λ_ _ _=>False
theorem NT{X:Cx}{st:Stmt}:LS X st pA:=λ_ _ _ _ _ _ z=>by obtain⟨_,_,_,_,_,_,h,_⟩:=z;exact h.elim
theorem T2{X:Cx}{b:Expr}{c:List Comprehension}{scope:Scope}{dP pos a :Pos}{w:WE}(i:Nat){x:Str}(hN:X.N.Nodup)(he:LE X (.ListComp b c scope dP) w)(hi:X.N[i]? =some x:=by rfl)(d:Loc X.env.scope x:=by first | exact Or.inl rfl | exact Or.inr rfl)(e:swapsWith (.ListComp b c scope dP) (some (.Name x a)) pos.line X.env=pure false:=by rfl)(f:X.fn x=true\/X.env.scope.names.lookup x=some .local:=by first | exact .inl rfl | exact .inr rfl | assumption):
  LS X (.Assign [.Name x a] (.ListComp b c scope dP) pos) (bI w (gN i)):=NS i hN he hi d e f
end D3
namespace L2
open PySem PySem.Spec PyProof.Rows
end L2
namespace D3
open PySem PySem.Spec PyProof.Rows L2
end D3
namespace ST
open PySem PySem.SetTable
open PySem.Builtin PySem.Builtin.Frozenset
end ST
namespace L2
open PySem PySem.Spec PyProof.Rows
variable{scope:Scope}
theorem aEd{P:Program}{w:World}{k v:Expr}{gs:List Comprehension}{pos:Pos}:VX P w (.DictComp k v gs scope pos) gs newDict (λ_ (kvs:List (Key×V))=>.dK kvs) []:=
 ⟨rfl,λa h=>aIe (h _ (λc o e=>aHu _ e) (aK3 _ _) λH=>DV _ a),by intros;rfl,by intros;rfl⟩
theorem compTurn_dict(k v a iter:Expr)(b:List Expr)(scope:Scope)(pos:Pos)(it:Value)(acc:Addr)(env:Env):
  compTurn (.DictComp k v [⟨a,iter,b,0⟩] scope pos) 0 it (.ref acc) env=(do
   standAt iter.pos
   match<-pyNext it with
   | none=>pure (.done .next)
   | some x=>
    letOwnedTupleGo a it x
    assign a env x
    let mut ok:=true
    for c in b do
     if ok then ok<-isTrue c env (eval c env)
    if ok then
     (do
       let kv<-eval k env
       let vv<-holding [kv] (eval v env)
       standAt {k.pos with endLine:=v.pos.endLine,endCol:=v.pos.endCol}
       holding [kv,vv] (dictSet acc kv vv))
    again (.compLoop (.DictComp k v [⟨a,iter,b,0⟩] scope pos) 0 it (.ref acc) env)):=by rfl
theorem xR{prog:Program}{w:World}{A:Around}{R:Result->Shared->Prop}{s:Shared}{k v a iter:Expr}{o:List Expr}{pos:Pos}{it:Value}{acc:Addr}{env:Env}(I:Nat->Shared->Prop)
  (p:∀n s,I n s->wpAny (model prog w) A (pyNext it) (λr b=>match r with
   | none=>R (.ok .next) b
   | some x=>wpAny (model prog w) A (letOwnedTupleGo a it x) (λ_ b=>wpAny (model prog w) A (assign a env x) (λ_ f=>
     wpAny (model prog w) A (forIn o true λc r=>if r=true then do let ok<-isTrue c env (eval c env);pure (ForInStep.yield ok) else pure (ForInStep.yield r)) (λok e=>
      if ok=true then wpAny (model prog w) A (eval k env) (λz g=>wpAny (model prog w) A (eval v env) (λB i=>
       wpAny (model prog w) A (dictSet acc z B) (λ_ j=>∃m,m<n/\I m j) (λ_ _=>False) i) (λ_ _=>False) g) (λ_ _=>False) e
      else ∃m,m<n/\I m e) (λ_ _=>False) f) (λ_ _=>False) b) (λ_ _=>False) b) (λ_ _=>False) s)
  (n:Nat) (h:I n s):codeAny (model prog w) A (.compLoop (.DictComp k v [⟨a,iter,o,0⟩] scope pos) 0 it (.ref acc) env) R s:=by
 refine codeAny_loop rfl I (λn s C=>?_) n h;show wpAny _ A ((compTurn (.DictComp k v [⟨a,iter,o,0⟩] scope pos) 0 it (.ref acc) env).onRaise (λx=>do noteFrame x env;theTreesLotGoes x)) _ _ s;refine wpAny_noted ?_;rw[compTurn_dict];refine aHs (aJd (aHs (aIk (p n s C) (λr b d=>?_) λ_ _ h' =>h'.elim)))
 cases r with
 | none=>exact aHt d
 | some x=>
  refine aHs (aIk d (λ_ b d=>?_) λ_ _ h' =>h'.elim);refine aHs (aIk d (λ_ f q=>aHs (aIk q (λok e l=>?_) λ_ _ h' =>h'.elim)) λ_ _ h' =>h'.elim)
  cases ok with
  | false=>exact aHt ⟨rfl,l⟩
  | true=>
   exact aHs (aHs (aIk l (λz g t=>aHs (aIj (aIk t (λB i u=>aHs (aJd (aIj (aIk u (λ_ j y=>aHt ⟨rfl,y⟩) λ_ _ h' =>h'.elim)))) λ_ _ h' =>h'.elim))) λ_ _ h' =>h'.elim))
def tbD(tk tv:TE)(acc:Addr):VR (List (Key×V)):=λkvs σ H N=>kvs.length<sizeLine/\tk σ H λy b=>tv σ b λv a=>∃k,y=kV k/\a acc=some (.dK kvs)/\N (putK kvs k v) (upd a acc (.dK (putK kvs k v)))
def tDC(own:List Str)(aE:List Nat)(wi:TI)(g:TG)(tt:TT)(tk tv:TE):TE:=LN (λ_ kvs=>.dK kvs) [] own aE wi g tt (tbD tk tv)
section
variable {X:Cx}{tg iter ek ev:Expr}{ifs:List Expr}{scope sc:Scope}{N:List Str}{pos:Pos}{wi:TI}{g:TG}{tt:TT}{tk tv:TE}(own:List Str)(aE:List Nat)
  (hN:X.N=N) (hsc:X.env.scope=sc) (chk:cB N sc scope aE=true) (dB:X.calm=true) (hi:PI X tg iter wi) (ho:kW own.length g)
  (hg:∀cl C fp s₀ H₀,PG (aH X own aE scope cl C fp s₀ H₀) tg g) (ht:∀cl C fp s₀ H₀,QW (aH X own aE scope cl C fp s₀ H₀) ifs tt)
  (hk:∀cl C fp s₀ H₀,PE (aH X own aE scope cl C fp s₀ H₀) ek tk) (hv:∀cl C fp s₀ H₀,PE (aH X own aE scope cl C fp s₀ H₀) ev tv)
include hN hsc chk dB hi ho hg ht hk hv
theorem IC(P:∀x,foldedSetIterable iter X.env x=pure x){pins:List (Addr×Obj)}{s:Shared}{σ:St}{H:Hp}{Q:VK}{use:Option (Value->Sem Unit)}{L :aLx}(I:Inv X pins σ H s)(h:tDC own aE wi g tt tk tv σ H Q)
  (b:∀(acc C:Addr) (m:aLz) (o:Hp) (d:Shared) (r:Flow),Inv X pins σ o d->o C=none->C≠X.env.locals->X.s₀.heap.objs.size<=C->(∀x c,X.env.cells.lookup x=some c->c≠C)->(∀p∈X.pn++pins,p.1≠C)->d.heap.Ns C m->Q (.ref acc) o->
   compPost (model X.prog X.w) X.A X.xe use L (.ref acc) C (.ok r) d):
  wpAny (model X.prog X.w) X.A (comprehension (.DictComp ek ev [⟨tg,iter,ifs,0⟩] scope pos) scope X.env (firstIterPos [⟨tg,iter,ifs,0⟩] pos) newDict (firstAsync [⟨tg,iter,ifs,0⟩]) (firstIter [⟨tg,iter,ifs,0⟩] X.env) use) L X.xe s:=by
 refine sC aEd own own.length aE (λenv acc K s=>wpAny (model X.prog X.w) X.A (eval ek env) (λM S=>wpAny (model X.prog X.w) X.A (eval ev env) (λN T=>wpAny (model X.prog X.w) X.A (dictSet acc M N) (λ_ d=>K d) (λ_ _=>False) T) (λ_ _=>False) S) (λ_ _=>False) s)
  hN hsc chk dB hi (aHw _) ho hg ht (λacc cl C fp s₀ H₀ pins s σ H O NN K U _ q k=>?_) (λit acc env R I f n s h=>xR I f n h) P I h b
 obtain⟨hl,q⟩:=q;refine b6 (hk _ _ _ _ _ _ s σ H _ U q) λM t u=>?_;obtain⟨y,v,B,V,D⟩:=u;refine b6 (hv _ _ _ _ _ _ t σ v _ B D) λN W E=>?_;obtain⟨x,Y,i,Z,key,e,a,F⟩:=E;subst e;obtain⟨z,hd,vs,j,dd⟩:=IA i.bJ a;have hz:vs.length<=sizeLine:=by rw[<-j.length];exact z
 have G:(putK O key x).length<=sizeLine:=by have:=nH O key x;lia
 refine wpAny_dictSet_pairs (hsz:=hz) (qQ V) dd λh' l J=>?_;have he:∃q,h'.get? acc=some q:=let ⟨q,_,_,hq,_⟩:=l;⟨q,hq⟩;exact k _ _ _ (oE i (by rw[a];exact True.intro) J he (FZ G hd (j.put key Z) l)) F
theorem aCh(a:∀x,foldedSetIterable iter X.env x=pure x:=by intro _;rfl):PE X (.DictComp ek ev [⟨tg,iter,ifs,0⟩] scope pos) (tDC own aE wi g tt tk tv):=by
 intro pins s σ H Q I h;have e:eval (.DictComp ek ev [⟨tg,iter,ifs,0⟩] scope pos) X.env=comprehension (.DictComp ek ev [⟨tg,iter,ifs,0⟩] scope pos) scope X.env (firstIterPos [⟨tg,iter,ifs,0⟩] pos) newDict (firstAsync [⟨tg,iter,ifs,0⟩]) (firstIter [⟨tg,iter,ifs,0⟩] X.env):=by rfl
 rw[e];exact IC own aE hN hsc chk dB hi ho hg ht hk hv a I h wK
end
theorem MN{X:Cx}{tg iter j k:Expr}{f:List Expr}{scope sc:Scope}{N:List Str}{pos d l:Pos}{wi:TI}{g:TG}{tt:TT}{tk tv:TE}{i:Nat}{x:Str}(own:List Str)(aE:List Nat)
  (hN:X.N=N) (hsc:X.env.scope=sc) (chk:cB N sc scope aE=true) (dB:X.calm=true) (hi:PI X tg iter wi) (ho:kW own.length g)
  (hg:∀cl C fp s₀ H₀,PG (aH X own aE scope cl C fp s₀ H₀) tg g) (ht:∀cl C fp s₀ H₀,QW (aH X own aE scope cl C fp s₀ H₀) f tt)
  (hk:∀cl C fp s₀ H₀,PE (aH X own aE scope cl C fp s₀ H₀) j tk) (hv:∀cl C fp s₀ H₀,PE (aH X own aE scope cl C fp s₀ H₀) k tv)
  (nd:X.N.Nodup) (n:X.N[i]? =some x) (A:Loc X.env.scope x) (B:swapsWith (.DictComp j k [⟨tg,iter,f,0⟩] scope pos) (some (.Name x d)) l.line X.env=pure true)
  (E:X.fn x=true\/X.env.scope.names.lookup x=some .local) (F:∀x,foldedSetIterable iter X.env x=pure x:=by intro _;rfl):
  PS X (.Assign [.Name x d] (.DictComp j k [⟨tg,iter,f,0⟩] scope pos) l) (LQ (tDC own aE wi g tt tk tv) (o7 i)):=by
 intro pins s σ H D I h;rw[arm_exec_Assign];refine aHs (aJd (aHs (aKx (show swapsWithSole [.Name x d] _ l.line X.env=pure true from B) ?_)));rw[if_pos rfl];refine aHs (aHs (IC (Q:=λv G=>D.nx (σ.set i (some v)) G) own aE hN hsc chk dB hi ho hg ht hk hv F I h λacc C m J V r K L w M y O P q=>?_));show wpAny _ _ (assign (.Name x d) X.env (.ref acc)) _ _ _;refine PyProof.Rows.assign_Name (rJ K nd n A (v:= .ref acc) rfl (λR S p=>?_) E);obtain⟨a,T,ha⟩:=p
 have t:C≠a:=by
  rcases ha with rfl | ha
  ·exact w
  ·exact λz=>y x a ha z.symm
 refine⟨m,?_,λh' u=>aHt (aHt ⟨_,J,?_,q⟩)⟩
 ·obtain⟨o,es,ep,e,c⟩:=P;exact⟨o,es,ep,(T.2 C t).trans e,c⟩
 ·exact S.turned (t' :=R.toks) (it:=C) (λb o U e=>u.extBut b o U e) L w (.inr M) y O
end L2
namespace D3
open PySem PySem.Spec PyProof.Rows L2
def nP(g:WG)(t:WT)(e f:WE)(ρe:dY)(St:MH->Prop)(Q:DK):List D->List (D×D)->MH->Prop
 | [],ys,mh=>St mh/\Q (.ref mh.length) (mh++[.bM false ys])
 | d::ds,ys,mh=>St mh/\g d ρe λa=>t a mh λb c=>if b=true then e a c λk h=>f a h λy i=>(∃key,k=aW key)/\nP g t e f ρe St Q ds (putD ys k y) i else nP g t e f ρe St Q ds ys c
def QR(own:List Str)(aE:List Nat)(wi:WI)(g:WG)(t:WT)(c d:WE):WE:=λb mh Q=>wi b mh λds St a=>nP g t c d (cX own aE b) St Q ds [] a
theorem UQ{K:aLw}{μ:List Addr}{H:Hp}{k:Key}{v:V}(h:Is K μ H (aW k) v):v=kV k:=by
 cases k with
 | inl i=>exact bK h
 | inr x=>exact d4 h
section
variable {X:Cx}
theorem IB{wi:WI}{g:TG}{P:WG}{t:WT}{S T:WE}{own:List Str}{aE:List Nat}(hr:gY X.K g P){σ:L2.St}{H:Hp}{Q:VK}(h:tL X.K (QR own aE wi P t S T) σ H Q):tDC own aE (LM X.K wi) g (G1 X.K t) (tL X.K S) (tL X.K T) σ H Q:=by
 obtain⟨μ,U,mh,R,RR,En,h,F⟩:=h;refine⟨μ,U,mh,_,RR,En,h,λds St mh1 q l J H1 P1 V It acc j=>?_⟩;have r:acc∉l:=λz=>V.ne j z rfl
 refine⟨λi m kk H' =>∃μ' mh' f,aJ l H1 μ' H' /\Rep X.K μ' mh' H' /\acc∉μ' /\H' acc=some (.dK kk)/\f.map (·.1)=kk.map (λp=>aW p.1)/\IsL X.K μ' H' (f.map (·.2)) (kk.map (·.2))/\f.length<=i/\i<=ds.length/\m=ds.length-i/\nP P t S T (cX own aE U) St R (ds.drop i) f mh',
  ⟨ds.length,l,mh1,[],aJ.out aJ.refl j,V.new j,r,aR,rfl,by simp[IsL],aHw _,aIx _,by simp,by simpa using q⟩,?_⟩
 rintro i m kk H' ⟨μ',mh',f,s,B,C,e',W,l',hd',hi',rfl,c⟩;refine⟨e',?_⟩;have hlen:kk.length=f.length:=by have:=aJ7 List.length W;simpa using this.symm
 by_cases u:i<ds.length
 ·rw[List.drop_eq_getElem_cons u]at c;obtain⟨hst,c⟩:=c;obtain⟨hgo,hy⟩:=It.go μ' mh' H' (s.weak V) B hst i ds[i] (by simp[u]);refine .inr ⟨hgo,λv D=>∃k o d,aJ l H1 k D/\Rep X.K k o D/\acc∉k/\D acc=some (.dK v)/\d.map (·.1)=v.map (λp=>aW p.1)/\IsL X.K k D (d.map (·.2)) (v.map (·.2))/\d.length<=i+1/\nP P t S T (cX own aE U) St R (ds.drop (i+1)) d o,?_,λx H'' y=>?_⟩
  ·rintro ys2 D ⟨k,o,d,P2,R2,ha2,e2,k2,l2,hd2,c2⟩;exact⟨ds.length-(i+1),by lia,k,o,d,P2,R2,ha2,e2,k2,l2,hd2,u,rfl,c2⟩
  ·obtain⟨Y,E,Iy⟩:=hy x H'' y;obtain⟨hay,ey⟩:=Y.away C e';have ly:=IsL.mono B Y _ _ l';have P0y:=P1.trans (s.trans Y);refine hr x _ H'' _ μ' (cX own aE U) mh' _ _ E (En.mono RR P0y).emb Iy c λw q2 σ2 A=>?_;refine⟨μ',w,mh',_,E,A,q2,λb G q3 I H3 L Z=>?_⟩;obtain⟨M,e3⟩:=L.away hay ey;have l3:=IsL.mono E L _ _ ly;have N:=(s.trans Y).trans L
   cases b with
   | false=>rw[if_neg Bool.false_ne_true]at q3⊢;exact⟨I,G,f,N,Z,M,e3,W,l3,by lia,q3⟩
   | true=>
    rw[if_pos rfl]at q3⊢;refine⟨by have:=It.small;lia,I,w,G,_,Z,A.mono E L,q3,λdk mh4 q4 μ4 vk H4 P4 R4 I4=>?_⟩;obtain⟨ha4,e4⟩:=P4.away M e3;refine⟨μ4,w,mh4,_,R4,(A.mono E L).mono Z P4,q4,λy mh5 q5 μ5 vy H5 P5 R5 I5=>?_⟩;obtain⟨⟨key,rfl⟩,q5⟩:=q5;obtain⟨O,e5⟩:=P5.away ha4 e4;have hm:GK (H5 acc):=by rw[e5];trivial
    have l5:=IsL.mono Z (P4.trans P5) _ _ l3;obtain⟨n1,n2⟩:=zW kM key I5 W l5;have:=CP f (aW key) y;exact⟨key,UQ I4,e5,μ5,mh5,putD f (aW key) y,aJ.out ((N.trans P4).trans P5) j,R5.out hm O,O,aR,n1,IsL.out hm _ _ n2,by lia,q5⟩
 ·have e:i=ds.length:=by lia
  subst e;rw[List.drop_of_length_le (Nat.le_refl _)]at c;refine .inl ⟨It.stop μ' mh' H' (s.weak V) B c.1,?_⟩
  have Pa:aJ l H1 (μ' ++[acc]) H' :=⟨by obtain⟨t,rfl⟩:=s.pre;exact⟨t++[acc],by simp⟩,s.fr,λa ha=>by
   rcases aI9.mp ha with ha | ha
   ·exact s.nw a ha
   ·simp at ha;subst ha;exact .inr j⟩
  exact F _ _ c.2 (μ' ++[acc]) _ H' (P1.trans Pa) (B.KS C ⟨kk.map (·.2),⟨kk,e',W,rfl⟩,IsL.pre (λn a h=>by rw[List.getElem?_append_left (List.getElem?_eq_some_iff.mp h).1];exact h) _ _ l'⟩) (by unfold Is;exact⟨acc,by rw[<-B.len];simp,rfl⟩)
theorem aDb{tg iter d e:Expr}{a:List Expr}{scope sc:Scope}{N:List Str}{pos:Pos}{wi:WI}{g:TG}{f:WG}{t:WT}{b c:WE}(own:List Str)(aE:List Nat)
  (hN:X.N=N) (hsc:X.env.scope=sc) (chk:cB N sc scope aE=true) (dB:X.calm=true) (hi:LI X tg iter wi) (ho:kW own.length g)
  (i:gY X.K g f)
  (hg:∀cl C fp s₀ H₀,PG (aH X own aE scope cl C fp s₀ H₀) tg g) (ht:∀cl C fp s₀ H₀,BX (aH X own aE scope cl C fp s₀ H₀) a t)
  (hk:∀cl C fp s₀ H₀,LE (aH X own aE scope cl C fp s₀ H₀) d b) (hv:∀cl C fp s₀ H₀,LE (aH X own aE scope cl C fp s₀ H₀) e c)
  (j:∀x,foldedSetIterable iter X.env x=pure x:=by intro _;rfl):LE X (.DictComp d e [⟨tg,iter,a,0⟩] scope pos) (QR own aE wi f t b c):=
 PE.imp (aCh (wi:=LM X.K wi) (tt:=G1 X.K t) (tk:=tL X.K b) (tv:=tL X.K c) own aE hN hsc chk dB hi ho hg (λcl C fp s₀ H₀=>ht cl C fp s₀ H₀) (λcl C fp s₀ H₀=>hk cl C fp s₀ H₀) (λcl C fp s₀ H₀=>hv cl C fp s₀ H₀) j) λσ H Q h=>IB i h
theorem NV(i:Nat){x:Str}{a k:Pos}{tg iter c d:Expr}{b:List Expr}{scope sc:Scope}{N:List Str}{pos:Pos}{wi:WI}{g:TG}{l:WG}{t:WT}{e f:WE}(nd:X.N.Nodup)(own:List Str)(aE:List Nat)
  (hN:X.N=N) (hsc:X.env.scope=sc) (chk:cB N sc scope aE=true) (dB:X.calm=true) (hi:LI X tg iter wi) (ho:kW own.length g)
  (m:gY X.K g l)
  (hg:∀cl C fp s₀ H₀,PG (aH X own aE scope cl C fp s₀ H₀) tg g) (ht:∀cl C fp s₀ H₀,BX (aH X own aE scope cl C fp s₀ H₀) b t)
  (hk:∀cl C fp s₀ H₀,LE (aH X own aE scope cl C fp s₀ H₀) c e) (hv:∀cl C fp s₀ H₀,LE (aH X own aE scope cl C fp s₀ H₀) d f)
  (j:X.N[i]? =some x:=by rfl) (n:Loc X.env.scope x:=by first | exact Or.inl rfl | exact Or.inr rfl) (o:swapsWith (.DictComp c d [⟨tg,iter,b,0⟩] scope pos) (some (.Name x a)) k.line X.env=pure true:=by rfl) (p:X.fn x=true\/X.env.scope.names.lookup x=some .local:=by first | exact .inl rfl | exact .inr rfl | assumption)
  (q:∀x,foldedSetIterable iter X.env x=pure x:=by intro _;rfl):LS X (.Assign [.Name x a] (.DictComp c d [⟨tg,iter,b,0⟩] scope pos) k) (bI (QR own aE wi l t e f) (gN i)):=
 PS.imp (MN (wi:=LM X.K wi) (tt:=G1 X.K t) (tk:=tL X.K e) (tv:=tL X.K f) own aE hN hsc chk dB hi ho hg (λcl C fp s₀ H₀=>ht cl C fp s₀ H₀) (λcl C fp s₀ H₀=>hk cl C fp s₀ H₀) (λcl C fp s₀ H₀=>hv cl C fp s₀ H₀) nd j n o p q) λD σ H h=>IB m (BN (uI i) h)
end
open PySem.W
def z0:O2:=λx y mh Q=>∃n kvs key d,x= .ref n/\iE mh n false kvs/\y=aW key/\aU kvs y=some d/\Q d mh
theorem ixF{X:Cx}(h:X.A.units+64<cLine):QX X (bC X.K z0):=by
 intro b c pins s σ H x y v u Q I i j q k;obtain⟨μ,mh,dx,D,R,f,m,o,⟨n,kvs,key,d,rfl,e,rfl,hd,q⟩,F⟩:=q;obtain⟨a,vs,E,rfl,p,r,l⟩:=jP f m e;obtain⟨kk,z,t,rfl⟩:=r;cases z;cases jL o
 rcases jI key t l with ⟨_,z⟩ | ⟨d',w,B,g,C⟩
 ·rw[hd]at z;cases z
 ·rw[hd]at g;cases g;exact HM h b c pins s σ H _ _ v u Q I i j ⟨a,w,rfl,.inl ⟨kk,key,p,rfl,B.symm⟩,F.here f q C⟩ k
section
variable {P:Program}{W:World}{K:aLw}{mg:aLz}{base:Heap}{N:List Str}{q:Str}{S:Stmt}{f:Addr}{cd:Value}{A:Around}{o:List Env}{s:Shared}{H:Hp}{E:XK}
variable {tg iter ek ev:Expr}{ifs:List Expr}{scope:Scope}{pos:Pos}{wi:WI}{g:TG}{gd:WG}{t:WT}{wk wv:WE}(own:List Str)(aE:List Nat)
theorem ZK(chk:cB N (aF S) scope aE=true)(nd:(cN N own aE).Nodup)(a:gY K g gd)(ho:kW own.length g)
  (hi:LI (cF P W K mg base N q S f cd A o s H E) tg iter wi)
  (hg:(cN N own aE).Nodup->∀cl C fp s₀ H₀,PG (aH (cF P W K mg base N q S f cd A o s H E) own aE scope cl C fp s₀ H₀) tg g) (ht:∀cl C fp s₀ H₀,BX (aH (cF P W K mg base N q S f cd A o s H E) own aE scope cl C fp s₀ H₀) ifs t)
  (hk:∀cl C fp s₀ H₀,LE (aH (cF P W K mg base N q S f cd A o s H E) own aE scope cl C fp s₀ H₀) ek wk) (hv:∀cl C fp s₀ H₀,LE (aH (cF P W K mg base N q S f cd A o s H E) own aE scope cl C fp s₀ H₀) ev wv)
  (b:∀x,foldedSetIterable iter (cF P W K mg base N q S f cd A o s H E).env x=pure x:=by intro _;rfl):LE (cF P W K mg base N q S f cd A o s H E) (.DictComp ek ev [⟨tg,iter,ifs,0⟩] scope pos) (QR own aE wi gd t wk wv):=
 aDb (N:=N) (sc:=aF S) own aE rfl rfl chk rfl hi ho a (hg nd) ht hk hv b
end
section
variable {X:Cx}{pins:List (Addr×Obj)}{σ:L2.St}{H:Hp}{s:Shared}{a:Addr}{u:HO}{ob:Obj}
theorem aFt(g:∀o u,X.H₀ a≠some (.tP o u))(I:Inv X pins σ H s)(e:H a=some (.tP ob u))(l:A0 u):Inv X pins σ (upd H a u) s:=by
 have d:∀b,H b=none->b≠a:=λb h z=>by rw[z,e]at h;cases h
 refine⟨I.ok,I.os,I.bare,⟨I.base.keep,I.base.slot,λb o i f j=>?_,I.base.there,λb xs h=>?_,λb o v h=>?_,λb ps h=>?_⟩,I.loc,I.cell,?_,λx c h=>?_,λp k=>?_,λb o h=>?_,I.len⟩
 ·have:=I.base.free b o i f j;rw[aO (d b this)];exact this
 ·have:=I.base.zM b xs h;rw[aO λz=>by rw[z,e]at this;cases this];exact this
 ·have:=I.base.vV b o v h;rw[aO λz=>g o v (by rw[<-z];exact h)];exact this
 ·obtain⟨more,this⟩:=I.base.zP b ps h;exact⟨more,by rw[aO λz=>by rw[z,e]at this;cases this];exact this⟩
 ·rw[aO (d _ I.free)];exact I.free
 ·rw[aO (d _ (I.kO x c h))];exact I.kO x c h
 ·obtain⟨i,f,j⟩:=I.pin p k;exact⟨i,by rw[aO (d _ f)];exact f,j⟩
 ·have own:∀b c,H b=some (.own c)->(upd H a u) b=some (.own c):=λb c q=>by
   rw[aO λz=>by rw[z,e]at q;cases q];exact q
  have tup:∀b xs,H b=some (.tup xs)->(upd H a u) b=some (.tup xs):=λb xs q=>by
   rw[aO λz=>by rw[z,e]at q;cases q];exact q
  by_cases z:b=a
  ·subst z;rw[aR]at h;cases h;exact(I.bJ b _ e).2.xE (λ_ _ _ q=>q) (λb q=>own b _ q) tup
  ·rw[aO z]at h;exact(I.bJ b o h).xE (λ_ _ _ q=>q) (λb q=>own b _ q) tup
end
def Q5(w:WS):WS:=λE d mh=>∃n t kvs,mh[n]? =some (.bM t kvs)/\w {E with nx:=λc b=>∃a ob,b[n]? =some (.gD t a ob)/\E.nx c (b.set n (.bM t a))} d mh
theorem YZ{X:Cx}{st:Stmt}{w:WS}(h:LS X st w):LS X st (Q5 w):=by
 intro pins s σ H D I z;obtain⟨μ,C,mh,E,R,En,⟨n,t,kvs,e,G⟩,F⟩:=z
 obtain⟨a,J,j,K,L⟩:∃a,μ[n]? =some a/\∃j,H a=some j/\A0 j:=by
  have M:=R.len;have N:=(aHv.mp e).1
  obtain⟨a,k⟩:∃a,μ[n]? =some a:=⟨_,aIm (by rw[M];exact N)⟩
  obtain⟨vs,hv,l⟩:=R.obj n a _ k e
  cases t with
  | false=>obtain⟨kk,z,r⟩:=hv;exact⟨a,k,_,z,trivial⟩
  | true=>obtain⟨kk,z,r⟩:=hv;exact⟨a,k,_,z,trivial⟩
 have m:∀o u,X.H₀ a≠some (.tP o u):=λo u q=>by
  have:=I.base.vV a o u q;rw[K]at this;cases this;exact L
 have O:=h pins s σ H {D with nx:=λb H' =>∃u ob,H' a=some (.tP ob u)/\A0 u/\D.nx b (upd H' a u)} I ⟨μ,C,mh,_,R,En,G,⟨λp mh' r μ' b H' A d x =>?_,F.rt,F.bk,F.ct⟩⟩
 ·refine b6 O λf S q=>?_
  cases f with
  | next=>
   obtain⟨b,H',P,u,ob,e,y,q⟩:=q;exact⟨b,_,aFt m P e y,q⟩
  | brk=>exact q
  | cont=>exact q
  | ret v=>exact q
 ·obtain⟨B,ob,Q,q⟩:=r;have c :=A.get J;obtain⟨vs,u,hv,g,l⟩:=d.obj n a _ c Q;have i:aJ μ' H' μ' (upd H' a u):=aJ.set d c
  have y:A0 u:=by
   cases t with
   | false=>obtain⟨kk,z,r⟩:=g;cases z;trivial
   | true=>obtain⟨kk,z,r⟩:=g;cases z;trivial
  refine⟨u,ob,hv,y,F.nx p _ q μ' b _ (A.trans i) (DX d c ?_) (x.mono d i)⟩
  cases t with
  | false=>obtain⟨kk,z,r⟩:=g;cases z;exact⟨vs,⟨kk,aR,r⟩,IsL.mono d i _ _ l⟩
  | true=>obtain⟨kk,z,r⟩:=g;cases z;exact⟨vs,⟨kk,aR,r⟩,IsL.mono d i _ _ l⟩
@[simp] theorem s_thw {w:WS}{E:i5}{d:dY}{mh:MH}:Q5 w E d mh=(∃n t kvs,mh[n]? =some (.bM t kvs)/\w {E with nx:=λc b=>∃a ob,b[n]? =some (.gD t a ob)/\E.nx c (b.set n (.bM t a))} d mh):=rfl
section
variable {X:Cx}{pins:List (Addr×Obj)}{σ:L2.St}{H:Hp}{s:Shared}
theorem LU{a:Addr}{kk:List (Key×V)}(I:Inv X pins σ H s)(c:Rd H a (.dK kk)):
  ∃(vs:List (Key×Value)) (ep:Nat),KV kk vs/\kk.length<=sizeLine/\KdlSrc X.prog X.w "dict" a a vs.length (λi v=>∃k x,vs[i]? =some (k,x)/\(aS X.prog X.w).is k v=true) (λh=>h.DictAt (aS X.prog X.w) a vs ep)/\s.heap.DictAt (aS X.prog X.w) a vs ep:=by
 obtain⟨z,hd,vs,b,o,es,ep,d,e,f,g,j,l⟩:=qX I.bJ c;exact⟨vs,ep,b,z,kdl_dict hd,o,es,d,e,f,g,j,l⟩
theorem OC:∀{kk:List (Key×V)} {vs:List (Key×Value)} {us:List Value},KV kk vs->us.length=vs.length->(∀(i:Nat) (v:Value),us[i]? =some v->∃k x,vs[i]? =some (k,x)/\(aS X.prog X.w).is k v=true)->Vals (kk.map λp=>kV p.1) us
 | [],_,us,.nil,hl,_=>by
  have:us=[]:=by simpa using hl
  subst this;exact .nil
 | p::kk,_,us,.cons r t,hl,h=>by
  cases us with
  | nil=>simp at hl
  | cons u us=>
   simp only[List.map_cons];refine .cons ?_ (OC t (by simpa using hl) λi v hv=>?_)
   ·obtain⟨k,x,e,hk⟩:=h 0 u rfl;simp at e;subst e;rw[r.1];exact u5 hk
   ·obtain⟨k,x,e,hk⟩:=h (i+1) v (by simpa using hv);exact⟨k,x,by simpa using e,hk⟩
def GF:OA:=λxs mh Q=>∃n kvs,xs=[.ref n]/\iE mh n false kvs/\Q (.ref mh.length) (mh++[.lst (kvs.map (·.1))])
theorem PV(j:X.calm=true):cE X (.type "list") (dU X.K GF):=by
 intro pins s σ H xs us Q I r q;obtain⟨μ,mh,ds,R,g,k,⟨n,kvs,rfl,e,q⟩,F⟩:=q;obtain⟨v,rfl,m⟩:=hJ k;obtain⟨u,rfl,t⟩:=vals1 r;obtain⟨a,vs,B,rfl,w,⟨kk,z,x,rfl⟩,l⟩:=jP g m e;cases z;cases t;obtain⟨C,ep,d,hz,src,f⟩:=LU I w;have h:=d.length;refine kdl_call src (I.ok.hd j) f (by lia) λh' tk acc c hk y b=>?_;have A:Vals (kk.map λp=>kV p.1) acc.toList:=OC d (by simpa using b.1) λi v hv=>b.2 i v (by simpa using hv);refine⟨.ref s.heap.objs.size,_,I.laid (a:=s.heap.objs.size) (o:= .lst (kk.map λp=>kV p.1)) (t' :=tk) hk (aHw _) ⟨by simpa using hz,acc.toList,c,A,by simpa using y⟩,rfl,?_⟩;rw[x]at q;exact jM g F (n6 kk) q _ (I.bJ.fresh (aHw _))
variable{P:Nat->Value->Prop}
theorem BF{prog:Program}{w:World}{A:Around}{E:aLx}{s:Shared}{d:Addr}{n:Nat}{l:Heap->Prop}{R:List Value->Shared->Prop}(K:KdlSrc prog w "dict" d d n P l)(p:A.handled=none)(bJ:l s.heap)(r:n<=sizeLine)
  (h:∀(h' :Heap) (tk:Nat) (acc:Array Value),s.heap.objs.size<=h'.objs.size->(∀b o,s.heap.get? b=some o->h'.get? b=some o)->ItemsOf P acc n->R acc.toList {s with heap:=h',toks:=tk}):
  wpAny (model prog w) A (collect (.ref d)) R E s:=by
 have i:=aJ4 (K.there _ bJ).1;unfold collect;refine aHs (aLn (aJe entry_proto_collect' ?_));rw[Around.under_plainId PySem.F.plain_proto_collect _];refine aHs (aIe (aHt ⟨aJm PySem.F.plain_list_iadd _,aJe entry_list_iadd' ?_⟩));rw[Around.under_plainId PySem.F.plain_list_iadd _]
 have key:=kdl_extend (A:=A) (s:={s with heap:=s.heap.push {cls:= .type "list",data:= .seq ([]:List Value).toArray}})
  (R:=λ(q:Result) (j :Shared)=>∃(h' :Heap) (tk:Nat) (a :Array Value) (c' :Nat),q= .ok (.ret (.ref s.heap.objs.size))/\j ={s with heap:=h',toks:=tk}/\(∀b o,s.heap.get? b=some o->h'.get? b=some o)/\h'.get? s.heap.objs.size=some {cls:= .type "list",dict:=none,data:= .seq a c',slots:= #[]}/\ItemsOf P a n)
  K p (K.keep _ _ bJ λb _ o e=>aHu _ e) s.heap.objs.size i i (.ref s.heap.objs.size) 0 (aHy _ rfl)
  (λh' tk a c' hk g c=>⟨h',tk,a,c',rfl,rfl,λb o e=>hk b o (aI4 (aHz e)) (aHu _ e),g,c⟩) r
 refine aIk key (λk j x=>?_) λe j x=>?_
 ·cases k with
  | done f=>
   obtain⟨h',tk,a,c',e,rfl,hk,g,c⟩:=x;cases e;exact aHs (aLk g (aHt (h h' tk a (aJ6 (aHz g)) hk c)))
  | again c₁=>
   refine⟨x.1,aJy x.2 λq m y=>?_⟩;obtain⟨h',tk,a,c',rfl,rfl,hk,g,c⟩:=y;exact aHs (aLk g (aHt (h h' tk a (aJ6 (aHz g)) hk c)))
 ·obtain⟨_,_,_,_,t,_⟩:=x;cases t
theorem rR{prog:Program}{w:World}{d:Addr}{n:Nat}{m:Heap->Prop}(K:KdlSrc prog w "dict" d d n P m)(q:n<=sizeLine):
  MeetsIn prog w (Builtin.«tuple.__new__» ⟨[.type "tuple",.ref d],[]⟩)
   (λA R s=>A.handled=none/\m s.heap/\∀(h' :Heap) (tk:Nat) (acc:Array Value),s.heap.objs.size<=h'.objs.size->(∀b o',s.heap.get? b=some o' ->h'.get? b=some o')->ItemsOf P acc n->R (.ok (.ret (.ref h'.objs.size))) {s with heap:=h'.push {cls:= .type "tuple",data:= .seq acc},toks:=tk}):=
 .of_wp λA R s ⟨r,bJ,h⟩=>by
  obtain⟨i,g,j,tk,os⟩:=s;have p:=sub_tuple_self;have k:=init_tuple_lookup;have t:=madeHere_tuple;have u:Shared.TypeIs ⟨i,g,j,tk,os⟩ (.ref d) "dict":=K.type _ bJ;have a:∀(E:aLx) (l :List Value->Shared->Prop),(∀(h' :Heap) (f :Nat) (acc:Array Value),i.objs.size<=h'.objs.size->(∀b o,i.get? b=some o->h'.get? b=some o)->ItemsOf P acc n->l acc.toList ⟨h',g,j,f,os⟩)->wpAny (model prog w) A.in1 (collect (.ref d)) l E ⟨i,g,j,tk,os⟩:=λE l h=>BF K r bJ q h;unfold Builtin.«tuple.__new__»;generalize collect=x at a⊢
  wp_walk using aL0 u
  refine a _ _ λh' f acc hsz hk c=>?_;show wpAny _ _ (Builtin.Tuple.tupleExact acc.toList.toArray >>=λv=>ret v) _ _ _;unfold Builtin.Tuple.tupleExact;have y:acc.size=n:=c.1;refine aHs (aIe ?_ (by show acc.toList.toArray.size<=sizeLine;simp;lia));refine aHt ⟨_,rfl,?_⟩;have e:acc.toList.toArray=acc:=by simp
  rw[e];exact h h' f acc hsz hk c
def BQ:OA:=λxs mh Q=>∃n kvs,xs=[.ref n]/\iE mh n false kvs/\Q (.tup (kvs.map (·.1))) mh
theorem KI(j:X.calm=true):cE X (.type "tuple") (dU X.K BQ):=by
 intro pins s σ H xs us Q I r q;obtain⟨μ,mh,ds,R,g,k,⟨n,kvs,rfl,e,q⟩,F⟩:=q;obtain⟨v,rfl,m⟩:=hJ k;obtain⟨u,rfl,t⟩:=vals1 r;obtain⟨a,vs,B,rfl,w,⟨kk,z,x,rfl⟩,l⟩:=jP g m e;cases z;cases t;obtain⟨C,ep,d,hz,src,f⟩:=LU I w;have h:=d.length;refine callType_newIn PySem.F.called_tuple (by decide) (PySem.F.typeCall_tuple_1 _) (PySem.F.newCall_tuple_1 _) (λobj=>PySem.F.args_object_init_2 obj _) PySem.F.entry_tuple_new (rR src (by lia)) ⟨I.ok.hd j,f,λh' tk acc hsz hk c=>?_⟩;have y:Vals (kk.map λp=>kV p.1) acc.toList:=OC d (by simpa using c.1) λi v hv=>c.2 i v (by simpa using hv);refine⟨(IsTup.new h' acc).typeIs,.ref h'.objs.size,_,I.laid (a:=h'.objs.size) (o:= .tup (kk.map λp=>kV p.1)) (t' :=tk) (λb o' A=>aHu _ (hk b o' A)) hsz ⟨by simpa using hz,_,y,IsTup.new _ _,uV _ _⟩,rfl,?_⟩;rw[x]at q;exact oA g F (n6 kk) q _ (I.bJ.fresh hsz)
end
def isKey:Value->Bool
 | .int .. =>true
 | .str .. =>true
 | _=>false
def noU(o:Obj):Bool:=match o.data with | .seq aL _=>decide (aL.size<2) && aL.all (λv=>!isKey v) | _=>true
def NoU(K:aLw):Prop:=∀a o,K.lookup a=some o->noU o=true
theorem YS:∀{K:aLw},(K.all λp=>noU p.2)=true->NoU K
 | [],_,a,o,e=>by cases e
 | (b,u)::K,h,a,o,e=>by
  simp only[List.all_cons,Bool.and_eq_true]at h;rw[List.lookup_cons]at e;split at e
  ·cases e;exact h.1
  ·exact YS h.2 a o e
theorem OT{k:Key}{u:Value}(r:RelV (kV k) u):isKey u=true:=by
 cases k with
 | inl i=>obtain⟨t,rfl⟩:=r;rfl
 | inr x=>obtain⟨t,rfl⟩:=r;rfl
theorem KU.aH0{K:aLw}{H:Hp}{a:Addr}{ks:List Key}(b:NoU K)(h:KU K H a (ks.map kV))(c:ks≠[]):H a=some (.tup (ks.map kV)):=by
 rcases h with h | ⟨o,aL,n,e,_,_,d,_,r⟩
 ·exact h
 ·have:=b a o e;simp only[noU,d,Bool.and_eq_true]at this
  cases ks with
  | nil=>exact absurd rfl c
  | cons k ks=>
   obtain⟨l⟩:=aL
   cases r with
   | cons r t=>
    have f:=this.2;simp[OT r]at f
section
variable {X:Cx}{o i x:Expr}{wo wi wx:WE}{apos dP pos lK:Pos}
def TB:O2:=λx y mh Q=>∃(n:Nat) (kvs:List (D×D)) (ks:List Key) (d:D),x= .ref n/\iE mh n true kvs/\y= .tup (ks.map aW)/\aU kvs y=some d/\Q d mh
theorem ixU(W:X.A.units+64<cLine):QX X (bC X.K TB):=by
 intro c f pins s σ H x y v u Q I C D q E;obtain⟨μ,mh,dx,Y,R,k,G,J,⟨n,kvs,ks,d,rfl,e,rfl,hd,q⟩,F⟩:=q;obtain⟨a,vs,Z,rfl,L,M,l⟩:=jP k G e;obtain⟨kk,z,N,rfl⟩:=M;cases z;obtain⟨b,ws,rfl,sq,O⟩:=dS J;cases f9 O;cases C;cases D;obtain⟨z,P,xs,i,m⟩:=qW I.bJ L
 rcases kG ks N l with ⟨_,z⟩ | ⟨d',w,S,t,T⟩
 ·rw[hd]at z;cases z
 ·rw[hd]at t;cases t;have B:=m.typeIs (s:=s);obtain⟨w',U,j⟩:=w4.some_of (v:=w) (o:=(atKey xs ks).map (·.2)) (by rw[<-S];exact i.val ks);obtain⟨p,V,rfl⟩:=aI3.mp U;unfold subscriptTail;refine aHs ?_;rw[getitemInPython_of_ne B.not_modules];refine aHs (wpAny_specialOf B PySem.F.slot_dict_getitem.lookup ?_)
  have g:wpAny (model X.prog X.w) X.A (subscripted f false (.ref a) (.ref b)) (λr h=>wpAny (model X.prog X.w) X.A (letTemporaryGo c (.ref a) r >>=λ_=>pure r) (EP X pins σ Q) X.xe h) X.xe s:=by
   rw[E];exact wpAny_operating (wpAny_getItem_heap (aJl (by lia)) (AV I sq) m V (aHs (wpAny_letTemporaryGo (aHt ⟨w,H,I.tok _,j,F.here k q T⟩))))
  first
   | exact aHt (aHs g)
   | exact aHs (aHt (aHs g))
   | exact aHs g
theorem MV{K ty L:TE}(hu:X.A.units+64<cLine)(ho:PE X o K)(he:PE X i ty)(U:PE X x L)(m:M2 X o "setdefault" apos i x dP):PE X (.Call (.Attribute o "setdefault" apos) [i,x] [] dP)
  (λσ H Q=>K σ H λx l=>∃a,x= .ref a/\IsD l a/\ty σ l λy r=>L σ r λz k=>∃kvs ks b,k a=some (.dT kvs)/\y= .ref b/\k b=some (.tup (ks.map kV))/\kvs.length<sizeLine/\(∀v,gS kvs ks=some v->Q v k)/\(gS kvs ks=none->Q z (upd k a (.dT (putK kvs ks z))))):=by
 intro pins s σ H Q I h;refine wpAny_Call_method m.base m.UW m.line PySem.F.plainAttrs_dict aJp aLi (b6 (ho pins s σ H _ I h) λu s1 t=>?_);obtain⟨x,l,M,V,a,ex,d,q1⟩:=t;subst ex;obtain rfl:u=Value.ref a:=V;obtain⟨W,Y,_⟩:=OU M d;refine⟨W,Y,?_⟩;rw[m.trees];refine aL1 rfl (aLd (aJk (b6 (he pins s1 σ l _ M q1) λZ s2 B=>?_)));obtain⟨y,r,I2,ry,q2⟩:=B;refine aJk (b6 (U pins s2 σ r _ I2 q2) λfv s3 C=>aKe ?_);obtain⟨z,k,n,N,kvs,ks,b,e,ey,O,hlt,qa,qb⟩:=C;subst ey;obtain rfl:Z=Value.ref b:=ry;obtain⟨zz,hd,xs,g,D⟩:=PL n.bJ e;have hz:xs.length<=sizeLine:=by rw[<-Paired.length g];exact zz
 have f:=g.val ks
 refine call_meetsIn aJp D.typeIs aLf (aLc _ _ _) (qO (tupleKind (aS X.prog X.w)) a b hd fv)
  ⟨aJl (by lia),ks,xs,L2.rV n.bJ O,D,hz,λj p hj=>?_,λE h' G hs=>?_⟩
 ·obtain⟨_,_,_,_,_,_,_,_,nd⟩:=D;rw[atKey_of_get nd hj]at f
  cases hvv:gS kvs ks with
  | none=>rw[hvv]at f;exact f.elim
  | some J =>rw[hvv]at f;exact⟨J,k,n.tok _,f,qa J hvv⟩
 ·have P:=atKey_none_of_get E;rw[P]at f
  cases hvv:gS kvs ks with
  | some J =>rw[hvv]at f;exact f.elim
  | none=>
   have hl:(putK kvs ks z).length<=sizeLine:=by have:=nH kvs ks z;lia
   have R:=g.put ks O N;rw[storedH_new P]at R;obtain⟨q,es,ep,S,h2,h3,h4,_,h5⟩:=G;refine⟨z,_,oE (ob:= .dT (putK kvs ks z)) (t' :=s3.toks+(tupleKind (aS X.prog X.w)).draws ks) n (by rw[e];exact True.intro) hs ⟨q,S⟩ ⟨hl,hd,_,R.keeps λc ys T=>?_,q,es,ep,S,h2,h3,h4,h5⟩,N,qb hvv⟩;rw[aO (WH T e (λz=>nomatch z))];exact T
def zJ(wo wi wx:WE):WE:=λc mh Q=>wo c mh λo b=>∃n,o= .ref n/\(∃kvs,b[n]? =some (.bM true kvs))/\wi c b λi e=>wx c e λx a=>∃(kvs:List (D×D)) (ks:List Key),a[n]? =some (.bM true kvs)/\i= .tup (ks.map aW)/\ks≠[]/\kvs.length<sizeLine/\
 (∀d,aU kvs i=some d->Q d a)/\(aU kvs i=none->Q x (a.set n (.bM true (putD kvs i x))))
@[simp] theorem aF3 {c:dY}{mh:MH}{Q:DK}:zJ wo wi wx c mh Q=(wo c mh λo b=>∃n,o= .ref n/\(∃kvs,b[n]? =some (.bM true kvs))/\wi c b λi e=>wx c e λx a=>∃(kvs:List (D×D)) (ks:List Key),a[n]? =some (.bM true kvs)/\i= .tup (ks.map aW)/\ks≠[]/\kvs.length<sizeLine/\
 (∀d,aU kvs i=some d->Q d a)/\(aU kvs i=none->Q x (a.set n (.bM true (putD kvs i x))))):=rfl
theorem NZ(Y:NoU X.K)(Z:X.A.units+64<cLine)(ho:LE X o wo)(hi:LE X i wi)(hx:LE X x wx)(base:attributeBase o "setdefault" X.env (eval o X.env)=eval o X.env:=by rfl)
  (UW:((backTo dP (starEach [i,x] X.env)).all (λx=>!x.1) && (backToKw dP (keywordEach [] X.env)).all (λx=>x.1.isSome) && decide (([i,x]:List Expr).length+([]:List Keyword).length+(if ([]:List Keyword).isEmpty then 0 else 1)<30))=true:=by rfl)
  (line:(apos.endLine==dP.line)=true:=by rfl) (trees:backTo dP (starEach [i,x] X.env)=[(false,eval i X.env),(false,eval x X.env)]:=by rfl):
  LE X (.Call (.Attribute o "setdefault" apos) [i,x] [] dP) (zJ wo wi wx):=PE.imp (MV Z ho hi hx ⟨base,UW,line,trees⟩) λσ H Q h=>by
 obtain⟨μ,p,mh,R,r,En,h,F⟩:=h;refine⟨μ,p,mh,_,r,En,h,λdo' s q t vo H1 u y O=>?_⟩;obtain⟨n,rfl,⟨P,e0⟩,q⟩:=q;obtain⟨a,_,rfl,_,⟨z,B,_,_⟩,_⟩:=pJ y O e0;refine⟨a,rfl,.inr ⟨z,.inl B⟩,t,p,s,_,y,En.mono r u,q,λdi C q2 E vi H2 G R2 I2=>?_⟩;refine⟨E,p,C,_,R2,En.mono r (u.trans G),q2,λdx I q3 c S J L j T=>?_⟩;obtain⟨kvs,ks,e,rfl,M,hz,qa,qb⟩:=q3;obtain⟨a',vs,ea,U,⟨kk,hv,m,rfl⟩,l⟩:=pJ j (Is.mono y (G.trans L) _ _ O) e;cases ea;obtain⟨b,ys,rfl,sq,ly⟩:=AW (Is.mono R2 L _ _ I2);cases f9 ly;have V:=F.at ((u.trans G).trans L);have ln:kk.length=kvs.length:=by have:=aJ7 List.length m;simp at this;lia
 refine⟨kk,ks,b,hv,rfl,sq.aH0 Y M,by lia,λv d=>?_,λd=>?_⟩
 ·rcases kG ks m l with ⟨g,k⟩ | ⟨d',w,g,k,W⟩
  ·rw[d]at g;cases g
  ·rw[d]at g;cases g;exact V.here j (qa d' k) W
 ·rcases kG ks m l with ⟨g,k⟩ | ⟨d',w,g,k,W⟩
  ·have N:aJ c J c (upd J a (.dT (putK kk ks S))):=aJ.set j U;obtain⟨p1,p2⟩:=zW (f:=λks:List Key=>D3.D.tup (ks.map aW)) OI ks T m l;have R4:Rep X.K c (I.set n (.bM true (putD kvs (.tup (ks.map aW)) dx))) (upd J a (.dT (putK kk ks S))):=uJ j U (by trivial) ⟨_,⟨_,aR,p1,rfl⟩,p2.mono j N⟩;exact V _ _ (qb k) c _ _ N R4 (Is.mono j N _ _ T)
  ·rw[d]at g;cases g
end
def GU(w:WE):WT:=λb mh Q=>w b mh λx a=>∃n kvs,x= .ref n/\iE a n false kvs/\Q (!kvs.isEmpty) a
@[simp] theorem aG6 {w:WE}{b:dY}{mh:MH}{Q:Bool->MH->Prop}:GU w b mh Q=(w b mh λx a=>∃n kvs,x= .ref n/\iE a n false kvs/\Q (!kvs.isEmpty) a):=rfl
theorem TZ{X:Cx}{a:Expr}{f:WE}(r:LE X a f)(he:∀c,isTrue a X.env c=(do let v<-c;standAt a.pos;holding [v] (truthy v)):=by intro _;rfl):LT X a (GU f):=by
 have t:PT X a (λσ H Q=>tL X.K f σ H λx H' =>∃b kk,x= .ref b/\Rd H' b (.dK kk)/\Q (!kk.isEmpty) H'):=by
  intro pins s σ H Q I h;refine isTrue_plain (b6 (r pins s σ H _ I h) λv s1 u=>?_) (he _);obtain⟨x,g,d,r1,b,kk,rfl,i,q⟩:=u;cases r1;obtain⟨z,hd,vs,j,w⟩:=qX d.bJ i;have G:=j.length;have sz:=aIf;refine wpAny_truthy_dict hd w (by lia) ⟨g,d.tok _,?_⟩;have e:vs.isEmpty=kk.isEmpty:=by cases kk <;> cases vs <;> simp_all
  rw[e];exact q
 refine PT.imp t λσ H Q h=>?_;obtain⟨μ,y,mh,R,A,E,h,F⟩:=h;refine⟨μ,y,mh,_,A,E,h,λdx k m o J g B p d=>?_⟩;obtain⟨n,kvs,rfl,e,m⟩:=m;obtain⟨a,vs,L,rfl,i,⟨kk,z,C,rfl⟩,l⟩:=jP (X:=X) p d e;cases z;refine⟨a,kk,rfl,i,?_⟩
 have D:kk.isEmpty=kvs.isEmpty:=by
  have:=aJ7 List.length C;cases kk <;> cases kvs <;> simp_all
 rw[D];exact F _ k m o g B p
section
variable {P:Program}{W:World}{K:aLw}{mg:aLz}{base:Heap}{N:List Str}{q:Str}{S:Stmt}{f:Addr}{cd:Value}{A:Around}{o:List Env}{s:Shared}{H:Hp}{E:XK}
variable {tg iter ek ev:Expr}{ifs:List Expr}{scope:Scope}{pos:Pos}{wi:WI}{g:TG}{gd:WG}{t:WT}{wk wv:WE}(own:List Str)(aE:List Nat)
theorem JQ{i:Nat}{x:Str}{a c:Pos}(chk:cB N (aF S) scope aE=true)(nd:(cN N own aE).Nodup)(d:gY K g gd)(ho:kW own.length g)
  (hN:N.Nodup) (hi:LI (cF P W K mg base N q S f cd A o s H E) tg iter wi)
  (hg:(cN N own aE).Nodup->∀cl C fp s₀ H₀,PG (aH (cF P W K mg base N q S f cd A o s H E) own aE scope cl C fp s₀ H₀) tg g) (ht:∀cl C fp s₀ H₀,BX (aH (cF P W K mg base N q S f cd A o s H E) own aE scope cl C fp s₀ H₀) ifs t)
  (hk:∀cl C fp s₀ H₀,LE (aH (cF P W K mg base N q S f cd A o s H E) own aE scope cl C fp s₀ H₀) ek wk) (hv:∀cl C fp s₀ H₀,LE (aH (cF P W K mg base N q S f cd A o s H E) own aE scope cl C fp s₀ H₀) ev wv)
  (b:N[i]? =some x:=by rfl) (e:Loc (cF P W K mg base N q S f cd A o s H E).env.scope x:=by first | exact Or.inl rfl | exact Or.inr rfl) (h:swapsWith (.DictComp ek ev [⟨tg,iter,ifs,0⟩] scope pos) (some (.Name x a)) c.line (cF P W K mg base N q S f cd A o s H E).env=pure true:=by rfl)
  (j:(cF P W K mg base N q S f cd A o s H E).fn x=true\/(cF P W K mg base N q S f cd A o s H E).env.scope.names.lookup x=some .local:=by first | exact .inl rfl | exact .inr rfl | assumption)
  (k:∀x,foldedSetIterable iter (cF P W K mg base N q S f cd A o s H E).env x=pure x:=by intro _;rfl):LS (cF P W K mg base N q S f cd A o s H E) (.Assign [.Name x a] (.DictComp ek ev [⟨tg,iter,ifs,0⟩] scope pos) c) (bI (QR own aE wi gd t wk wv) (gN i)):=
 NV i hN (N:=N) (sc:=aF S) own aE rfl rfl chk rfl hi ho d (hg nd) ht hk hv b e h j k
end
def aBn(tv:TE):TE:=λσ H Q=>∀p,H p=none->∀q,upd H p (.dT []) q=none->tv σ (upd (upd H p (.dT [])) q (.tup [])) λy a=>∃b c,[(V.ref q,y)]=[(V.ref b,c)]/\a p=some (.dT [])/\a b =some (.tup [])/\Q (.ref p) (upd a p (.dT [([],c)]))
section
variable {X:Cx}{v:Expr}{pos kp:Pos}{tv:TE}{wv:WE}
theorem SV{x1}(M:X.A.units+64<cLine)(hv:PE X v tv):PE X (.Dict [some (.Tuple [] x1 kp)] [v] pos) (aBn tv):=by
 intro pins s σ H Q I q;have p:=I.bJ.fresh (aHw s.heap.objs.size);have u:=I.laid (a:=s.heap.objs.size) (o:= .dT []) (h' :=s.heap.push {cls:= .type "dict",data:= .dict #[]}) (t' :=s.toks) (λ_ _ q=>aHu _ q) (aHw _) (DT s.heap I.big);have w:PPs X pos [some (.Tuple [] x1 kp)] [v] [(aBh (λσ H Q=>Q [] H),tv)]:=MQ (MT vB) hv SM;refine wpAny_Dict_any rfl rfl (by simp) (by simp) (b6 (w pins _ σ _ (λps f=>∃e y,ps=[(.ref e,y)]/\f s.heap.objs.size=some (.dT [])/\f e =some (.tup [])/\Q (.ref s.heap.objs.size) (upd f s.heap.objs.size (.dT [([],y)]))) u ⟨aIx _,λe g =>?_⟩) λN s2 x=>?_)
 ·exact q _ p e g
 ·obtain⟨ps,O,h,d,e,y,rfl,i,l,q2⟩:=x
  cases d with
  | cons r t=>
   cases t;rename_i b;obtain⟨B,P⟩:=b;obtain rfl:B=Value.ref e :=r.1;obtain⟨z,hd,xs,d,C⟩:=PL h.bJ i;have D:xs=[]:=by cases d;rfl
   subst D;unfold storeAll;rw[List.forIn_cons];refine aHs (aHs (wpAny_dictSet_heap (k:=([]:List Key)) (hsz:=aIx _) (by show X.A.units<cLine;lia) (L2.rV h.bJ l) C λh' j E=>aHt ?_));refine aHt ?_;have F:=d.put ([]:List Key) l r.2;obtain⟨q,es,ep,m,G,J,K,_,L⟩:=j;refine⟨.ref s.heap.objs.size,_,oE (ob:= .dT [([],y)]) h (by rw[i];exact True.intro) E ⟨q,m⟩ ⟨by show 1<=sizeLine;rw[sizeLine_eq];decide,hd,_,F.keeps λc R n=>?_,q,es,ep,m,G,J,K,L⟩,rfl,q2⟩;rw[aO (WH n i (λz=>nomatch z))];exact n
def GX(wv:WE):WE:=λb mh Q=>wv b (mh++[.bM true []]) λx a=>a[mh.length]? =some (.bM true [])/\Q (.ref mh.length) (a.set mh.length (.bM true [(.tup [],x)]))
@[simp] theorem aGo {b:dY}{mh:MH}{Q:DK}:GX wv b mh Q=(wv b (mh++[.bM true []]) λx a=>a[mh.length]? =some (.bM true [])/\Q (.ref mh.length) (a.set mh.length (.bM true [(.tup [],x)]))):=rfl
theorem UI{x1}(t:X.A.units+64<cLine)(hv:LE X v wv):LE X (.Dict [some (.Tuple [] x1 kp)] [v] pos) (GX wv):=PE.imp (SV t hv) λσ H Q h=>by
 obtain⟨μ,u,mh,R,b,E,h,F⟩:=h;intro p n q e;have o:aJ μ H (μ++[p]) (upd H p (.dT [])):=aJ.CZ b n;have f:Rep X.K (μ++[p]) (mh++[.bM true []]) (upd H p (.dT [])):=b.TK n ⟨[],⟨[],aR,rfl,rfl⟩,by simp[IsL]⟩;have r:aJ (μ++[p]) (upd H p (.dT [])) (μ++[p]) (upd (upd H p (.dT [])) q (.tup [])):=aJ.new f e;have R2:Rep X.K (μ++[p]) (mh++[.bM true []]) (upd (upd H p (.dT [])) q (.tup [])):=f.new e;refine⟨μ++[p],u,_,_,R2,E.mono b (o.trans r),h,λx g i a y j k c w=>?_⟩;obtain⟨z,i⟩:=i;have d:a[mh.length]? =some p:=k.get (by rw[<-b.len];simp);obtain⟨B,⟨l,C,D,J⟩,_⟩:=c.obj _ _ _ d z;have:l=[]:=by simpa using D.symm
 subst this;have m:q∉μ++[p]:=λG=>f.ne e G rfl;refine⟨q,y,rfl,C,k.fr _ _ aR m,?_⟩;have s:aJ a j a (upd j p (.dT [([],y)])):=aJ.set c d;have I:Rep X.K a (g.set mh.length (.bM true [(.tup [],x)])) (upd j p (.dT [([],y)])):=uJ c d (by trivial) ⟨[y],⟨_,aR,rfl,rfl⟩,fN (Is.mono c s _ _ w)⟩;exact F _ _ i a _ _ (((o.trans r).trans k).trans s) I (by unfold Is;exact⟨p,d,rfl⟩)
end
theorem VF:bootBuiltins "dict"=some (.type "dict"):=by decide+kernel
def GG:OA:=λxs mh Q=>∃n kvs,xs=[.ref n]/\iE mh n false kvs/\Q (.ref mh.length) (mh++[.bM false kvs])
theorem PX{X:Cx}:cE X (.type "dict") (dU X.K GG):=by
 intro pins s σ H xs us Q I r q;obtain⟨μ,mh,ds,R,c,j,⟨n,kvs,rfl,e,q⟩,F⟩:=q;obtain⟨v,rfl,k⟩:=hJ j;obtain⟨u,rfl,m⟩:=vals1 r;obtain⟨a,vs,B,rfl,p,⟨kk,z,t,rfl⟩,l⟩:=jP c k e;cases z;cases m;obtain⟨z,hd,w,d,x⟩:=qX I.bJ p;have g:=I.bJ.fresh (aHw s.heap.objs.size);refine kt_call_dict hd x (by rw[<-d.length];exact z) λh' f y=>?_;have hk:∀b o',s.heap.get? b=some o' ->h'.get? b=some o' :=λb o' h=>(y.2 b (aI4 (aHz h))).trans (aHu _ h);have A:(s.heap.objs.size==sysModules)=false:=aKm.mpr (aIg (aI4 I.big));refine⟨.ref s.heap.objs.size,_,I.laid (a:=s.heap.objs.size) (o:= .dK kk) (t' :=s.toks) hk (aHw _) ⟨z,A,w,d,f⟩,rfl,?_⟩;have i:aJ μ H (μ++[s.heap.objs.size]) (upd H s.heap.objs.size (.dK kk)):=aJ.CZ c g;exact F _ _ q (μ++[s.heap.objs.size]) _ _ i (c.TK g ⟨kk.map (·.2),⟨kk,aR,t,rfl⟩,l.mono c i⟩) (by unfold Is;exact⟨s.heap.objs.size,by rw[<-c.len];simp,rfl⟩)
end D3
namespace L2
open PySem PySem.Spec PyProof.Rows
def zO(f0:Value)(f1:Bool)(TI TO:Addr):Obj:={cls:= .type "zip",dict:=none,data:= .fields #[f0,.bool f1,.bool false,.ref TI,.ref TO],slots:= #[]}
structure lW(h:Heap)(z TI TO:Addr)(q r:Src)(i:Nat):Prop where
 obj:∃(f0:Value) (f1:Bool),(f0= .none\/∃a:Nat,f0=rawInt a)/\h.get? z=some (zO f0 f1 TI TO)
 aL:∃n,h.get? TI=some {cls:= .type "tuple",data:= .seq #[.ref q.it,.ref r.it] n}
 own:∃(x y:Value) (n:Nat),h.get? TO=some {cls:= .type "tuple",data:= .seq #[x,y] n}
 KQ:q.At h i
 at2:r.At h i
variable{q r:Src}{i:Nat}
theorem lW.to{h h' :Heap}{z TI TO:Addr}(Z:lW h z TI TO q r i)(k:∀b o,b=z\/b=TI\/b=TO\/b=q.it\/b=r.it->h.get? b=some o->h'.get? b=some o):lW h' z TI TO q r i:=by
 obtain⟨⟨f0,f1,a,hz⟩,⟨n,c⟩,⟨x,y,m,d⟩,f,g⟩:=Z;exact⟨⟨f0,f1,a,k _ _ (.inl rfl) hz⟩,⟨n,k _ _ (.inr (.inl rfl)) c⟩,⟨x,y,m,k _ _ (.inr (.inr (.inl rfl))) d⟩,f.to λo e=>k _ _ (.inr (.inr (.inr (.inl rfl)))) e,g.to λo e=>k _ _ (.inr (.inr (.inr (.inr rfl)))) e⟩
structure tG(z TI TO:Addr)(q r:Src):Prop where
 n1:TI≠z
 n2:TO≠z
 n3:TI≠TO
 q1:q.it≠z
 q2:q.it≠TI
 q3:q.it≠TO
 r1:r.it≠z
 r2:r.it≠TI
 r3:r.it≠TO
 qr:q.it≠r.it
 l1:q.l≠z/\q.l≠TO/\q.l≠q.it/\q.l≠r.it
 l2:r.l≠z/\r.l≠TO/\r.l≠q.it/\r.l≠r.it
section
variable {prog:Program}{w:World}{A:Around}{E:aLx}{s:Shared}
theorem KR{a:Addr}{Q:Option Obj->Shared->Prop}(h:Q (s.heap.get? a) s):wpAny (model prog w) A (loadIfAlive a) Q E s:=λ_ _ _=>h
theorem A6{z TI TO:Addr}{f0:Value}{f1:Bool}{Q:Bool->Shared->Prop}(d:f0= .none\/∃a:Nat,f0=rawInt a)(hz:s.heap.get? z=some (zO f0 f1 TI TO))(b:Q true s)
  (c:∀h',h'.get? z=some (zO f0 true TI TO)->Heap.SameBut z s.heap h' ->Q false {s with heap:=h'}):wpAny (model prog w) A (Builtin.SmallTypes.ownedTupleIsFree (.ref z)) Q E s:=by
 unfold Builtin.SmallTypes.ownedTupleIsFree;refine aHs (aIc hz rfl (x:=f0) rfl ?_);rcases d with rfl | ⟨a,rfl⟩
 ·exact aHt b
 ·show wpAny _ _ (loadIfAlive ((a:Int).toNat) >>=_) _ _ _;refine aHs (KR ?_);generalize s.heap.get? (a:Int).toNat=o
  cases o with
  | none=>exact aHt b
  | some o=>
   simp only[Option.isNone_some,Bool.false_eq_true,if_false];refine aHs (aIc hz rfl (x:= .bool f1) rfl ?_)
   cases f1 with
   | true=>
    rw[if_neg (show ¬((Value.bool true !=Value.bool true)=true) from Bool.false_ne_true)];exact aHt (c _ hz (Heap.SameBut.refl _ _))
   | false=>
    rw[if_pos (show (Value.bool false !=Value.bool true)=true from rfl)];exact aHs (aI6 hz (by simp) λe f g=>aHt (c e f g))
variable{xs ys:Array Value}
theorem HX{z TI TO:Addr}{x y:Value}{Q:aLx}(D:tG z TI TO q r)(Z:lW s.heap z TI TO q r i)
  (Y:q.Sq s.heap xs) (hs2:r.Sq s.heap ys) (hx:xs[i]? =some x) (hy:ys[i]? =some y)
  (hQ:∀h' p,s.heap.objs.size<=p->lW h' z TI TO q r (i+1)->h'.get? p=some {cls:= .type "tuple",data:= .seq #[x,y]}->
   (∀c o,c≠z->c≠TO->c≠q.it->c≠r.it->s.heap.get? c=some o->h'.get? c=some o)->Q (.ref p) {s with heap:=h'}):
  wpAny (model prog w) A (Builtin.«zip.__next__» ⟨[.ref z],[]⟩) (λfin s' =>∃v,fin= .done (.ret v)/\Q v s') E s:=by
 obtain⟨⟨f0,f1,hf,hz⟩,⟨nI,O⟩,⟨x0,y0,n0,hTO⟩,h1,h2⟩:=Z;refine aHs (m:=field (.ref z) 2) (aIc hz rfl (x:= .bool false) rfl ?_);refine aHs (m:=field (.ref z) 3) (aIc hz rfl (x:= .ref TI) rfl ?_);refine aHs (m:=seqItems? (.ref TI)) (aIq O rfl ?_);refine aHs (m:=Builtin.SmallTypes.ownedTupleIsFree (.ref z)) (A6 hf hz ?_ λh0 hz0 M=>?_)
 ·simp only[if_true];refine aHs (aJ0 ?_);refine aHs (aIc hz rfl (x:= .ref TO) rfl ?_);refine aHs (aI6 hz (by simp) λJ u j=>?_)
  replace u:J.get? z=some (zO .ellipsis f1 TI TO):=u
  refine aHs ?_;simp only[List.zipIdx_cons,List.zipIdx_nil,List.forIn_cons,List.forIn_nil];refine aHs (aHs (aKb ?_));show wpAny _ _ (Builtin.SmallTypes.nextOf (.ref q.it) >>=_) _ _ _;refine aHs (Src.item (s:={s with heap:=J}) (h1.to λo e=>j.extBut _ _ D.q1 e) (Y.to λo e=>j.extBut _ _ D.l1.1 e) hx λf B a=>aHt ?_)
  replace a:Heap.SameBut q.it J f:=a
  have l:=a.extBut _ _ (aIg D.q3) (j.extBut _ _ D.n2 hTO);refine aHs (aIq l rfl ?_);refine aHs (aJf l rfl ?_);have h:=aJ3 (Obj.mapSeq λz=>z.setIfInBounds 0 x) l (by rfl);have k:Heap.SameBut TO f (f.update TO (Obj.mapSeq λz=>z.setIfInBounds 0 x)):=aIo ..;generalize f.update TO (Obj.mapSeq λz=>z.setIfInBounds 0 x)=h₃ at h k⊢
  replace h:h₃.get? TO=some {cls:= .type "tuple",data:= .seq #[x,y0] n0}:=h
  refine aHs (aJr (aHt ?_));refine aHs (aHs (aKb ?_));show wpAny _ _ (Builtin.SmallTypes.nextOf (.ref r.it) >>=_) _ _ _;have k3:∀c o,c≠z->c≠TO->c≠q.it->s.heap.get? c=some o->h₃.get? c=some o:=λc o C P N e=>k.extBut _ _ P (a.extBut _ _ N (j.extBut _ _ C e));refine aHs (Src.item (s:={s with heap:=h₃}) (h2.to λo e=>k3 _ _ D.r1 D.r3 (aIg D.qr) e) (hs2.to λo e=>k3 _ _ D.l2.1 D.l2.2.1 D.l2.2.2.1 e) hy λd F b=>aHt ?_)
  replace b:Heap.SameBut r.it h₃ d:=b
  have n:=b.extBut _ _ (aIg D.r3) h;refine aHs (aIq n rfl ?_);refine aHs (aJf n rfl ?_);have g:=aJ3 (Obj.mapSeq λz=>z.setIfInBounds 1 y) n (by rfl);have t:Heap.SameBut TO d (d.update TO (Obj.mapSeq λz=>z.setIfInBounds 1 y)):=aIo ..;generalize d.update TO (Obj.mapSeq λz=>z.setIfInBounds 1 y)=h₅ at g t⊢
  replace g:h₅.get? TO=some {cls:= .type "tuple",data:= .seq #[x,y] n0}:=g
  refine aHs (aJr (aHt (aHt ?_)));refine aHs (aIq g rfl ?_);refine aHs (aJn ?_);have hsz:h₅.objs.size=s.heap.objs.size:=by rw[t.1,b.1,k.1,a.1,j.1]
  have k5:∀c o,c≠TO->c≠r.it->h₃.get? c=some o->h₅.get? c=some o:=λc o P R e=>t.extBut _ _ P (b.extBut _ _ R e);have K:h₅.get? z=some (zO .ellipsis f1 TI TO):=k5 _ _ (aIg D.n2) (aIg D.r1) (k.extBut _ _ (aIg D.n2) (a.extBut _ _ (aIg D.q1) u));have S:q.At h₅ (i+1):=B.to λo e=>k5 _ _ D.q3 D.qr (k.extBut _ _ D.q3 e);have T:r.At h₅ (i+1):=F.to λo e=>t.extBut _ _ D.r3 e;refine aHs (m:=Builtin.SmallTypes.ownedTupleHandOut (.ref z) (.ref h₅.objs.size)) ?_;unfold Builtin.SmallTypes.ownedTupleHandOut;have U:(h₅.push {cls:= .type "tuple",data:= .seq #[x,y]}).get? z=some (zO .ellipsis f1 TI TO):=aHu _ K;refine aHs (aI6 U (by simp) λh₇ G V=>?_)
  replace G:h₇.get? z=some (zO (rawInt h₅.objs.size) f1 TI TO):=G
  refine aI6 G (by simp) λI H W=>?_
  replace H:I.get? z=some (zO (rawInt h₅.objs.size) false TI TO):=H
  have up:∀c o,c≠z->(h₅.push {cls:= .type "tuple",data:= .seq #[x,y]}).get? c=some o->I.get? c=some o:=λc o C e=>W.extBut _ _ C (V.extBut _ _ C e);have L:∀c o,c≠z->h₅.get? c=some o->I.get? c=some o:=λc o C e=>up c o C (aHu _ e);refine aHt ⟨_,rfl,hQ I h₅.objs.size (aLu hsz.symm) ⟨⟨_,false,.inr ⟨_,rfl⟩,H⟩,⟨nI,?_⟩,⟨x,y,n0,L _ _ D.n2 g⟩,S.to λo e=>L _ _ D.q1 e,T.to λo e=>L _ _ D.r1 e⟩ ?_ λc o C P N R e=>L _ _ C (k5 _ _ P R (k3 _ _ C P N e))⟩
  ·exact L _ _ D.n1 (k5 _ _ D.n3 (aIg D.r2) (k3 _ _ D.n1 D.n3 (aIg D.q2) O))
  ·exact up _ _ (aJ4 (aHz K)) (aHy _ rfl)
 ·simp only[Bool.false_eq_true,if_false];refine aHs ?_;simp only[List.forIn_toArray,List.forIn_cons,List.forIn_nil];refine aHs (aHs (aIj ?_));show wpAny _ _ (Builtin.SmallTypes.nextOf (.ref q.it) >>=_) _ _ _;refine aHs (Src.item (s:={s with heap:=h0}) (h1.to λo e=>M.extBut _ _ D.q1 e) (Y.to λo e=>M.extBut _ _ D.l1.1 e) hx λf B a=>aHt ?_)
  replace a:Heap.SameBut q.it h0 f:=a
  have k2:∀c o,c≠z->c≠q.it->s.heap.get? c=some o->f.get? c=some o:=λc o C N e=>a.extBut _ _ N (M.extBut _ _ C e);refine aHt ?_;refine aHs (aHs (aIj ?_));show wpAny _ _ (Builtin.SmallTypes.nextOf (.ref r.it) >>=_) _ _ _;refine aHs (Src.item (s:={s with heap:=f}) (h2.to λo e=>k2 _ _ D.r1 (aIg D.qr) e) (hs2.to λo e=>k2 _ _ D.l2.1 D.l2.2.2.1 e) hy λd F b=>aHt ?_)
  replace b:Heap.SameBut r.it f d:=b
  have k4:∀c o,c≠z->c≠q.it->c≠r.it->s.heap.get? c=some o->d.get? c=some o:=λc o C N R e=>b.extBut _ _ R (k2 _ _ C N e);have hsz:d.objs.size=s.heap.objs.size:=by rw[b.1,a.1,M.1]
  refine aHt (aHt ?_);show wpAny _ _ (newTuple [x,y] >>=_) _ _ _;refine aHs (aJn ?_);have up:∀c o,d.get? c=some o->(d.push {cls:= .type "tuple",data:= .seq #[x,y]}).get? c=some o:=λc o e=>aHu _ e;have X:d.get? z=some (zO f0 true TI TO):=b.extBut _ _ (aIg D.r1) (a.extBut _ _ (aIg D.q1) hz0);refine aHt ⟨_,rfl,hQ _ d.objs.size (aLu hsz.symm) ⟨⟨f0,true,hf,up _ _ X⟩,⟨nI,up _ _ (k4 _ _ D.n1 (aIg D.q2) (aIg D.r2) O)⟩,⟨x0,y0,n0,up _ _ (k4 _ _ D.n2 (aIg D.q3) (aIg D.r3) hTO)⟩,B.to λo e=>up _ _ (b.extBut _ _ D.qr e),F.to λo e=>up _ _ e⟩ (aHy _ rfl) λc o C P N R e=>up _ _ (k4 _ _ C N R e)⟩
theorem PD{z TI TO:Addr}{Q:PySem.Fin->Shared->Prop}(C:A.handled=none)(D:tG z TI TO q r)(Z:lW s.heap z TI TO q r i)
  (n:q.Sq s.heap xs) (F:xs[i]? =none)
  (G:∀h' e,(∀c o,c≠z->c≠q.it->s.heap.get? c=some o->h'.get? c=some o)->(∃o,h'.get? e=some o/\o.cls= .type "StopIteration")->E (.ref e) {s with heap:=h'}):
  wpAny (model prog w) A (Builtin.«zip.__next__» ⟨[.ref z],[]⟩) Q E s:=by
 obtain⟨⟨f0,f1,I,hz⟩,⟨M,v⟩,⟨N,y0,O,J⟩,H,P⟩:=Z;refine aHs (m:=field (.ref z) 2) (aIc hz rfl (x:= .bool false) rfl ?_);refine aHs (m:=field (.ref z) 3) (aIc hz rfl (x:= .ref TI) rfl ?_);refine aHs (m:=seqItems? (.ref TI)) (aIq v rfl ?_);refine aHs (m:=Builtin.SmallTypes.ownedTupleIsFree (.ref z)) (A6 I hz ?_ λh0 K k=>?_)
 ·simp only[if_true];refine aHs (aJ0 ?_);refine aHs (aIc hz rfl (x:= .ref TO) rfl ?_);refine aHs (aI6 hz (by simp) λj b d=>?_)
  replace b:j.get? z=some (zO .ellipsis f1 TI TO):=b
  refine aHs ?_;simp only[List.zipIdx_cons,List.zipIdx_nil,List.forIn_cons,List.forIn_nil];refine aHs (aHs (aKb ?_));show wpAny _ _ (Builtin.SmallTypes.nextOf (.ref q.it) >>=_) _ _ _;refine aHs (Src.done (s:={s with heap:=j}) C (H.to λo e=>d.extBut _ _ D.q1 e) (n.to λo e=>d.extBut _ _ D.l1.1 e) F λf e a he=>?_);obtain⟨L,l,p⟩:=he;have g:f.get? z=some (zO .ellipsis f1 TI TO):=a _ _ (aIg D.q1) b;have y:e≠z:=λx=>by subst x;rw[g]at l;cases l;simp[zO]at p
  refine aI6 g (by simp) λt _ h=>G t e (λc o u B x=>h.extBut _ _ u (a _ _ B (d.extBut _ _ u x))) ⟨L,h.extBut _ _ y l,p⟩
 ·simp only[Bool.false_eq_true,if_false];refine aHs ?_;simp only[List.forIn_toArray,List.forIn_cons,List.forIn_nil];refine aHs (aHs (aIj ?_));show wpAny _ _ (Builtin.SmallTypes.nextOf (.ref q.it) >>=_) _ _ _;refine aHs (Src.done (s:={s with heap:=h0}) C (H.to λo e=>k.extBut _ _ D.q1 e) (n.to λo e=>k.extBut _ _ D.l1.1 e) F λf e a he=>?_);exact G f e (λc o u B x=>a _ _ B (k.extBut _ _ u x)) he
theorem UX{z TI TO:Addr}{x y:Value}{Q:aLx}(D:tG z TI TO q r)(Z:lW s.heap z TI TO q r i)
  (d:q.Sq s.heap xs) (f:r.Sq s.heap ys) (h:xs[i]? =some x) (j:ys[i]? =some y)
  (l:∀h' p,s.heap.objs.size<=p->lW h' z TI TO q r (i+1)->h'.get? p=some {cls:= .type "tuple",data:= .seq #[x,y]}->
   (∀c o,c≠z->c≠TO->c≠q.it->c≠r.it->s.heap.get? c=some o->h'.get? c=some o)->Q (.ref p) {s with heap:=h'}):
  wpAny (model prog w) A (Builtin.SmallTypes.nextOf (.ref z)) Q E s:=by
 have g:s.TypeIs (.ref z) "zip":=by obtain⟨f0,f1,_,e⟩:=Z.obj;exact⟨_,e,rfl⟩
 unfold Builtin.SmallTypes.nextOf
 refine aHs (aI8 (name:=Str.ofString "__next__") g aIu (aI7 aIu g aK4
  (HX D Z d f h j λh' p a b c k=>aHt (l h' p a b c k)) (aK1 _)))
theorem FX{z TI TO:Addr}{Q:aLx}(d:A.handled=none)(D:tG z TI TO q r)(Z:lW s.heap z TI TO q r i)
  (a:q.Sq s.heap xs) (f:xs[i]? =none)
  (g:∀h' e,(∀c o,c≠z->c≠q.it->s.heap.get? c=some o->h'.get? c=some o)->(∃o,h'.get? e=some o/\o.cls= .type "StopIteration")->E (.ref e) {s with heap:=h'}):
  wpAny (model prog w) A (Builtin.SmallTypes.nextOf (.ref z)) Q E s:=by
 have b:s.TypeIs (.ref z) "zip":=by obtain⟨f0,f1,_,e⟩:=Z.obj;exact⟨_,e,rfl⟩
 unfold Builtin.SmallTypes.nextOf;exact aHs (aI8 (name:=Str.ofString "__next__") b aIu (aI7 aIu b aK4 (PD d D Z a f g) (aK1 _)))
end
open AutoSeq1 (wpAny_loadPart')
structure QO(h:Heap)(e z TI TO:Addr)(q r:Src)(f0:Value)(i:Nat):Prop where
 obj:∃old,h.get? e=some (enO f0 z i old)
 at_:lW h z TI TO q r i
structure EnD(e z TI TO:Addr)(q r:Src):Prop where
 D:tG z TI TO q r
 n:e≠z/\e≠TI/\e≠TO/\e≠q.it/\e≠r.it
section
variable {prog:Program}{w:World}{A:Around}{E:aLx}{s:Shared}
variable{xs ys:Array Value}
theorem PK{e z TI TO:Addr}{x y:Value}{Q:aLx}(D:EnD e z TI TO q r)(Z:QO s.heap e z TI TO q r .none i)
  (B:q.Sq s.heap xs) (C:r.Sq s.heap ys) (R:xs[i]? =some x) (S:ys[i]? =some y)
  (T:∀(a:Heap) (p:Addr) (h' :Heap),s.heap.objs.size<=p->a.get? p=some {cls:= .type "tuple",data:= .seq #[x,y]}->(∀(c:Addr) (o:Obj),c≠z->c≠TO->c≠q.it->c≠r.it->s.heap.get? c=some o->a.get? c=some o)->
   QO h' e z TI TO q r (rawInt a.objs.size) (i+1)->h'.get? a.objs.size=some {cls:= .type "tuple",data:= .seq #[.int i s.toks,.ref p]}->
   (∀(b:Addr) (o:Obj),b≠e->a.get? b=some o->h'.get? b=some o)->Q (.ref a.objs.size) {s with heap:=h',toks:=s.toks+1}):
  wpAny (model prog w) A (Builtin.«enumerate.__next__» ⟨[.ref e],[]⟩) (λF U =>∃v,F= .done (.ret v)/\Q v U) E s:=by
 obtain⟨⟨old,he⟩,hz⟩:=Z;obtain⟨V,g,d,tk,os⟩:=s;have W:e<V.objs.size:=aHz he;show wpAny _ _ (field (.ref e) 2 >>=_) _ _ _;refine aHs (aIc he rfl (x:= .ref z) rfl (aHs (UX D.D hz B C R S λa p G KQ X M=>?_)));have t:a.get? e=some (enO .none z i old):=M _ _ D.n.1 D.n.2.2.1 D.n.2.2.2.1 D.n.2.2.2.2 he;show wpAny _ _ (field (.ref e) 3 >>=_) _ _ ⟨a,g,d,tk,os⟩;refine aHs (aIc t rfl (x:=rawInt (i:Int)) rfl ?_);show wpAny _ _ (field (.ref e) 4 >>=_) _ _ ⟨a,g,d,tk,os⟩;refine aHs (aIc t rfl (x:= .none) rfl ?_);show wpAny _ _ (mkInt (i:Int) >>=_) _ _ ⟨a,g,d,tk,os⟩;refine aHs (wpAny_mkInt ?_);show wpAny _ _ (setField (.ref e) 3 (rawInt ((i:Int)+1)) >>=_) _ _ ⟨a,g,d,tk+1,os⟩;refine aHs (aI6 t (by simp) λY e2 h=>?_);show wpAny _ _ (setField (.ref e) 4 .none >>=_) _ _ ⟨Y,g,d,tk+1,os⟩;refine aHs (aI6 e2 (by simp) λj e3 k=>?_);show wpAny _ _ (newTuple [.int i tk,.ref p] >>=_) _ _ ⟨j,g,d,tk+1,os⟩;refine aHs (aJn ?_);have hsz:j.objs.size=a.objs.size:=by rw[k.1,h.1]
 have l:e<a.objs.size:=aHz t;have u:=aHu {cls:= .type "tuple",data:= .seq #[.int i tk,.ref p]} e3;have N:(j.push {cls:= .type "tuple",data:= .seq #[.int i tk,.ref p]}).get? a.objs.size=some {cls:= .type "tuple",data:= .seq #[.int i tk,.ref p]}:=by rw[<-hsz];exact aHy _ rfl
 have H:∀b o,b≠e->a.get? b=some o->(j.push {cls:= .type "tuple",data:= .seq #[.int i tk,.ref p]}).get? b=some o:=λb o f m=>aHu _ (k.extBut b o f (h.extBut b o f m));show wpAny _ _ (Builtin.SmallTypes.ownedTupleIsFree (.ref e) >>=_) _ _ _;rw[hsz];generalize j.push {cls:= .type "tuple",data:= .seq #[.int i tk,.ref p]}=h4 at u N H⊢;refine aHs ?_;unfold Builtin.SmallTypes.ownedTupleIsFree;refine aHs (aIc u rfl (x:= .none) rfl (aHt ?_));simp only[if_true];refine aHs (aJ0 (aHs (aIc u rfl (x:=old) rfl (aHs (aI6 u (by simp) λh5 e5 I=>?_)))));refine aHs ?_;unfold Builtin.SmallTypes.ownedTupleHandOut;refine aHs (aI6 e5 (by simp) λh6 e6 J=>aI6 e6 (by simp) λO e7 K=>aHs (aJr (aHt ⟨_,rfl,?_⟩)));have L:∀b o,b≠e->h4.get? b=some o->O.get? b=some o:=λb o f m=>K.extBut _ _ f (J.extBut _ _ f (I.extBut _ _ f m));refine T a p O G X M ⟨⟨.ref p,e7⟩,KQ.to λb o f eb=>?_⟩ (L _ _ (aJ4 l) N) λb o f m=>L b o f (H b o f m)
 have P:b≠e:=by
  rcases f with rfl | rfl | rfl | rfl | rfl
  ·exact aIg D.n.1
  ·exact aIg D.n.2.1
  ·exact aIg D.n.2.2.1
  ·exact aIg D.n.2.2.2.1
  ·exact aIg D.n.2.2.2.2
 exact L _ _ P (H _ _ P eb)
variable{Q:Option Value->Shared->Prop}
theorem xJ{e z TI TO:Addr}{x y:Value}(D:EnD e z TI TO q r)(Z:QO s.heap e z TI TO q r .none i)
  (h:q.Sq s.heap xs) (j:r.Sq s.heap ys) (l:xs[i]? =some x) (m:ys[i]? =some y)
  (n:∀(g:Heap) (p:Addr) (h' :Heap),s.heap.objs.size<=p->g.get? p=some {cls:= .type "tuple",data:= .seq #[x,y]}->(∀(c:Addr) (o:Obj),c≠z->c≠TO->c≠q.it->c≠r.it->s.heap.get? c=some o->g.get? c=some o)->
   QO h' e z TI TO q r (rawInt g.objs.size) (i+1)->h'.get? g.objs.size=some {cls:= .type "tuple",data:= .seq #[.int i s.toks,.ref p]}->
   (∀(b:Addr) (o:Obj),b≠e->g.get? b=some o->h'.get? b=some o)->Q (some (.ref g.objs.size)) {s with heap:=h',toks:=s.toks+1}):wpAny (model prog w) A (pyNext (.ref e)) Q E s:=by
 have k:s.TypeIs (.ref e) "enumerate":=by obtain⟨old,he⟩:=Z.obj;exact⟨_,he,rfl⟩
 unfold pyNext
 exact aHs (aJ5 (aI8 (name:=Str.ofString "__next__") k aIw (aI7 aIw k aK7
  (PK D Z h j l m λg p h' a b c d e f=>aHt (n g p h' a b c d e f)) (aK5 _))))
theorem AG{e z TI TO:Addr}(h:A.handled=none)(D:EnD e z TI TO q r)(Z:QO s.heap e z TI TO q r .none i)
  (a:q.Sq s.heap xs) (j:xs[i]? =none)
  (k:∀h',(∀c o,c≠z->c≠q.it->s.heap.get? c=some o->h'.get? c=some o)->Q none {s with heap:=h'}):wpAny (model prog w) A (pyNext (.ref e)) Q E s:=by
 obtain⟨old,he⟩:=Z.obj
 have g:s.TypeIs (.ref e) "enumerate":=⟨_,he,rfl⟩
 unfold pyNext;refine aHs (aJ5 (aI8 (name:=Str.ofString "__next__") g aIw (aI7 aIw g aK7 ?_ (aK5 _))));show wpAny _ _ (field (.ref e) 2 >>=_) _ _ _;refine aHs (aIc he rfl (x:= .ref z) rfl (aHs (FX h D.D Z.at_ a j λh' x d f =>?_)));obtain⟨o,ho,l⟩:=f;exact aHs (aJs (T:= "StopIteration") (b:=true) ⟨o,ho,l⟩ aL5 (aHt (k _ d)))
theorem aA3{elts:List Expr}{x1}{pos:Pos}{e z TI TO T:Addr}{Q:Unit->Shared->Prop}(D:EnD e z TI TO q r)(Z:QO s.heap e z TI TO q r (rawInt T) i)
  (d:∀h',QO h' e z TI TO q r .none i->Heap.SameBut e s.heap h' ->Q () {s with heap:=h'}):wpAny (model prog w) A (letOwnedTupleGo (.Tuple elts x1 pos) (.ref e) (.ref T)) Q E s:=by
 obtain⟨⟨old,he⟩,hz⟩:=Z;refine wpAny_letOwnedTupleGo_enum he λh' a c=>d h' ⟨⟨old,a⟩,hz.to λb o f g=>c.extBut _ _ ?_ g⟩ c;rcases f with rfl | rfl | rfl | rfl | rfl
 ·exact aIg D.n.1
 ·exact aIg D.n.2.1
 ·exact aIg D.n.2.2.1
 ·exact aIg D.n.2.2.2.1
 ·exact aIg D.n.2.2.2.2
theorem DB{e z TI TO:Addr}{f0:Value}{Q:aLx}(Z:QO s.heap e z TI TO q r f0 i)(h:Q (.ref e) s):wpAny (model prog w) A (pyIter (.ref e)) Q E s:=by
 have a:s.TypeIs (.ref e) "enumerate":=by obtain⟨old,he⟩:=Z.obj;exact⟨_,he,rfl⟩
 refine aJi a aKd (aI7 aKd a F.entry_enumerate_iter ?_ (F.args_enumerate_iter_1 _));exact aHt ⟨_,rfl,"enumerate",_,a,aIw.lookup,h⟩
end
theorem JN(z TI TO:Addr)(q r:Src):Meets (Builtin.«enumerate.__new__» ⟨[.type "enumerate",.ref z],[]⟩) (λ_ R s=>lW s.heap z TI TO q r 0/\
   ∀h' e,s.heap.objs.size<=e->QO h' e z TI TO q r .none 0->(∀b o,s.heap.get? b=some o->h'.get? b=some o)->R (.ok (.ret (.ref e))) {s with heap:=h'}):=
 .of_wp λprog w A R s h=>by
  obtain⟨hz,l⟩:=h;obtain⟨i,g,d,tk,os⟩:=s;have k:=sub_enumerate;have j:Shared.TypeIs ⟨i,g,d,tk,os⟩ (.ref z) "zip":=by obtain⟨f0,f1,_,e⟩:=hz.obj;exact⟨_,e,rfl⟩
  have a:∀(A:Around) (E:aLx) (Q:aLx),Q (.ref z) ⟨i,g,d,tk,os⟩->wpAny (model prog w) A (pyIter (.ref z)) Q E ⟨i,g,d,tk,os⟩:=λA E Q h=>
   aJi j aKa (aI7 aKa j F.entry_zip_iter (aHt ⟨_,rfl,"zip",_,j,aIu.lookup,h⟩) (F.args_zip_iter_1 _))
  have f:R (.ok (.ret (.ref i.objs.size))) ⟨i.push {cls:= .type "enumerate",data:= .fields #[.none,.bool false,.ref z,rawInt 0,.none,.none]},g,d,tk,os⟩:=
   l _ _ (aHw _) ⟨⟨.none,aHy _ rfl⟩,hz.to λb o _ e=>aHu _ e⟩ λb o e=>aHu _ e
  unfold Builtin.«enumerate.__new__»
  wp_walk
  refine wpAny_stack_any λst=>aHt ?_;split
  ·rename_i c _ _ _ _ _;cases (c==Value.type "enumerate")
   ·wp_walk using a
    exact⟨_,rfl,f⟩
   ·wp_walk using a
    exact⟨_,rfl,f⟩
  ·wp_walk using a
   exact⟨_,rfl,f⟩
theorem P7{prog:Program}{w:World}{A:Around}{E:aLx}{s:Shared}{z TI TO:Addr}{Q:aLx}(hz:lW s.heap z TI TO q r 0)
  (h:∀h' e,s.heap.objs.size<=e->QO h' e z TI TO q r .none 0->(∀b o,s.heap.get? b=some o->h'.get? b=some o)->Q (.ref e) {s with heap:=h'}):
  wpAny (model prog w) A (call (.type "enumerate") [Value.ref z]) Q E s:=
 callType_new F.called_enumerate (by decide) (F.typeCall_enumerate_1 _) (F.newCall_enumerate_1 _) (λobj=>F.args_object_init_2 obj _) F.entry_enumerate_new (JN z TI TO q r)
  ⟨hz,λh' e t Z k=>⟨by obtain⟨old,he⟩:=Z.obj;exact⟨_,he,rfl⟩,h h' e t Z k⟩⟩
def aAy(K:aLw)(a b:Addr)(f tb:Bool):It where
 go:=λi H=>∃xs c d e,rD K H f a xs/\rD K H tb b c/\xs[i]? =some d/\c[i]? =some e
 QZ:=λi H x H' =>∃p t d e,H p=none/\upd H p (.tup [d,e]) t=none/\x= .ref t/\H' =upd (upd H p (.tup [d,e])) t (.tup [.int i,.ref p])/\
  (∀xs,rD K H f a xs->xs[i]? =some d)/\∀c,rD K H tb b c->c[i]? =some e
 stop:=λi H=>∃xs c,rD K H f a xs/\rD K H tb b c/\xs.length<=i/\c.length=xs.length
theorem LB{P:Program}{w:World}{K:aLw}{elts:List Expr}{x1}{pos:Pos}{e z TI TO:Addr}(D:EnD e z TI TO q r):
  Turn P w K (.Tuple elts x1 pos) (aAy K q.l r.l q.tup r.tup) [e,z,TI,TO,q.it,r.it] e (λi h=>QO h e z TI TO q r .none i) where
 mem:=aHx
 self:=λA i s Q E Z h=>DB Z h
 obj:=λi h Z b a=>by
  simp only[List.mem_cons,List.not_mem_nil,or_false]at a;rcases a with rfl | rfl | rfl | rfl | rfl | rfl
  ·obtain⟨old,he⟩:=Z.obj;exact⟨_,he,λv z=>by cases z⟩
  ·obtain⟨f0,f1,_,e⟩:=Z.at_.obj;exact⟨_,e,λv z=>by cases z⟩
  ·obtain⟨n,e⟩:=Z.at_.aL;exact⟨_,e,λv z=>by cases z⟩
  ·obtain⟨x,y,n,e⟩:=Z.at_.own;exact⟨_,e,λv z=>by cases z⟩
  ·obtain⟨o,ho,hd⟩:=Z.at_.KQ.obj;exact⟨o,ho,λv z=>by rw[hd]at z;cases z⟩
  ·obtain⟨o,ho,hd⟩:=Z.at_.at2.obj;exact⟨o,ho,λv z=>by rw[hd]at z;cases z⟩
 keep:=λi h h' Z k=>by
  obtain⟨⟨old,he⟩,KQ⟩:=Z;refine⟨⟨old,k e (by simp) _ he⟩,KQ.to λb o a eb=>k b ?_ o eb⟩;rcases a with rfl | rfl | rfl | rfl | rfl <;> simp
 item:=by
  intro X F G J hc i pins s σ H E I g Z hg;subst F G J;obtain⟨xs,ys,j,m,C,L,hi,hj⟩:=hg;obtain⟨aL,rv,M⟩:=I.BW C;obtain⟨u,hu,ru⟩:=rv.get hi;obtain⟨jts,N,O⟩:=I.BW L;obtain⟨u',R,S⟩:=N.get hj;refine xJ D Z (M q.it) (O r.it) (by simpa using hu) (by simpa using R) λc p h' T U k1 Z1 t2 k2=>?_;refine⟨_,rfl,aA3 (s:={s with heap:=h',toks:=s.toks+1}) D Z1 λV Z2 d=>?_⟩
  replace d:Heap.SameBut e h' V:=d
  have t:∀b∈[e,z,TI,TO,q.it,r.it],∃o,s.heap.get? b=some o:=λb a=>by
   simp only[List.mem_cons,List.not_mem_nil,or_false]at a;rcases a with rfl | rfl | rfl | rfl | rfl | rfl
   ·obtain⟨old,he⟩:=Z.obj;exact⟨_,he⟩
   ·obtain⟨f0,f1,_,e⟩:=Z.at_.obj;exact⟨_,e⟩
   ·obtain⟨n,e⟩:=Z.at_.aL;exact⟨_,e⟩
   ·obtain⟨x,y,n,e⟩:=Z.at_.own;exact⟨_,e⟩
   ·obtain⟨o,ho,hd⟩:=Z.at_.KQ.obj;exact⟨o,ho⟩
   ·obtain⟨o,ho,hd⟩:=Z.at_.at2.obj;exact⟨o,ho⟩
  have f:∀b∈[e,z,TI,TO,q.it,r.it],b<p:=λb a=>by obtain⟨o,ho⟩:=t b a;exact aIb (aHz ho) T
  have B:p<c.objs.size:=aHz U
  have I1:Inv X pins σ (upd H p (.tup [j,m])) {s with heap:=c}:=I.DM (t' :=s.toks) g (λb o a ho=>by
   simp only[List.mem_cons,List.not_mem_nil,or_false,not_or]at a
   exact k1 b o a.2.1 a.2.2.2.1 a.2.2.2.2.1 a.2.2.2.2.2 ho) T ⟨by have:=aIf;simp;lia,[u,u'],.cons ru (.cons S .nil),⟨_,U,rfl,0,rfl⟩,λo ho=>by rw[U]at ho;cases ho;rfl⟩
  have W:∀b∈[e,z,TI,TO,q.it,r.it],pO X pins (upd H p (.tup [j,m])) b:=λb a=>by
   obtain⟨c1,c2⟩:=g b a;exact⟨by rw[aO (Nat.ne_of_lt (f b a))];exact c1,c2⟩
  have kk:∀b o,b∉[e,z,TI,TO,q.it,r.it]->c.get? b=some o->V.get? b=some o:=λb o a ho=>by
   simp only[List.mem_cons,List.not_mem_nil,or_false,not_or]at a;exact d.extBut _ _ a.1 (k2 b o a.1 ho)
  have Y:e<c.objs.size:=aL2 (f e (by simp)) B;have t3:V.get? c.objs.size=some {cls:= .type "tuple",data:= .seq #[.int i s.toks,.ref p]}:=d.extBut _ _ (aJ4 Y) t2;have hn2:upd H p (.tup [j,m]) c.objs.size=none:=I1.bJ.fresh (aHw _);refine⟨.ref c.objs.size,upd (upd H p (.tup [j,m])) c.objs.size (.tup [.int i,.ref p]),I1.DM (t' :=s.toks+1) W kk (aHw _) ⟨by have:=aIf;simp;lia,[.int i s.toks,.ref p],.cons ⟨_,rfl⟩ (.cons rfl .nil),⟨_,t3,rfl,0,rfl⟩,λo ho=>by rw[t3]at ho;cases ho;rfl⟩,rfl,?_,Z2,λb a=>?_⟩
  ·refine⟨p,c.objs.size,j,m,I.bJ.fresh T,hn2,rfl,rfl,λzs hz=>?_,λzs hz=>?_⟩
   ·rw[I.nX hz C];exact hi
   ·rw[I.nX hz L];exact hj
  ·rw[aO (Nat.ne_of_lt (Nat.lt_trans (f b a) B)),aO (Nat.ne_of_lt (f b a))];exact(g b a).1
 done:=by
  intro X F G J hc i pins s σ H E I g Z hg;subst F G J;obtain⟨xs,ys,C,L,hle,_⟩:=hg;obtain⟨aL,r,M⟩:=I.BW C
  refine AG (I.ok.hd hc) D Z (M q.it) ?_ λh' kp=>⟨rfl,I.A3 (t' :=s.toks) g λb o a ho=>kp b o (λz=>a (by simp[z])) (λz=>a (by simp[z])) ho⟩
  have:=r.length;rw[List.getElem?_toArray];exact aJu.mpr (by lia)
def aHc(K:aLw)(d:TA):TI:=λσ H R=>d σ H λvs c=>∃a b t u,vs=[.ref a,.ref b]/\(∃xs,rD K c t a xs)/\(∃e,rD K c u b e)/\R (aAy K a b t u) c
theorem XW{X:Cx}{j g:Expr}{S:TA}{p C pos d :Pos}{elts:List Expr}{x1}{U:Pos}(hg:Gl X "enumerate")(hm:X.mg "enumerate"=none)(E :Gl X "zip")(F :X.mg "zip"=none)(ha:PA X [j,g] S)
  (V:starEach [.Call (.Name "zip" C) [j,g] [] d] X.env=(false,eval (.Call (.Name "zip" C) [j,g] [] d) X.env)::starEach [] X.env:=by rfl)
  (he:starEach [j,g] X.env=(false,eval j X.env)::starEach [g] X.env:=by rfl) (G:(backTo d (starEach [g] X.env)).any (·.1)=false:=by rfl):
  PI X (.Tuple elts x1 U) (.Call (.Name "enumerate" p) [.Call (.Name "zip" C) [j,g] [] d] [] pos) (aHc X.K S):=by
 intro pins s σ H R I h;have hv:bootBuiltins "enumerate"=some (.type "enumerate"):=by decide+kernel
 have J :bootBuiltins "zip"=some (.type "zip"):=by decide+kernel
 refine aJ8 (iQ I hg hm hv (aIt ?_ V rfl));rw[V];refine aJk (aJ8 (iQ I E F J (aIt (b6 (ha d pins s σ H _ I h) λus s1 ⟨vs,v,k,r1,q1⟩=>?_) he G)));obtain⟨a,b,t,u,rfl,⟨xs,hx⟩,⟨ys,hy⟩,hR⟩:=q1;have hu:us=[Value.ref a,.ref b]:=fW (src:=[(a,t),(b,u)]) r1;subst hu;obtain⟨aL,_,L⟩:=k.BW hx;obtain⟨M,_,N⟩:=k.BW hy;refine sE (qs:=[⟨0,a,t⟩,⟨0,b,u⟩]) (aJ6 (rM (show 2<=1000 by decide))) (uM.t _ rfl) (uM.n _ rfl) (λobj=>uM.i _ obj rfl) (λq W=>?_) λh' z TI TO t1 t2 Y D Z kp=>?_
 ·simp only[List.mem_cons,List.not_mem_nil,or_false]at W;rcases W with rfl | rfl
  ·exact⟨aL.toArray,L 0⟩
  ·exact⟨M.toArray,N 0⟩
 ·have I2:Inv X pins σ v {s1 with heap:=h'}:=k.kept (t' :=s1.toks) kp;refine aKe ?_
  have l:lW h' z TI TO ⟨s1.heap.objs.size,a,t⟩ ⟨s1.heap.objs.size+1,b,u⟩ 0:=by
   refine⟨⟨.none,false,.inl rfl,Z.obj⟩,Z.aL,?_,Z.at_ _ (by simp[bF]),Z.at_ _ (by simp[bF])⟩;obtain⟨xs,n,hl,e⟩:=Z.own
   match xs,hl with
   | [x,y],_=>exact⟨x,y,n,e⟩
  refine P7 (s:={s1 with heap:=h'}) l λh2 e te Z2 k2=>?_;have I3:Inv X pins σ v {s1 with heap:=h2}:=I2.kept (t' :=s1.toks) k2
  have O:∀b∈[z,TI,TO,s1.heap.objs.size,s1.heap.objs.size+1],b<e/\s1.heap.objs.size<=b:=λb A=>by
   have lt:∀c o,h'.get? c=some o->c<e:=λc o ho=>aIb (aHz ho) te;simp only[List.mem_cons,List.not_mem_nil,or_false]at A;rcases A with rfl | rfl | rfl | rfl | rfl
   ·exact⟨lt _ _ Z.obj,Y⟩
   ·obtain⟨n,e⟩:=l.aL;exact⟨lt _ _ e,t1⟩
   ·obtain⟨x,y,n,e⟩:=l.own;exact⟨lt _ _ e,t2⟩
   ·obtain⟨o,ho,_⟩:=l.KQ.obj;exact⟨lt _ _ ho,aHw _⟩
   ·obtain⟨o,ho,_⟩:=l.at2.obj;exact⟨lt _ _ ho,aLe _⟩
  have ne:∀b∈[z,TI,TO,s1.heap.objs.size,s1.heap.objs.size+1],e≠b:=λb A=>aJ4 (O b A).1;have m0:(⟨s1.heap.objs.size,a,t⟩:Src)∈bF s1.heap.objs.size [⟨0,a,t⟩,⟨0,b,u⟩]:=by simp[bF]
  have m1:(⟨s1.heap.objs.size+1,b,u⟩:Src)∈bF s1.heap.objs.size [⟨0,a,t⟩,⟨0,b,u⟩]:=by simp[bF]
  have Q:=D.FQ _ m0;have i1:=D.FQ _ m1;have B:=D.src _ m0;have f :=D.src _ m1
  have T:=LB (P:=X.prog) (w:=X.w) (K:=X.K) (elts:=elts) (x1:=x1) (pos:=U) (e:=e) (z:=z) (TI:=TI) (TO:=TO) (q:=⟨s1.heap.objs.size,a,t⟩) (r:=⟨s1.heap.objs.size+1,b,u⟩)
   ⟨⟨D.ne1,D.ne2,D.ne3,Q.1,Q.2.1,Q.2.2,i1.1,i1.2.1,i1.2.2,aI4 (aIs _),⟨B.1,B.2.1,B.2.2 _ m0,B.2.2 _ m1⟩,⟨f.1,f.2.1,f.2.2 _ m0,f.2.2 _ m1⟩⟩,
    ⟨ne _ (by simp),ne _ (by simp),ne _ (by simp),ne _ (by simp),ne _ (by simp)⟩⟩
  refine DB Z2 ⟨e,_,_,aAy X.K a b t u,v,rfl,I3,T,Z2,λc hc=>?_,hR⟩
  have m:s1.heap.objs.size<=c:=by
   rcases aI5.mp hc with rfl | hc
   ·exact aIa Y (aJ6 (O z (by simp)).1)
   ·exact(O c hc).2
  exact(k.DO m (k.bJ.fresh m):pO X pins v c)
end L2
namespace D3
open PySem PySem.Spec PyProof.Rows L2
def Q6(b:WA):WI:=λc mh Q=>b c mh λxs a=>∃x y ds es,xs=[x,y]/\aX a x=some ds/\aX a y=some es/\ds.length<=sizeLine/\es.length=ds.length/\Q (jN 0 (jQ ds es)) (λmh' =>aX mh' x=some ds/\aX mh' y=some es) a
@[simp] theorem s_enZ (a:WA)(c:dY)(mh:MH)(P:List D->(MH->Prop)->MH->Prop):Q6 a c mh P=(a c mh λxs b=>∃x y ds es,xs=[x,y]/\aX b x=some ds/\aX b y=some es/\ds.length<=sizeLine/\es.length=ds.length/\P (jN 0 (jQ ds es)) (λmh' =>aX mh' x=some ds/\aX mh' y=some es) b):=rfl
section
variable {X:Cx}{e1 e2:Expr}{elts:List Expr}{wa:WA}{p p' pos pos' lK:Pos}
theorem Y7{x1}(hg:Gl X "enumerate")(Q:X.mg "enumerate"=none)(r :Gl X "zip")(s :X.mg "zip"=none)(S:LA X [e1,e2] wa)
  (T:starEach [.Call (.Name "zip" p') [e1,e2] [] pos'] X.env=(false,eval (.Call (.Name "zip" p') [e1,e2] [] pos') X.env)::starEach [] X.env:=by rfl)
  (he:starEach [e1,e2] X.env=(false,eval e1 X.env)::starEach [e2] X.env:=by rfl) (w:(backTo pos' (starEach [e2] X.env)).any (·.1)=false:=by rfl):
  LI X (.Tuple elts x1 lK) (.Call (.Name "enumerate" p) [.Call (.Name "zip" p') [e1,e2] [] pos'] [] pos) (Q6 wa):=
 PI.imp (XW hg Q r s S T he w) λσ H R h=>by
  obtain⟨μ,U,mh,f,V,En,h,F⟩:=h;refine⟨μ,U,mh,_,V,En,h,λxs A q n vs I W B Y=>?_⟩;obtain⟨x,y,ds,es,rfl,Z,h2,hz,hl,q⟩:=q;obtain⟨v,u,rfl,J,L⟩:=vQ Y;obtain⟨a,xs,rfl,sa,la⟩:=fJ B J Z;obtain⟨b,o,rfl,sb,lb⟩:=fJ B L h2;refine⟨a,b,vP x,vP y,rfl,⟨xs,sa⟩,⟨o,sb⟩,F _ _ A q n _ I W B ?_⟩
  have g:∀μ' mh' H',eC n I μ' H' ->Rep X.K μ' mh' H' ->(aX mh' x=some ds/\aX mh' y=some es)->∃xs o,rD X.K H' (vP x) a xs/\IsL X.K μ' H' ds xs/\rD X.K H' (vP y) b o/\IsL X.K μ' H' es o:=λμ' mh' H' m f st=>by
   obtain⟨a',c,e1,s1,l1⟩:=fJ f (Is.gP m _ _ J) st.1;obtain⟨b',e,e2,s2,l2⟩:=fJ f (Is.gP m _ _ L) st.2;cases e1;cases e2;exact⟨c,e,s1,l1,s2,l2⟩
  refine⟨by rw[gA,dZ];lia,λμ' mh' H' m f st i d ed=>?_,λμ' mh' H' m f st=>?_⟩
  ·obtain⟨c,e,s1,l1,s2,l2⟩:=g μ' mh' H' m f st;obtain⟨d',g1,rfl⟩:=oC ed;obtain⟨dx,dy,g3,g4,rfl⟩:=iF g1;obtain⟨k,M,ix⟩:=d9 l1 g3;obtain⟨l,N,iy⟩:=d9 l2 g4;refine⟨⟨c,e,k,l,s1,s2,M,N⟩,λz H'' yl=>?_⟩;obtain⟨j,t,v1,v2,O,ht,rfl,rfl,C,D⟩:=yl;have e1:=C c s1;have e2:=D e s2;rw[M]at e1;rw[N]at e2;cases e1;cases e2;have E:aJ μ' H' μ' (upd H' j (.tup [k,l])):=aJ.new f O;have G:Rep X.K μ' mh' (upd H' j (.tup [k,l])):=f.new O;have P:aJ μ' (upd H' j (.tup [k,l])) μ' (upd (upd H' j (.tup [k,l])) t (.tup [.int i,.ref j])):=aJ.new G ht
   have ip:Is X.K μ' (upd H' j (.tup [k,l])) (.tup [dx,dy]) (.ref j):=by
    unfold Is;refine⟨j,[k,l],rfl,.of aR,?_⟩;unfold IsL;exact⟨k,[l],rfl,Is.mono f E _ _ ix,fN (Is.mono f E _ _ iy)⟩
   refine⟨E.trans P,G.new ht,?_⟩;unfold Is;refine⟨t,[.int i,.ref j],rfl,.of aR,?_⟩;unfold IsL;exact⟨.int i,[.ref j],rfl,by rw[Nat.zero_add];unfold Is;rfl,fN (Is.mono G P _ _ ip)⟩
  ·obtain⟨c,e,s1,l1,s2,l2⟩:=g μ' mh' H' m f st;rw[gA,dZ];have e1:=aV l1;have e2:=aV l2;exact⟨c,e,s1,s2,by lia,by lia⟩
end
end D3
namespace L2
open PySem PySem.Spec PyProof.Rows
section
variable {prog:Program}{w:World}{A:Around}{R:Result->Shared->Prop}{I S:Addr}{fp wr:List Addr}{n:Nat}{P:Nat->Value->Prop}{St:Nat->Heap->Prop}
theorem NI(a v:Value):argsOk "max" ⟨[a],[(Str.ofString "default",v)]⟩:=by unfold argsOk;kernel_rfl
theorem NH(W:Walks prog w A.in1 I fp wr n P St)(p:Nat->Nat->Bool)(z:CmpOf prog w A.in1 .Gt P p)(B:S∉fp)(dv:Value):∀(k i:Nat) (s:Shared) (c:Nat) (f:Array Value),n-i=k->i<=n->St i s.heap->
  (i=0/\f= #[]\/∃q,0<i/\P (argBest p (i-1)) q/\f= #[q,q])->s.heap.get? S=some {cls:= .type "list",dict:=none,data:= .seq f c,slots:= #[]}->
  (∀v h' tk,(n=0/\v=dv\/0<n/\P (argBest p (n-1)) v)->(∀b o,b∉wr->b≠S->s.heap.get? b=some o->h'.get? b=some o)->R (.ok (.ret v)) {s with heap:=h',toks:=tk})->
  codeAny (model prog w) A (.builtin "max.loop" ⟨[.ref I,.none,.ref S],[(Str.ofString "default",dv)]⟩) R s:=by
 have C:S∉wr:=λh=>B (W.sub _ h);intro k
 induction k with
 | zero=>
  intro i s c f hk hi t H D G;have e:i=n:=by lia
  subst e;refine aJe PySem.F.entry_max_loop ?_;rw[Around.under_plainId PySem.F.plain_max_loop _];refine aHs (m:=seqItems? (.ref S)) (aIq D rfl ?_);refine aHs (m:=tryCatch (pyNext (.ref I)) _) (wpAny_tryCatch (W.done s _ _ t λh' tk a =>?_))
  rcases H with ⟨rfl,rfl⟩ | ⟨q,h0,E,rfl⟩
  ·exact aHs (aJ0 (aHt (G dv h' tk (.inl ⟨rfl,rfl⟩) λb o d _ e=>a b o d e)))
  ·refine aHs (m:=updateSeq S (λ_=>#[])) (aJf (a S _ C D) rfl (aHs (aJr (aHt ?_))));exact G q _ tk (.inr ⟨h0,E⟩) λb o d u e=>(aIz _ _ (aIg u)).trans (a b o d e)
 | succ k ih=>
  intro i s c f hk hi t H D G;have lt:i<n:=by lia
  refine aJe PySem.F.entry_max_loop ?_;rw[Around.under_plainId PySem.F.plain_max_loop _];refine aHs (m:=seqItems? (.ref S)) (aIq D rfl ?_);refine aHs (m:=tryCatch (pyNext (.ref I)) _) (wpAny_tryCatch (W.item i s _ _ lt t λv h' tk E r a =>?_));have l :=a S _ C D
  have again:∀(y:Heap) (J:Nat) (g:Value),P (argBest p i) g->St (i+1) y->y.get? S=some {cls:= .type "list",dict:=none,data:= .seq #[g,g] J,slots:= #[]}->(∀b o,b∉wr->b≠S->s.heap.get? b=some o->y.get? b=some o)->
    codeAny (model prog w) A (.builtin "max.loop" ⟨[.ref I,.none,.ref S],[(Str.ofString "default",dv)]⟩) R {s with heap:=y,toks:=tk}:=λy J g K L s2 N=>
   ih (i+1) {s with heap:=y,toks:=tk} J _ (by lia) lt L (.inr ⟨g,Nat.succ_pos _,K,rfl⟩) s2 λO Q M hv T=>G O Q M hv λb o d u e=>T b o d u (N b o d u e)
  have put:∀(g:Value),P (argBest p i) g->codeAny (model prog w) A (.builtin "max.loop" ⟨[.ref I,.none,.ref S],[(Str.ofString "default",dv)]⟩) R {s with heap:=h'.update S (Obj.mapSeq λ_=>#[g,g]),toks:=tk}:=λg K=>
   again _ _ g K (W.frame _ _ _ r λb d o e=>(aIz _ _ (λh:S=b=>B (by rw[h];exact d))).trans e) (aJ3 _ l rfl) λb o d u e=>(aIz _ _ (aIg u)).trans (a b o d e)
  rcases H with ⟨rfl,rfl⟩ | ⟨q,h0,x,rfl⟩
  ·refine aHs (m:=updateSeq S (λ_=>#[v,v])) (aJf l rfl ?_);exact aHt ⟨aJm aK8 _,put v E⟩
  ·refine aHs (m:=tryCatch (holding [v,v] _) _) (wpAny_tryCatch (aIj (aHs (z i (argBest p (i-1)) v q _ _ _ E x ?_))));refine aHs (aIj (aJa ?_));refine aHs (aJr (aHt ?_))
   obtain⟨j,rfl⟩:∃j,i=j+1:=⟨i-1,by lia⟩
   simp only[Nat.add_sub_cancel]at x⊢
   cases d:p (j+1) (argBest p j) with
   | true=>
    simp only[if_true];refine aHs (m:=updateSeq S (λ_=>#[v,v])) (aJf l rfl (aHs (aJr ?_)));exact aHt ⟨aJm aK8 _,put v (by simp only[argBest,d,if_true];exact E)⟩
   | false=>
    simp only[Bool.false_eq_true,if_false];refine aHs (aJr (aHt ⟨aJm aK8 _,?_⟩));exact again _ c q (by simp only[argBest,d,Bool.false_eq_true,if_false];exact x) r l λb o d u e=>a b o d e
end
section
variable {prog:Program}{w:World}{A:Around}{E:aLx}{s:Shared}
theorem P0{x dv:Value}{Q:aLx}
  (h:wpAny (model prog w) A.in1 (pyIter x) (λit a=>∃I fp g n P St f,it= .ref I/\Walks prog w A.in1 I fp g n P St/\St 0 a.heap/\(∀b∈fp,b<a.heap.objs.size)/\CmpOf prog w A.in1 .Gt P f/\
   ∀v h' tk,(n=0/\v=dv\/0<n/\P (argBest f (n-1)) v)->(∀b o,b∉g->a.heap.get? b=some o->h'.get? b=some o)->Q v {a with heap:=h',toks:=tk}) E s):
  wpAny (model prog w) A (call (.builtin "max") [x] [(Str.ofString "default",dv)]) Q E s:=by
 refine kmk_tree PySem.F.kind_max PySem.F.plain_max PySem.F.entry_max (NI _ _) ?_;refine aHs (m:=Builtin.Builtins.bindParams "max" ["key","default"] 0 ⟨[],[(Str.ofString "default",dv)]⟩) (aKx (show _=pure [none,some dv] from rfl) ?_);refine aHs (aHt ?_);refine aHs (aIk h (λit a c=>?_) λ_ _ e=>e);obtain⟨I,fp,g,n,P,St,f,rfl,W,i,j,d,l⟩:=c;refine aHs (aIe ?_);have k:a.heap.objs.size∉fp:=λp=>aJc _ (j _ p);refine aHt ⟨aJm aK8 _,NH W f d k dv n 0 _ _ _ rfl (aIx _) (W.frame _ _ _ i λb _ o e=>aHu _ e) (.inl ⟨rfl,rfl⟩) (aHy _ rfl) λv h' tk q hk=>?_⟩;exact l v h' tk q λb o r e=>hk b o r (aI4 (aHz e)) (aHu _ e)
end
end L2
namespace D3
open PySem PySem.Spec PyProof.Rows L2
def maxD(i:Int):List Int->Int
 | []=>i
 | m::ms=>bestOf (λa b=>decide (a > b)) m ms
def yL:O2:=λx d mh Q=>∃(ms:List Int) (i:Int),i7 mh x=some (ms.map .int)/\d= .int i/\Q (.int (maxD i ms)) mh
theorem VD:bootBuiltins "max"=some (.builtin "max"):=by decide+kernel
section
variable {X:Cx}
theorem YH(z:X.calm=true):dW X (λv u=>call (.builtin "max") [v] [(Str.ofString "default",u)]) (bC X.K yL):=by
 intro pins s σ H x y v u Q I B C q;obtain⟨μ,mh,dx,M,R,g,D,E,⟨ms,i,e,rfl,q⟩,F⟩:=q;obtain⟨a,vs,rfl,sq,l⟩:=nE g D e;cases bK E;cases B;obtain⟨t,rfl⟩:=C;obtain⟨aL,G,o,hz⟩:=I.list sq;have h:=uH l G;have c:aL.length=ms.length:=by simpa using h.length
 refine P0 (nZ o.isList λp J st k=>?_);have n:a<s.heap.objs.size:=by obtain⟨_,e,_⟩:=o.isList;exact aHz e
 subst J;refine⟨_,_,_,_,_,_,λi j=>decide (ms.getD i 0 > ms.getD j 0),rfl,Walks.list (A:=X.A.in1) (I.ok.hd z) _ a k aL.toArray,st,?_,CmpOf.ints_gt (λi=>ms.getD i 0) (vS h),λv h' tk f hk=>?_⟩
 ·intro b r;simp only[List.mem_cons,List.not_mem_nil,or_false]at r;simp only[Heap.size_push];rcases r with rfl | rfl
  ·exact aIs _
  ·exact aIr n
 ·have d:∀b o',s.heap.get? b=some o' ->h'.get? b=some o' :=λb o' w =>hk b o' (by simp;exact aI4 (aHz w)) (aHu _ w)
  cases ms with
  | nil=>
   have L:aL=[]:=by cases aL with | nil=>rfl | cons _ _=>cases c
   subst L
   rcases f with ⟨_,rfl⟩ | ⟨h0,_⟩
   ·exact⟨.int i,H,I.kept d,⟨t,rfl⟩,F.here g q .int⟩
   ·simp at h0
  | cons m ms=>
   rcases f with ⟨h0,_⟩ | ⟨_,f⟩
   ·simp[c]at h0
   ·exact wW (s:=s) I g F q h (by simpa[c] using f) d
theorem ZF{e d:Expr}{w a:WE}{p pos kp:Pos}(f:X.calm=true)(g:X.mg "max"=none)(he:LE X e w)(hd:LE X d a)(hg:Gl X "max":=by rfl)
  (c:backTo pos (starEach [e] X.env)=(false,eval e X.env)::backTo pos (starEach [] X.env):=by rfl) (i:(backTo pos (starEach [e] X.env)).any (·.1)=false:=by rfl):
  LE X (.Call (.Name "max" p) [e] [⟨some "default",d,kp⟩] pos) (bE yL w a):=by
 have j:PE X (.Call (.Name "max" p) [e] [⟨some "default",d,kp⟩] pos) (tOp (bC X.K yL) (tL X.K w) (tL X.K a)):=by
  intro pins s σ H Q I h;refine aJ8 (iQ I hg g VD (callWith_kw ?_ c i rfl rfl));rw[c];refine aJk (b6 (VI he hd I h λv u s2 x y k l m n q=>YH f pins s2 σ k x y v u Q l m n q) λu s1 o=>?_);exact aKe (kws_cons (b6 o λr s2 b=>kws_nil b))
 exact PE.imp j λ_ _ _ h=>CS h
end
end D3
namespace L2
open PySem PySem.Spec PyProof.Rows
section
variable {prog:Program}{w:World}{A:Around}{E:aLx}{s:Shared}
variable{xs ys:Array Value}
theorem UY{z TI TO:Addr}{q r:Src}{i:Nat}{x:Value}{Q:PySem.Fin->Shared->Prop}(P:A.handled=none)(D:tG z TI TO q r)(Z:lW s.heap z TI TO q r i)
  (C:q.Sq s.heap xs) (F:r.Sq s.heap ys) (R:xs[i]? =some x) (S:ys[i]? =none)
  (T:∀h' e,(∀c o,c≠z->c≠TO->c≠q.it->c≠r.it->s.heap.get? c=some o->h'.get? c=some o)->(∃o,h'.get? e=some o/\o.cls= .type "StopIteration")->E (.ref e) {s with heap:=h'}):
  wpAny (model prog w) A (Builtin.«zip.__next__» ⟨[.ref z],[]⟩) Q E s:=by
 obtain⟨⟨f0,f1,W,hz⟩,⟨nI,I⟩,⟨x0,y0,n0,J⟩,U,V⟩:=Z;refine aHs (m:=field (.ref z) 2) (aIc hz rfl (x:= .bool false) rfl ?_);refine aHs (m:=field (.ref z) 3) (aIc hz rfl (x:= .ref TI) rfl ?_);refine aHs (m:=seqItems? (.ref TI)) (aIq I rfl ?_);refine aHs (m:=Builtin.SmallTypes.ownedTupleIsFree (.ref z)) (A6 W hz ?_ λh0 X u=>?_)
 ·simp only[if_true];refine aHs (aJ0 ?_);refine aHs (aIc hz rfl (x:= .ref TO) rfl ?_);refine aHs (aI6 hz (by simp) λk g d=>?_)
  replace g:k.get? z=some (zO .ellipsis f1 TI TO):=g
  refine aHs ?_;simp only[List.zipIdx_cons,List.zipIdx_nil,List.forIn_cons,List.forIn_nil];refine aHs (aHs (aKb ?_));show wpAny _ _ (Builtin.SmallTypes.nextOf (.ref q.it) >>=_) _ _ _;refine aHs (Src.item (s:={s with heap:=k}) (U.to λo e=>d.extBut _ _ D.q1 e) (C.to λo e=>d.extBut _ _ D.l1.1 e) R λb v a=>aHt ?_)
  replace a:Heap.SameBut q.it k b:=a
  have j:=a.extBut _ _ (aIg D.q3) (d.extBut _ _ D.n2 J);refine aHs (aIq j rfl ?_);refine aHs (aJf j rfl ?_);have h:Heap.SameBut TO b (b.update TO (Obj.mapSeq λz=>z.setIfInBounds 0 x)):=aIo ..;generalize b.update TO (Obj.mapSeq λz=>z.setIfInBounds 0 x)=h₃ at h⊢;refine aHs (aJr (aHt ?_));refine aHs (aHs (aKb ?_));show wpAny _ _ (Builtin.SmallTypes.nextOf (.ref r.it) >>=_) _ _ _;have K:∀c o,c≠z->c≠TO->c≠q.it->s.heap.get? c=some o->h₃.get? c=some o:=λc o t L y e=>h.extBut _ _ L (a.extBut _ _ y (d.extBut _ _ t e));refine aHs (Src.done (s:={s with heap:=h₃}) P (V.to λo e=>K _ _ D.r1 D.r3 (aIg D.qr) e) (F.to λo e=>K _ _ D.l2.1 D.l2.2.1 D.l2.2.2.1 e) S λl e f he=>?_);obtain⟨Y,B,G⟩:=he;have n:l.get? z=some (zO .ellipsis f1 TI TO):=f _ _ (aIg D.r1) (h.extBut _ _ (aIg D.n2) (a.extBut _ _ (aIg D.q1) g));have M:e≠z:=λx=>by subst x;rw[n]at B;cases B;simp[zO]at G
  refine aI6 n (by simp) λH _ p=>T H e (λc o t L y N x=>p.extBut _ _ t (f _ _ N (K _ _ t L y x))) ⟨Y,p.extBut _ _ M B,G⟩
 ·simp only[Bool.false_eq_true,if_false];refine aHs ?_;simp only[List.forIn_toArray,List.forIn_cons,List.forIn_nil];refine aHs (aHs (aIj ?_));show wpAny _ _ (Builtin.SmallTypes.nextOf (.ref q.it) >>=_) _ _ _;refine aHs (Src.item (s:={s with heap:=h0}) (U.to λo e=>u.extBut _ _ D.q1 e) (C.to λo e=>u.extBut _ _ D.l1.1 e) R λb v a=>aHt ?_)
  replace a:Heap.SameBut q.it h0 b:=a
  have O:∀c o,c≠z->c≠q.it->s.heap.get? c=some o->b.get? c=some o:=λc o t y e=>a.extBut _ _ y (u.extBut _ _ t e);refine aHt ?_;refine aHs (aHs (aIj ?_));show wpAny _ _ (Builtin.SmallTypes.nextOf (.ref r.it) >>=_) _ _ _;refine aHs (Src.done (s:={s with heap:=b}) P (V.to λo e=>O _ _ D.r1 (aIg D.qr) e) (F.to λo e=>O _ _ D.l2.1 D.l2.2.2.1 e) S λl e f he=>?_);exact T l e (λc o t _ y N x=>f _ _ N (O _ _ t y x)) he
variable{Q:Option Value->Shared->Prop}
theorem KA{z TI TO:Addr}{q r:Src}{i:Nat}{x y:Value}(D:tG z TI TO q r)(Z:lW s.heap z TI TO q r i)
  (d:q.Sq s.heap xs) (f:r.Sq s.heap ys) (h:xs[i]? =some x) (j:ys[i]? =some y)
  (l:∀h' p,s.heap.objs.size<=p->lW h' z TI TO q r (i+1)->h'.get? p=some {cls:= .type "tuple",data:= .seq #[x,y]}->
   (∀c o,c≠z->c≠TO->c≠q.it->c≠r.it->s.heap.get? c=some o->h'.get? c=some o)->Q (some (.ref p)) {s with heap:=h'}):wpAny (model prog w) A (pyNext (.ref z)) Q E s:=by
 have g:s.TypeIs (.ref z) "zip":=by obtain⟨f0,f1,_,e⟩:=Z.obj;exact⟨_,e,rfl⟩
 unfold pyNext
 exact aHs (aJ5 (aI8 (name:=Str.ofString "__next__") g aIu (aI7 aIu g aK4
  (HX D Z d f h j λh' p a b c k=>aHt (l h' p a b c k)) (aK1 _))))
theorem PC{z TI TO:Addr}{q r:Src}{i:Nat}(Z:lW s.heap z TI TO q r i)
  (h:∀(a:aLx),(∀h' e,(∀c o,c≠z->c≠TO->c≠q.it->c≠r.it->s.heap.get? c=some o->h'.get? c=some o)->(∃o,h'.get? e=some o/\o.cls= .type "StopIteration")->a (.ref e) {s with heap:=h'})->∀f,wpAny (model prog w) A.in1 (Builtin.«zip.__next__» ⟨[.ref z],[]⟩) f a s)
  (g:∀h',(∀c o,c≠z->c≠TO->c≠q.it->c≠r.it->s.heap.get? c=some o->h'.get? c=some o)->Q none {s with heap:=h'}):wpAny (model prog w) A (pyNext (.ref z)) Q E s:=by
 have d:s.TypeIs (.ref z) "zip":=by obtain⟨f0,f1,_,e⟩:=Z.obj;exact⟨_,e,rfl⟩
 unfold pyNext;refine aHs (aJ5 (aI8 (name:=Str.ofString "__next__") d aIu (aI7 aIu d aK4 (h _ (λh' e kp he=>?_) _) (aK1 _))));obtain⟨o,ho,j⟩:=he;exact aHs (aJs (T:= "StopIteration") (b:=true) ⟨o,ho,j⟩ aL5 (aHt (g _ kp)))
end
theorem Q9{P:Program}{w:World}{K:aLw}{y:Str}{pos:Pos}{z TI TO:Addr}{q r:Src}(D:tG z TI TO q r):
  Turn P w K (.Name y pos) (Itz K [(q.l,q.tup),(r.l,r.tup)]) [z,TI,TO,q.it,r.it] z (λi h=>lW h z TI TO q r i) where
 mem:=aHx
 self:=λA i s Q E Z h=>by
  have L:s.TypeIs (.ref z) "zip":=by obtain⟨f0,f1,_,e⟩:=Z.obj;exact⟨_,e,rfl⟩
  exact aJi L aKa (aI7 aKa L F.entry_zip_iter (aHt ⟨_,rfl,"zip",_,L,aIu.lookup,h⟩) (F.args_zip_iter_1 _))
 obj:=λi h Z b d=>by
  simp only[List.mem_cons,List.not_mem_nil,or_false]at d;rcases d with rfl | rfl | rfl | rfl | rfl
  ·obtain⟨f0,f1,_,e⟩:=Z.obj;exact⟨_,e,λv z=>by cases z⟩
  ·obtain⟨n,e⟩:=Z.aL;exact⟨_,e,λv z=>by cases z⟩
  ·obtain⟨x,y,n,e⟩:=Z.own;exact⟨_,e,λv z=>by cases z⟩
  ·obtain⟨o,ho,hd⟩:=Z.KQ.obj;exact⟨o,ho,λv z=>by rw[hd]at z;cases z⟩
  ·obtain⟨o,ho,hd⟩:=Z.at2.obj;exact⟨o,ho,λv z=>by rw[hd]at z;cases z⟩
 keep:=λi h h' Z k=>Z.to λb o d eb=>k b (by rcases d with rfl | rfl | rfl | rfl | rfl <;> simp) o eb
 item:=by
  intro X M N O R i pins s σ H E I C Z hg;subst M N O;obtain⟨vs,S,hv⟩:=hg
  match vs,S with
  | [T,U],_=>
   obtain⟨xs,G,hi⟩:=hv 0 _ _ T rfl rfl;obtain⟨ys,hy,hj⟩:=hv 1 _ _ U rfl rfl;obtain⟨aL,V,J⟩:=I.BW G;obtain⟨u,W,ru⟩:=V.get hi;obtain⟨Y,f,g⟩:=I.BW hy;obtain⟨u',hu',ru'⟩:=f.get hj;refine KA D Z (J q.it) (g r.it) (by simpa using W) (by simpa using hu') λh1 p p1 Z1 t1 k1=>?_;refine⟨_,rfl,aHt ?_⟩
   have j:∀b∈[z,TI,TO,q.it,r.it],∃o,s.heap.get? b=some o:=λb d=>by
    simp only[List.mem_cons,List.not_mem_nil,or_false]at d;rcases d with rfl | rfl | rfl | rfl | rfl
    ·obtain⟨f0,f1,_,e⟩:=Z.obj;exact⟨_,e⟩
    ·obtain⟨n,e⟩:=Z.aL;exact⟨_,e⟩
    ·obtain⟨x,y,n,e⟩:=Z.own;exact⟨_,e⟩
    ·obtain⟨o,ho,hd⟩:=Z.KQ.obj;exact⟨o,ho⟩
    ·obtain⟨o,ho,hd⟩:=Z.at2.obj;exact⟨o,ho⟩
   refine⟨.ref p,upd H p (.tup [T,U]),I.DM (t' :=s.toks) C (λb o d ho=>?_) p1 ⟨by have:=aIf;simp;lia,[u,u'],.cons ru (.cons ru' .nil),⟨_,t1,rfl,0,rfl⟩,λo ho=>by rw[t1]at ho;cases ho;rfl⟩,rfl,?_,Z1,λb d=>?_⟩
   ·simp only[List.mem_cons,List.not_mem_nil,or_false,not_or]at d;exact k1 b o d.1 d.2.2.1 d.2.2.2.1 d.2.2.2.2 ho
   ·refine⟨p,[T,U],I.bJ.fresh p1,rfl,rfl,rfl,λk a t v hk m zs hz=>?_⟩
    match k with
    | 0=>cases hk;cases m;rw[I.nX hz G];exact hi
    | 1=>cases hk;cases m;rw[I.nX hz hy];exact hj
    | k+2=>simp at hk
   ·obtain⟨o,ho⟩:=j b d;rw[aO (Nat.ne_of_lt (Nat.lt_of_lt_of_le (Heap.lt_size ho) p1))];exact(C b d).1
 done:=by
  intro X M N O R i pins s σ H E I C Z hg;subst M N O;obtain⟨k,a,t,xs,hk,G,hle,hlt⟩:=hg
  refine PC Z (λE2 hE Q2=>?_) λh' kp=>⟨rfl,I.A3 (t' :=s.toks) C λb o d ho=>kp b o (λz=>d (by simp[z])) (λz=>d (by simp[z])) (λz=>d (by simp[z])) (λz=>d (by simp[z])) ho⟩
  obtain⟨aL,V,J⟩:=I.BW G;have hlen:=V.length
  have B:aL.toArray[i]? =none:=by
   rw[List.getElem?_toArray];exact aJu.mpr (by lia)
  match k with
  | 0=>
   cases hk;exact PD (I.ok.hd R) D Z (J q.it) B λh' e kp he=>hE h' e (λc o c1 _ c3 _ x=>kp c o c1 c3 x) he
  | 1=>
   cases hk;obtain⟨zs,hz,S⟩:=hlt 0 q.l q.tup (by lia) rfl;obtain⟨Y,f,g⟩:=I.BW hz;obtain⟨u,W,_⟩:=f.get (aIm S);exact UY (I.ok.hd R) D Z (g q.it) (J r.it) (by simpa using W) B hE
  | k+2=>simp at hk
theorem SQ{X:Cx}{y:Str}{l g:Expr}{M:TA}{p pos N:Pos}(o :Gl X "zip")(v :X.mg "zip"=none)(U:PA X [l,g] M)
  (he:starEach [l,g] X.env=(false,eval l X.env)::starEach [g] X.env:=by rfl) (A:(backTo pos (starEach [g] X.env)).any (·.1)=false:=by rfl):
  PI X (.Name y N) (.Call (.Name "zip" p) [l,g] [] pos) (aDl X.K 2 M):=by
 intro pins s σ H R I h;have B :bootBuiltins "zip"=some (.type "zip"):=by decide+kernel
 refine aJ8 (iQ I o v B (aIt (b6 (U pos pins s σ H _ I h) λus s1 ⟨vs,C,j,r1,q1⟩=>?_) he A));obtain⟨src,rfl,E,f,V⟩:=q1;have W:=fW r1;subst W
 match src,E with
 | [(a,t),(b,u)],_=>
  obtain⟨xs,Y⟩:=f (a,t) (by simp);obtain⟨ys,hy⟩:=f (b,u) (by simp);obtain⟨aL,_,F⟩:=j.BW Y;obtain⟨G,_,J⟩:=j.BW hy;refine sE (qs:=[⟨0,a,t⟩,⟨0,b,u⟩]) (aJ6 (rM (show 2<=1000 by decide))) (uM.t _ rfl) (uM.n _ rfl) (λobj=>uM.i _ obj rfl) (λq O=>?_) λh' z TI TO t1 t2 t3 D Z kp=>?_
  ·simp only[List.mem_cons,List.not_mem_nil,or_false]at O;rcases O with rfl | rfl
   ·exact⟨aL.toArray,F 0⟩
   ·exact⟨G.toArray,J 0⟩
  ·have I2:Inv X pins σ C {s1 with heap:=h'}:=j.kept (t' :=s1.toks) kp
   have Q:lW h' z TI TO ⟨s1.heap.objs.size,a,t⟩ ⟨s1.heap.objs.size+1,b,u⟩ 0:=by
    refine⟨⟨.none,false,.inl rfl,Z.obj⟩,Z.aL,?_,Z.at_ _ (by simp[bF]),Z.at_ _ (by simp[bF])⟩;obtain⟨xs,n,E,e⟩:=Z.own
    match xs,E with
    | [x,y],_=>exact⟨x,y,n,e⟩
   have m0:(⟨s1.heap.objs.size,a,t⟩:Src)∈bF s1.heap.objs.size [⟨0,a,t⟩,⟨0,b,u⟩]:=by simp[bF]
   have m1:(⟨s1.heap.objs.size+1,b,u⟩:Src)∈bF s1.heap.objs.size [⟨0,a,t⟩,⟨0,b,u⟩]:=by simp[bF]
   have L:=D.FQ _ m0;have i1:=D.FQ _ m1;have m:=D.src _ m0;have d :=D.src _ m1
   have T:=Q9 (P:=X.prog) (w:=X.w) (K:=X.K) (y:=y) (pos:=N) (z:=z) (TI:=TI) (TO:=TO) (q:=⟨s1.heap.objs.size,a,t⟩) (r:=⟨s1.heap.objs.size+1,b,u⟩)
    ⟨D.ne1,D.ne2,D.ne3,L.1,L.2.1,L.2.2,i1.1,i1.2.1,i1.2.2,aI4 (aIs _),⟨m.1,m.2.1,m.2.2 _ m0,m.2.2 _ m1⟩,⟨d.1,d.2.1,d.2.2 _ m0,d.2.2 _ m1⟩⟩
   refine T.self _ 0 _ _ _ Q ⟨z,_,_,Itz X.K [(a,t),(b,u)],C,rfl,I2,T,Q,λc S=>?_,V⟩
   have k:s1.heap.objs.size<=c:=by
    simp only[List.mem_cons,List.not_mem_nil,or_false]at S;rcases S with rfl | rfl | rfl | rfl | rfl
    ·exact t3
    ·exact t1
    ·exact t2
    ·exact aHw _
    ·exact aLe _
   exact(j.DO k (j.bJ.fresh k):pO X pins C c)
end L2
namespace D3
open PySem PySem.Spec PyProof.Rows L2
section
variable {X:Cx}{y:Str}{e1 e2:Expr}{wa:WA}{p pos yp:Pos}
theorem T8(hg:Gl X "zip")(Q:X.mg "zip"=none)(S:LA X [e1,e2] wa)
  (he:starEach [e1,e2] X.env=(false,eval e1 X.env)::starEach [e2] X.env:=by rfl) (A:(backTo pos (starEach [e2] X.env)).any (·.1)=false:=by rfl):
  LI X (.Name y yp) (.Call (.Name "zip" p) [e1,e2] [] pos) (p7 wa):=
 PI.imp (SQ hg Q S he A) λσ H R h=>by
  obtain⟨μ,T,mh,g,U,En,h,F⟩:=h;refine⟨μ,T,mh,_,U,En,h,λxs B q n vs I V C W=>?_⟩;obtain⟨x,y,ds,es,rfl,Y,Z,hz,q⟩:=q;obtain⟨v,u,rfl,J,L⟩:=vQ W;obtain⟨a,xs,rfl,sa,la⟩:=fJ C J Y;obtain⟨b,s,rfl,sb,lb⟩:=fJ C L Z;refine⟨[(a,vP x),(b,vP y)],rfl,rfl,?_,F _ _ B q n _ I V C ?_⟩
  ·intro D o;simp at o;rcases o with rfl | rfl
   ·exact⟨xs,sa⟩
   ·exact⟨s,sb⟩
  ·have l:∀μ' mh' H',eC n I μ' H' ->Rep X.K μ' mh' H' ->(aX mh' x=some ds/\aX mh' y=some es)->∃xs s,rD X.K H' (vP x) a xs/\IsL X.K μ' H' ds xs/\rD X.K H' (vP y) b s/\IsL X.K μ' H' es s:=λμ' mh' H' m g st=>by
    obtain⟨a',c,e1,s1,l1⟩:=fJ g (Is.gP m _ _ J) st.1;obtain⟨b',f,e2,s2,l2⟩:=fJ g (Is.gP m _ _ L) st.2;cases e1;cases e2;exact⟨c,f,s1,l1,s2,l2⟩
   refine⟨by rw[dZ];lia,λμ' mh' H' m g st i d e=>?_,λμ' mh' H' m g st=>?_⟩
   ·obtain⟨c,f,s1,l1,s2,l2⟩:=l μ' mh' H' m g st;obtain⟨dx,dy,g1,g2,rfl⟩:=iF e;obtain⟨t,M,ix⟩:=d9 l1 g1;obtain⟨w,N,iy⟩:=d9 l2 g2;refine⟨⟨[t,w],rfl,λk a' t' v hk hv=>?_⟩,λz H'' yl=>?_⟩
    ·match k with
     | 0=>cases hk;cases hv;exact⟨c,s1,M⟩
     | 1=>cases hk;cases hv;exact⟨f,s2,N⟩
     | k+2=>simp at hk
    ·obtain⟨D,vs,O,rfl,rfl,E,r⟩:=yl
     match vs,E with
     | [v1,v2],_=>
      have e1:=r 0 a (vP x) v1 rfl rfl c s1;have e2:=r 1 b (vP y) v2 rfl rfl f s2;rw[M]at e1;rw[N]at e2;cases e1;cases e2;have G:aJ μ' H' μ' (upd H' D (.tup [t,w])):=aJ.new g O;refine⟨G,g.new O,?_⟩;unfold Is;refine⟨D,[t,w],rfl,.of aR,?_⟩;unfold IsL;exact⟨t,[w],rfl,Is.mono g G _ _ ix,fN (Is.mono g G _ _ iy)⟩
   ·obtain⟨c,f,s1,l1,s2,l2⟩:=l μ' mh' H' m g st;rw[dZ];by_cases hle:ds.length<=es.length
    ·refine⟨0,a,vP x,c,rfl,s1,by rw[aV l1];lia,λj b u P=>absurd P (by lia)⟩
    ·refine⟨1,b,vP y,f,rfl,s2,by rw[aV l2];lia,λj b u P hs=>?_⟩;have:j=0:=by lia
     subst this;cases hs;exact⟨c,s1,by rw[aV l1];lia⟩
end
end D3
namespace K68
open PySem PyProof.Rows L2 D3
set_option hygiene false
local macro_rules | `(tactic| specialize $t)=>`(tactic| with_reducible show $t)
local macro_rules | `(tactic| walk_at "t")=>`(tactic| repeat' first | ((specialize gY _ _ (gN _));exact uI _) | ((specialize gY _ _ _);refine' aA1 ?_) | ((specialize zG _ _ (cA _ _));refine' O3 ?_ ?_) | ((specialize zG _ _ _);exact US) | exact J0 (by decide) | exact FT | refine' O4 ?_ | refine' J1 ?_ ?_ ?_ ?_ | exact O5 | refine' gmono_tup ?_ | refine' FU ?_ ?_ | exact J3 | exact O6 (by decide) (by decide) | refine' gin_tup ?_ | refine' gin_cons ?_ ?_ ?_ ?_ | exact gin_nil)
local macro_rules | `(tactic| walk_at "g")=>`(tactic| first | ((specialize List.Nodup _);assumption) | ((with_reducible show LE _ _ _);first | ((specialize LE (aH _ _ _ _ _ _ _ _ _) _ (oV _ _ _ _ _ _));refine' ZI _ _ ?a ?b ?r ?s ?_ ?_ ?_ ?_;(case a | b=>decide+kernel);(case r | s=>walk_at "t")) | ((specialize LE _ _ (oV _ _ _ _ _ _));refine' ZH _ _ ?a ?b ?r ?s ?_ ?_ ?_ ?_;(case a | b=>decide+kernel);(case r | s=>walk_at "t")) | ((specialize LE _ _ (QR _ _ _ _ _ _ _));refine' ZK _ _ ?a ?b ?r ?s ?_ ?_ ?_ ?_ ?_;(case a | b=>decide+kernel);(case r | s=>walk_at "t")) | ((specialize LE _ _ (K3 _ _ _ _ _ _ _ _ _));refine' UD (o1:=2) _ _ ?a ?b ?r ?s (by decide) ?t ?e ?_ ?_ ?_ ?_ ?_ ?_ ?_;(case a | b=>decide+kernel);(case r | s | t | e=>walk_at "t")) | ((specialize LE _ (.Name _ _) (aA _));exact Y9 _) | ((specialize LE _ (.Constant (.int _) _ _) _);exact le_int) | ((specialize LE _ _ (bE gV _ _));refine' HH ixl ?_ ?_ (λ_ _=>rfl)) | ((specialize LE _ (.BinOp _ _ _ _) _);refine' aDa ?_ ?_ ?_) | ((specialize LE _ (.Call (.Name "len" _) _ _ _) (aG gC _));refine' vJ aAe B.len QC ?_) | ((specialize LE _ (.Tuple _ _ _) _);refine' ZA ?_) | ((specialize LE _ (.List _ _) _);refine' ZG ?_) | ((specialize LE _ (.Constant .none _ _) _);exact ZE) | ((specialize LE _ (.Constant (.str _) _ _) _);exact le_str) | ((specialize LE _ (.Constant (.bool _) _ _) _);exact aDg) | ((specialize LE _ _ (QQ _ d8 _ _));refine' aDf PySem.F.plainAttrs_list PySem.F.slot_list_append PySem.F.type_list_append JM ?_ ?_) | ((specialize LE _ _ (bE z0 _ _));refine' HH (ixF hr.units) ?_ ?_ (λ_ _=>rfl)) | ((specialize LE _ (.Compare _ [_] [_] _) _);refine' N0 ?_ ?_ ?_ (aD1 _)) | ((specialize LE _ _ (bE AA _ _));refine' HH (ixD hr.units) ?_ ?_ (λ_ _=>rfl)) | ((specialize LE _ (.Compare _ [_] [_] _) _);refine' N0 ?_ ?_ ?_ (by rfl)) | ((specialize LE _ (.BoolOp _ [_] _) _);refine' ZC ?_) | ((specialize LE _ (.BoolOp .And (_::_::_) _) _);refine' ZL ?_ ?_) | ((specialize LE _ (.Call (.Name "isinstance" _) _ _ _) (aG wZ _));refine' vJ aAf B.isinstance xT ?_) | ((specialize LE _ (.Call (.Name "all" _) _ _ _) (aG ED _));refine' vJ (aAh rfl) B.all aAp ?_) | ((specialize LE _ (.Call (.Name "tuple" _) _ _ _) (aG nR _));refine' UB PU B.tuple wU ?_) | ((specialize LE _ (.UnaryOp .USub _ _) _);refine' aD9 ?_ ?_) | ((specialize LE _ (.Call (.Name "any" _) _ _ _) (aG GH _));refine' vJ (aAg rfl) B.any aAo ?_) | ((specialize LE _ _ (wSl oSl _ _ _));refine' NY sll ?_ ?_ ?_) | ((specialize LE _ _ (bE TB _ _));refine' HH (ixU hr.units) ?_ ?_ (λ_ _=>rfl)) | ((specialize LE _ (.Call (.Name "min" _) _ _ _) (aG zE _));refine' vJ (U7 rfl) B.min aAm ?_) | ((specialize LE _ (.Call (.Name "max" _) _ _ _) (aG zF _));refine' vJ (U9 rfl) B.max QB ?_) | ((specialize LE _ (.Name "tuple" _) (wC _));exact HG B.tuple wU) | ((specialize LE _ _ (bE yL _ _));refine' ZF rfl B.max ?_ ?_) | ((specialize LE _ _ (B7 false));exact UH) | ((specialize LE _ _ (B8 _ _ _));refine' UE ?_ ?_ ?_) | ((specialize LE _ (.Call (.Name "sorted" _) _ _ _) (aG wY _));refine' vJ (F6 hr.units rfl) B.sorted oF ?_) | ((specialize LE _ _ (tZ _));refine' JT rfl B.set B.len ?_) | ((specialize LE _ (.Call (.Name "dict" _) _ _ _) (aG GG _));refine' UB PX B.dict VF ?_) | ((specialize LE _ (.Call (.Name "list" _) _ _ _) (aG GF _));refine' UB (PV rfl) B.list VE ?_) | ((specialize LE _ _ (GX _));refine' UI hr.units ?_) | ((specialize LE _ (.Call (.Name "tuple" _) _ _ _) (aG BQ _));refine' UB (KI rfl) B.tuple wU ?_) | ((specialize LE _ _ (B7 true));exact UG) | ((specialize LE _ (.Call (.Name "sorted" _) _ _ _) (aG wX _));refine' vJ (F5 hr.units) B.sorted oF ?_) | ((specialize LE _ _ (zJ _ _ _));refine' NZ nu hr.units ?_ ?_ ?_) | ((specialize LE _ (.Call (.Name "sorted" _) _ _ _) (aG BR _));refine' vJ (KJ hr.units) B.sorted oF ?_) | ((specialize LE _ (.Call (.Name "abs" _) _ _ _) (aG QI _));refine' vJ aAi B.abs aAq ?_) | ((specialize LE _ (.Name "int" _) (wC _));exact HG B.int aAn) | ((specialize LE _ (.Name "bool" _) (wC _));exact HG B.bool VG) | ((specialize LE _ (.UnaryOp .Not _ _) _);refine' ZD ?_) | ((specialize LE _ (.Name "str" _) (wC _));exact HG B.str aAk) | ((specialize LE _ (.Call (.Name "max" _) _ _ _) (aG QH _));refine' vJ (U8 rfl) B.max QB ?_) | ((specialize LE _ (.Call (.Name _ _) _ _ _) (aG _ _));refine' aDd (by assumption) hr ?_)) | ((with_reducible show LS _ _ _);first | ((specialize LS _ _ (pA));exact NT) | ((specialize LS _ _ (Q5 _));refine' YZ ?_) | ((specialize LS _ (.Assign [.Name _ _] (.ListComp _ _ _ _) _) _);refine' JP _ _ ?a ?b ?r ?s (by assumption) ?_ ?_ ?_ ?_;(case a | b=>decide+kernel);(case r | s=>walk_at "t")) | ((specialize LS _ (.Assign [.Name _ _] (.DictComp _ _ _ _ _) _) _);refine' JQ _ _ ?a ?b ?r ?s (by assumption) ?_ ?_ ?_ ?_ ?_;(case a | b=>decide+kernel);(case r | s=>walk_at "t")) | ((specialize LS _ (.Assign [.Name _ _] (.ListComp _ _ _ _) _) _);refine' T2 _ ?_ ?_) | ((specialize LS _ (.Return (some _) _) _);refine' Y0 ?_) | ((specialize LS _ (.If _ _ _ _) _);refine' aD4 ?_ ?_ ?_) | ((specialize LS _ (.For _ _ _ _ _) _);refine' Y4 PassesOwn.never rfl ?_ ?_ ?r ?_;(case r=>walk_at "t")) | ((specialize LS _ (.Expr _ _) _);refine' aH5 ?_) | ((specialize LS _ (.While _ _ _ _) _);refine' NR PassesOwn.never ?_ ?_) | ((specialize LS _ (.Delete _ _) _);refine' T4 ?_ ?_) | ((specialize LS _ (.Assign [.Tuple _ _ _] (.Tuple _ _ _) _) _);refine' Y1 _ _ rfl (by assumption) ?_) | ((specialize LS _ (.Assign [.Name _ _] _ _) _);refine' aH4 _ ?_ ?_) | ((specialize LS _ (.Assign [.Subscript _ _ _] _ _) _);refine' T1 ?_ ?_ ?_) | ((specialize LS _ (.Assign [.Tuple _ _ _] _ _) _);refine' Y5 ?_ ?_ ?r;(case r=>walk_at "t"))) | ((with_reducible show LA _ _ _);first | ((specialize LA _ (_::_) _);refine' aH9 ?_ ?_) | ((specialize LA _ [] _);exact ZP)) | ((with_reducible show LI _ _ _ _);first | ((specialize LI _ _ _ (kB _));refine' JS rfl B.range ?_) | ((specialize LI _ _ _ (oW _));refine' Y8 ?_) | ((specialize LI _ _ _ (p7 _));refine' T9 rfl B.zip ?_) | ((specialize LI _ _ _ (Q6 _));refine' Y7 rfl B.enumerate rfl B.zip ?_) | ((specialize LI _ _ _ (wEn _));refine' aD8 rfl B.enumerate ?_) | ((specialize LI _ _ _ (GV _));refine' JR rfl B.range ?_) | ((specialize LI _ (.Name _ _) _ (p7 _));refine' T8 rfl B.zip ?_) | ((specialize LI _ _ _ (cY _));refine' Y6 ?_)) | ((with_reducible show PG _ _ _);first | ((specialize PG _ (.Name _ _) _);exact RC _ (by assumption)) | ((specialize PG _ (.Tuple _ _ _) _);refine' XX rfl ?_)) | ((with_reducible show PGs _ _ _);first | ((specialize PGs _ (_::_) _);refine' MS ?_ ?_) | ((specialize PGs _ [] _);exact SR)) | ((with_reducible show dW _ _ _);first | ((specialize dW _ _ (bC _ iP));exact YM) | ((specialize dW _ _ (bC _ oEq));exact aCw hr.units) | ((specialize dW _ _ (bC _ vG));exact YI) | ((specialize dW _ _ (bC _ JI));exact aCq hr.units) | ((specialize dW _ _ (bC _ nB));exact S7) | ((specialize dW _ _ (bC _ TF));exact aCu hr.units) | ((specialize dW _ _ (bC _ oLt));exact aCr hr.units) | ((specialize dW _ _ (bC _ oMod));exact YJ) | ((specialize dW _ _ (bC _ WD));exact aCt hr.units) | ((specialize dW _ _ (bC _ oLe));exact aCs hr.units) | ((specialize dW _ _ (bC _ JJ));exact YL hr.units) | ((specialize dW _ _ (bC _ MZ));exact YF) | ((specialize dW _ _ (bC _ vF));exact MY hr.units) | ((specialize dW _ _ (bC _ HA));exact S8) | ((specialize dW _ _ (bC _ TC));exact YK hr.units) | ((specialize dW _ _ (bC _ uC));exact JF hr.units) | ((specialize dW _ _ (bC _ YN));exact YE) | ((specialize dW _ _ (bC _ YO));exact YG hr.units) | ((specialize dW _ _ (bC _ oGe));exact aCv hr.units)) | ((with_reducible show LT _ _ _);first | ((specialize LT _ (.Compare _ [_] [_] _) _);refine' NO ?_ ?_ ?_ (aD1 _)) | ((specialize LT _ (.UnaryOp .Not _ _) _);refine' YX ?_) | ((specialize LT _ (.Compare _ [_] [_] _) _);refine' NO ?_ ?_ ?_ (by rfl)) | ((specialize LT _ (.BoolOp .And _ _) _);refine' LW.lt (NL ?_ ?_)) | ((specialize LT _ (.BoolOp .Or _ _) _);refine' LW.lt (WK ?_ ?_)) | ((specialize LT _ (.Compare _ [_,_] _ _) _);refine' NP ?_ ?_ ?_ ?_ ?_) | ((specialize LT _ _ (GU _));refine' TZ ?_) | ((specialize LT _ _ _);refine' NM ?_)) | ((with_reducible show kZ _ _ _);first | ((specialize kZ _ [_] _);refine' Y2 ?_) | ((specialize kZ _ [] _);exact Y3) | ((specialize kZ _ (_::_) _);refine' T5 ?_ ?_)) | ((with_reducible show BX _ _ _);first | ((specialize BX _ [] _);exact TY) | ((specialize BX _ [_] _);refine' TX ?_)) | ((specialize UnR _ _ _);exact WY) | ((with_reducible show LW _ _ _);first | ((specialize LW _ (.BoolOp .And [_] _) _);refine' TV ?_) | ((specialize LW _ (.BoolOp .Or [_] _) _);refine' YW ?_) | ((specialize LW _ (.BoolOp .And _ _) _);refine' NL ?_ ?_) | ((specialize LW _ (.BoolOp .Or _ _) _);refine' WK ?_ ?_)) | ((with_reducible show LO _ _ _);first | ((specialize LO _ (some _) _);refine' T6 ?_) | ((specialize LO _ none _);exact T7)) | (with_reducible intro _))
set_option hygiene true
section
variable {P:Program}{w:World}{K:aLw}{mg:aLz}{base:Heap}{k:Nat}
theorem sR:aY ["above","below","columns","column","wires","wire"] ["above","below"] (aF gH):=⟨rfl,rfl,rfl,by decide+kernel,rfl,by decide+kernel,by decide+kernel⟩
def jR:WS:=(eX (cJ (bE JI (aA 5) (wC (.int 0)))) (mY (QQ "list" d8 (B8 (aA 2) (aA 5) (oI aI)) (aB (aA 3) aI))) cO)
def oM:WS:=(jT (cY (aA 4)) (gN 5) (jR))
def pQ:WS:=(cZ (QR ["wire"] [2] (cY (aG wY (aB (aA 2) aI))) (gN 0) (cJ (bE TF (tZ (bE AA (aA 1) (aA 0))) (wC (.int 1)))) (aA 0) (mJ (aB (bE gV (bE AA (aA 1) (aA 0)) (wC (.int 0))) (aB (bE gV (bE AA (aA 1) (aA 0)) (wUn JH (wC (.int 1)))) aI)))))
def pR:WS:=(aT (jT (Q6 (aB (aA 0) (aB (aA 1) aI))) (gT 2 (cA (gN 3) (cA (gN 4) kN))) (oM)) (pQ))
def k9:WS:=(aT (bI (B7 false) (gN 2)) (pR))
theorem FJ(B:Bl mg):sM P w K mg base k "spans_of" ["above","below","columns","column","wires","wire"] gH (k9):=by
 intro f cdv A outer s H E hr;have nd:=sR.nd;show kZ _ (_::_) _
 repeat' walk_at "g"
theorem qJ:aY ["above","below","spans","uppers","high","low"] ["above","below","spans"] (aF fH):=⟨rfl,rfl,rfl,by decide+kernel,rfl,by decide+kernel,by decide+kernel⟩
def mT:WS:=(eX (oX (cJ (bE JJ (aA 4) (aA 2))) (oX (cJ (bE JJ (aA 5) (aA 2))) (oX (cJ (bE JI (aA 4) (aA 5))) (cJ (bE vF (aA 4) (bE AA (aA 3) (aA 5))))))) (mY (QQ "list" d8 (bE AA (aA 3) (aA 5)) (aB (aA 4) aI))) cO)
def oN:WS:=(cZ (aA 3))
def oO:WS:=(aT (jT (p7 (aB (aA 0) (aB (aA 1) aI))) (gT 2 (cA (gN 4) (cA (gN 5) kN))) (mT)) (oN))
def jA:WS:=(aT (bI (QR ["wire"] [] (oW (aA 2)) (gN 0) fS (aA 0) (oI aI)) (gN 3)) (oO))
theorem C6(B:Bl mg):sM P w K mg base k "orders_of" ["above","below","spans","uppers","high","low"] fH (jA):=by
 intro f cdv A outer s H E hr;have nd:=qJ.nd;show kZ _ (_::_) _
 repeat' walk_at "g"
theorem u4:aY ["uppers","left","free","wire","walk","ring"] ["uppers"] (aF iN):=⟨rfl,rfl,rfl,by decide+kernel,rfl,by decide+kernel,by decide+kernel⟩
def pS:WS:=(GY (aA 1) (aA 3))
def mP:WS:=(jT (cY (aA 2)) (gN 3) (pS))
def lC:WS:=(aT (Q5 (bI (oV ["wire"] [1] (oW (aA 1)) (gN 0) (mX (oH (aG GH (aB (oV ["upper"] [1] (cY (bE z0 (aA 1) (aA 0))) (gN 0) fS (bE JJ (aA 0) (aA 1))) aI)))) (aA 0)) (gN 2))) (mP))
def B0:WS:=(aT pA pA)
def B1:WS:=(aT pA (B0))
def B2:WS:=(aT pA (B1))
def mQ:WS:=(aT (eX (mX (GU (aA 1))) (cZ (wC .bT)) cO) (B2))
def B3:WS:=(aT (o9 (oH (aA 2)) (lC)) (mQ))
def sN:WS:=(aT (bI (aG GF (aB (aA 1) aI)) (gN 2)) (B3))
def nV:WS:=(aT (bI (aG GG (aB (aA 0) aI)) (gN 1)) (sN))
theorem JV(B:Bl mg):sM P w K mg base k "ring_in" ["uppers","left","free","wire","walk","ring"] iN (nV):=by
 intro f cdv A outer s H E hr;have nd:=u4.nd;show kZ _ (_::_) _
 repeat' walk_at "g"
theorem G6:aY ["one","other"] ["one","other"] (aF qH):=⟨rfl,rfl,rfl,by decide+kernel,rfl,by decide+kernel,by decide+kernel⟩
def zH:WS:=(cZ (sO (bE oLe (bE gV (aA 0) (wC (.int 0))) (bE gV (aA 1) (wC (.int 1)))) (bE oLe (bE gV (aA 1) (wC (.int 0))) (bE gV (aA 0) (wC (.int 1))))))
theorem ZQ(B:Bl mg):sM P w K mg base k "meet" ["one","other"] qH (zH):=by
 intro f cdv A outer s H E hr;have nd:=G6.nd;show kZ _ (_::_) _
 repeat' walk_at "g"
theorem sS:aY ["spans","wires","told","wire","more"] ["spans","wires"] (aF gI):=⟨rfl,rfl,rfl,by decide+kernel,rfl,by decide+kernel,by decide+kernel⟩
def lY(a:OA):WS:=(bI (bE iP (aA 2) (aA 4)) (gN 2))
def oP(a:OA):WS:=(aT (bI (oV ["own"] [3,0] (cY (aA 2)) (gN 0) (mX (oH (aG GH (aB (oV ["other"] [2,1] (cY (aA 0)) (gN 0) fS (aG a (aB (bE z0 (aA 1) (aA 2)) (aB (bE z0 (aA 1) (aA 0)) aI)))) aI)))) (bE iP (aA 0) (mJ (aB (aA 1) aI)))) (gN 4)) (lY a))
def pU(a:OA):WS:=(cZ (wSl oSl (aA 2) (B6 (wC (.int 1))) wNo))
def pV(a:OA):WS:=(aT (jT (cY (aA 1)) (gN 3) (oP a)) (pU a))
def lD(a:OA):WS:=(aT (bI (oI (aB (mJ aI) aI)) (gN 2)) (pV a))
variable{s0:OA}
theorem FK(B:Bl mg)(A5:Fn P w K mg base k "meet" ["one","other"] s0):sM P w K mg base k "fillings" ["spans","wires","told","wire","more"] gI (lD s0):=by
 intro f cdv A outer s H E hr;have nd:=sS.nd;show kZ _ (_::_) _
 repeat' walk_at "g"
theorem oZ:aY ["uppers","laid"] ["uppers","laid"] (aF eH):=⟨rfl,rfl,rfl,by decide+kernel,rfl,by decide+kernel,by decide+kernel⟩
def iA:WS:=(cZ (oV ["wire"] [1,0] (oW (aA 0)) (gN 0) (oX (cJ (bE vF (aA 0) (aA 1))) (oH (aG ED (aB (oV ["upper"] [1] (cY (bE z0 (aA 2) (aA 0))) (gN 0) fS (bE WD (aA 0) (aA 1))) aI)))) (aA 0)))
theorem AR(B:Bl mg):sM P w K mg base k "free_wires" ["uppers","laid"] eH (iA):=by
 intro f cdv A outer s H E hr;have nd:=oZ.nd;show kZ _ (_::_) _
 repeat' walk_at "g"
theorem kI:aY ["spans","uppers","rows","every","longer","laid","filling"] ["spans","uppers"] (aF c6):=⟨rfl,rfl,rfl,by decide+kernel,rfl,by decide+kernel,by decide+kernel⟩
def iH(s0 s1:OA):WS:=(mY (zJ (aA 4) (aG nR (aB (aG wX (aB (bE iP (aA 5) (aA 6)) aI)) aI)) (bE iP (bE TB (aA 2) (aA 5)) (oI (aB (aA 6) aI)))))
def iI(s0 s1:OA):WS:=(jT (cY (aG s0 (aB (aA 0) (aB (aG s1 (aB (aA 1) (aB (aA 5) aI))) aI)))) (gN 6) (iH s0 s1))
def gE(s0 s1:OA):WS:=(bI (aA 4) (gN 2))
def gF(s0 s1:OA):WS:=(aT (jT (oW (aA 2)) (gN 5) (iI s0 s1)) (gE s0 s1))
def eR(s0 s1:OA):WS:=(aT (bI (B7 true) (gN 4)) (gF s0 s1))
def fA(s0 s1:OA):WS:=(cZ (bE TB (aA 2) (aA 3)))
def pW(s0 s1:OA):WS:=(aT (o9 (cJ (bE uC (aA 3) (aA 2))) (eR s0 s1)) (fA s0 s1))
def jB(s0 s1:OA):WS:=(aT (bI (aG BQ (aB (aA 0) aI)) (gN 3)) (pW s0 s1))
def eL(s0 s1:OA):WS:=(aT (bI (GX (oI aI)) (gN 2)) (jB s0 s1))
variable{s1:OA}
theorem tK(B:Bl mg)(v5:Fn P w K mg base k "fillings" ["spans","wires"] s0)(qU:Fn P w K mg base k "free_wires" ["uppers","laid"] s1)(nu:NoU K):sM P w K mg base k "fewest_tracks" ["spans","uppers","rows","every","longer","laid","filling"] c6 (eL s0 s1):=by
 intro f cdv A outer s H E hr;have nd:=kI.nd;show kZ _ (_::_) _
 repeat' walk_at "g"
theorem mB:aY ["spans","many","wide","column"] ["spans","many","wide"] (aF dJ):=⟨rfl,rfl,rfl,by decide+kernel,rfl,by decide+kernel,by decide+kernel⟩
def i9(s0:OA):WS:=(eX (cJ (bE oEq (aG gC (aB (oV ["wire"] [0,3] (oW (aA 0)) (gN 0) (oH (aG s0 (aB (bE z0 (aA 1) (aA 0)) (aB (mJ (aB (aA 2) (aB (aA 2) aI))) aI)))) (aA 0)) aI)) (aA 1))) (cZ (aA 3)) cO)
def jY(s0:OA):WS:=(cZ (wC .bT))
def eY(s0:OA):WS:=(aT (jT (kB (aB (aA 2) aI)) (gN 3) (i9 s0)) (jY s0))
theorem vL(B:Bl mg)(A5:Fn P w K mg base k "meet" ["one","other"] s0):sM P w K mg base k "thick_column" ["spans","many","wide","column"] dJ (eY s0):=by
 intro f cdv A outer s H E hr;have nd:=mB.nd;show kZ _ (_::_) _
 repeat' walk_at "g"
theorem sT:aY ["uppers","wire","many","upper","ahead"] ["uppers","wire","many"] (aF gJ):=⟨rfl,rfl,rfl,by decide+kernel,rfl,by decide+kernel,by decide+kernel⟩
def gR(s0:OA):WS:=(eX (cJ (bE nB (aA 4) (wC .bT))) (cZ (bE iP (aA 4) (mJ (aB (aA 1) aI)))) cO)
def oQ(s0:OA):WS:=(aT (bI (aG s0 (aB (aA 0) (aB (aA 3) (aB (bE YN (aA 2) (wC (.int 1))) aI)))) (gN 4)) (gR s0))
def pX(s0:OA):WS:=(cZ (wC .bT))
def pY(s0:OA):WS:=(aT (jT (cY (bE z0 (aA 0) (aA 1))) (gN 3) (oQ s0)) (pX s0))
def lE(s0:OA):WS:=(aT (eX (cJ (bE oEq (aA 2) (wC (.int 1)))) (cZ (mJ (aB (aA 1) aI))) cO) (pY s0))
theorem FL(B:Bl mg)(lS:Fn P w K mg base k "chain_to" ["uppers","wire","many"] s0):sM P w K mg base k "chain_to" ["uppers","wire","many","upper","ahead"] gJ (lE s0):=by
 intro f cdv A outer s H E hr;have nd:=sT.nd;show kZ _ (_::_) _
 repeat' walk_at "g"
theorem oY:aY ["spans","uppers","many","wide","column","wire","chain"] ["spans","uppers","many","wide"] (aF eG):=⟨rfl,rfl,rfl,by decide+kernel,rfl,by decide+kernel,by decide+kernel⟩
def eZ(s0 s1:OA):WS:=(eX (cJ (bE nB (aA 6) (wC .bT))) (cZ (mJ (aB (wC (.str "chain")) (aB (aA 6) aI)))) cO)
def lX(s0 s1:OA):WS:=(aT (bI (aG s1 (aB (aA 1) (aB (aA 5) (aB (aA 2) aI)))) (gN 6)) (eZ s0 s1))
def mR(s0 s1:OA):WS:=(cZ (mJ (aB (wC (.str "all")) aI)))
def mS(s0 s1:OA):WS:=(aT (jT (oW (aA 1)) (gN 5) (lX s0 s1)) (mR s0 s1))
def iG(s0 s1:OA):WS:=(aT (eX (cJ (bE nB (aA 4) (wC .bT))) (cZ (mJ (aB (wC (.str "thick")) (aB (aA 4) aI)))) cO) (mS s0 s1))
def hZ(s0 s1:OA):WS:=(aT (bI (aG s0 (aB (aA 0) (aB (aA 2) (aB (aA 3) aI)))) (gN 4)) (iG s0 s1))
theorem AQ(B:Bl mg)(nM:Fn P w K mg base k "thick_column" ["spans","many","wide"] s0)(lS:Fn P w K mg base k "chain_to" ["uppers","wire","many"] s1):sM P w K mg base k "reason_for" ["spans","uppers","many","wide","column","wire","chain"] eG (hZ s0 s1):=by
 intro f cdv A outer s H E hr;have nd:=oY.nd;show kZ _ (_::_) _
 repeat' walk_at "g"
theorem CG:aY ["above","below","spans","uppers","ring","rows","tracks"] ["above","below"] (aF m7):=⟨rfl,rfl,rfl,by decide+kernel,rfl,by decide+kernel,by decide+kernel⟩
def xY(s0 s1 s2 b a:OA):WS:=(cZ (mJ (aB (aG gC (aB (aA 5) aI)) (aB (aG nR (aB (aA 6) aI)) (aB (aG a (aB (aA 2) (aB (aA 3) (aB (aG gC (aB (aA 5) aI)) (aB (aG gC (aB (aA 0) aI)) aI))))) aI)))))
def xZ(s0 s1 s2 a b:OA):WS:=(aT (bI (aG BR (aB (K3 ["track","row","wire"] [] (wEn (aB (aA 5) aI)) (gT 2 (cA (gN 0) (cA (gN 1) kN))) fS (cY (aA 1)) (gN 2) fS (mJ (aB (aA 2) (aB (aA 0) aI)))) aI)) (gN 6)) (xY s0 s1 s2 a b))
def x3(s0 s1 s2 a b:OA):WS:=(aT (bI (aG a (aB (aA 2) (aB (aA 3) aI))) (gN 5)) (xZ s0 s1 s2 a b))
def x4(s0 s1 s2 a b:OA):WS:=(aT (eX (cJ (bE nB (aA 4) (wC .bT))) pA cO) (x3 s0 s1 s2 a b))
def x5(s0 s1 s2 a b:OA):WS:=(aT (bI (aG s2 (aB (aA 3) aI)) (gN 4)) (x4 s0 s1 s2 a b))
def x8(s0 s1 s2 a b:OA):WS:=(aT (bI (aG s1 (aB (aA 0) (aB (aA 1) (aB (aA 2) aI)))) (gN 3)) (x5 s0 s1 s2 a b))
def tY(s0 s1 s2 a b:OA):WS:=(aT (bI (aG s0 (aB (aA 0) (aB (aA 1) aI))) (gN 2)) (x8 s0 s1 s2 a b))
theorem UN(B:Bl mg)(vZ:Fn P w K mg base k "spans_of" ["above","below"] s0)(sY:Fn P w K mg base k "orders_of" ["above","below","spans"] s1){s2:OA}(yU:Fn P w K mg base k "ring_in" ["uppers"] s2){s3:OA}(mG:Fn P w K mg base k "fewest_tracks" ["spans","uppers"] s3){s4:OA}(qT:Fn P w K mg base k "reason_for" ["spans","uppers","many","wide"] s4):sM P w K mg base k "wired" ["above","below","spans","uppers","ring","rows","tracks"] m7 (tY s0 s1 s2 s3 s4):=by
 intro f cdv A outer s H E hr;have nd:=CG.nd;show kZ _ (_::_) _
 repeat' walk_at "g"
theorem sU:aY ["_law_script","_law_at","_law_cell","_law_mix","_law_k"] ["_law_script","_law_at"] (aF gK):=⟨rfl,rfl,rfl,by decide+kernel,rfl,by decide+kernel,by decide+kernel⟩
def oU:WS:=(bI (bE oMod (bE MZ (bE iP (bE iP (bE vG (aA 3) (wC (.int 48271))) (bE oMod (bE gV (aA 0) (aA 4)) (wC (.int 2147483647)))) (bE vG (aA 4) (aA 4))) (wC (.int 5))) (wC (.int 2147483629))) (gN 3))
def pZ:WS:=(cZ (oI (aB (aA 2) (aB (aA 3) aI))))
def lF:WS:=(aT (eX (cJ (bE oLt (aA 2) (bE MZ (wC (.int 10)) (wC (.int 18))))) (bI (wC (.int 0)) (gN 2)) cO) (pZ))
def p5:WS:=(aT (jT (kB (aB (aG zE (aB (aG gC (aB (aA 0) aI)) (aB (wC (.int 60)) aI))) aI)) (gN 4) (oU)) (lF))
def lG:WS:=(aT (bI (bE iP (bE iP (bE vG (bE vG (wC (.int 7919)) (aA 1)) (aA 1)) (bE vG (wC (.int 104729)) (aA 1))) (wC (.int 17))) (gN 3)) (p5))
def p6:WS:=(aT (eX (cJ (bE oLt (aA 1) (aG gC (aB (aA 0) aI)))) (bI (aG QI (aB (bE gV (aA 0) (aA 1)) aI)) (gN 2)) cO) (lG))
def lH:WS:=(aT (bI (wC (.int 0)) (gN 2)) (p6))
theorem FN(B:Bl mg):sM P w K mg base k "_law_bag" ["_law_script","_law_at","_law_cell","_law_mix","_law_k"] gK (lH):=by
 intro f cdv A outer s H E hr;have nd:=sU.nd;show kZ _ (_::_) _
 repeat' walk_at "g"
theorem qK:aY ["_law_bag_here","_law_many","_law_digit","_law_number","_law_room"] ["_law_bag_here","_law_many"] (aF fI):=⟨rfl,rfl,rfl,by decide+kernel,rfl,by decide+kernel,by decide+kernel⟩
def jZ:WS:=(bI (bE vG (aA 4) (wC (.int 1073741789))) (gN 4))
def j0:WS:=(aT (bI (bE iP (bE vG (aA 3) (wC (.int 1073741789))) (bE oMod (bE vG (bE HA (bE gV (aA 0) (wC (.int 1))) (wC (.int 8))) (wC (.int 69621))) (wC (.int 1073741789)))) (gN 3)) (jZ))
def mU:WS:=(aT (B5 (bE oMod (bE MZ (bE iP (bE vG (bE gV (aA 0) (wC (.int 1))) (wC (.int 48271))) (wC (.int 7919))) (wC (.int 5))) (wC (.int 2147483629))) (aA 0) (wC (.int 1))) (j0))
def jS:WS:=(cZ (bE oMod (aA 3) (aA 1)))
def oR:WS:=(aT (o9 (cJ (bE oLt (aA 4) (aA 1))) (mU)) (jS))
def oS:WS:=(aT (bI (wC (.int 1)) (gN 4)) (oR))
def oT:WS:=(aT (bI (wC (.int 0)) (gN 3)) (oS))
def jC:WS:=(aT (eX (cJ (bE TF (bE gV (aA 0) (wC (.int 0))) (wC (.int 0)))) (aT (bI (bE oMod (bE gV (aA 0) (wC (.int 0))) (aA 1)) (gN 2)) (aT (B5 (bE HA (bE gV (aA 0) (wC (.int 0))) (aA 1)) (aA 0) (wC (.int 0))) (cZ (aA 2)))) cO) (oT))
theorem C7(B:Bl mg):sM P w K mg base k "_law_take" ["_law_bag_here","_law_many","_law_digit","_law_number","_law_room"] fI (jC):=by
 intro f cdv A outer s H E hr;have nd:=qK.nd;show kZ _ (_::_) _
 repeat' walk_at "g"
theorem kJ:aY ["_law_thing"] ["_law_thing"] (aF c7):=⟨rfl,rfl,rfl,by decide+kernel,rfl,by decide+kernel,by decide+kernel⟩
def eM:WS:=(cZ (sO (aG wZ (aB (aA 0) (aB (wC (.ty "int")) aI))) (GW (aG wZ (aB (aA 0) (aB (wC (.ty "bool")) aI))))))
theorem tM(B:Bl mg):sM P w K mg base k "_law_is_whole" ["_law_thing"] c7 (eM):=by
 intro f cdv A outer s H E hr;have nd:=kJ.nd;show kZ _ (_::_) _
 repeat' walk_at "g"
theorem mE:aY ["_law_bag_here","_law_many","_law_kinds","_law_apart_sides","_law_above","_law_below","_law_column","_law_up","_law_down"] ["_law_bag_here"] (aF dO):=⟨rfl,rfl,rfl,by decide+kernel,rfl,by decide+kernel,by decide+kernel⟩
def gZ(s0:OA):WS:=(mY (QQ "list" d8 (aA 5) (aB (aA 8) aI)))
def eE(s0:OA):WS:=(aT (mY (QQ "list" d8 (aA 4) (aB (aA 7) aI))) (gZ s0))
def g5(s0:OA):WS:=(aT (eX (oX (cJ (bE oEq (aA 3) (wC (.int 1)))) (cJ (rE TF TF (aA 7) (aA 8) (wC (.int 0))))) (bI (mJ (aB (aA 8) (aB (aA 7) aI))) (gT 2 (cA (gN 7) (cA (gN 8) kN)))) cO) (eE s0))
def g6(s0:OA):WS:=(aT (bI (aG s0 (aB (aA 0) (aB (bE iP (aA 2) (wC (.int 1))) aI))) (gN 8)) (g5 s0))
def jH(s0:OA):WS:=(aT (bI (aG s0 (aB (aA 0) (aB (bE iP (aA 2) (wC (.int 1))) aI))) (gN 7)) (g6 s0))
def j5(s0:OA):WS:=(cZ (mJ (aB (aG nR (aB (aA 4) aI)) (aB (aG nR (aB (aA 5) aI)) aI))))
def j6(s0:OA):WS:=(aT (jT (kB (aB (aA 1) aI)) (gN 6) (jH s0)) (j5 s0))
def j7(s0:OA):WS:=(aT (bI (oI aI) (gN 5)) (j6 s0))
def j8(s0:OA):WS:=(aT (bI (oI aI) (gN 4)) (j7 s0))
def j9(s0:OA):WS:=(aT (bI (aG s0 (aB (aA 0) (aB (wC (.int 2)) aI))) (gN 3)) (j8 s0))
def kA(s0:OA):WS:=(aT (bI (bE iP (wC (.int 1)) (aG s0 (aB (aA 0) (aB (bE gV (oI (aB (wC (.int 8)) (aB (wC (.int 4)) aI))) (aG s0 (aB (aA 0) (aB (wC (.int 2)) aI)))) aI)))) (gN 2)) (j9 s0))
def fE(s0:OA):WS:=(aT (bI (bE iP (wC (.int 1)) (aG s0 (aB (aA 0) (aB (bE gV (oI (aB (wC (.int 5)) (aB (wC (.int 12)) aI))) (aG s0 (aB (aA 0) (aB (wC (.int 2)) aI)))) aI)))) (gN 1)) (kA s0))
theorem vO(B:Bl mg)(sZ:Fn P w K mg base k "_law_take" ["_law_bag_here","_law_many"] s0):sM P w K mg base k "_law_columns" ["_law_bag_here","_law_many","_law_kinds","_law_apart_sides","_law_above","_law_below","_law_column","_law_up","_law_down"] dO (fE s0):=by
 intro f cdv A outer s H E hr;have nd:=mE.nd;show kZ _ (_::_) _
 repeat' walk_at "g"
theorem mC:aY ["_law_above","_law_below","_law_found","_law_wire","_law_at"] ["_law_above","_law_below"] (aF dM):=⟨rfl,rfl,rfl,by decide+kernel,rfl,by decide+kernel,by decide+kernel⟩
def eD:WS:=(eX (oX (cJ (bE TF (aG gC (aB (aA 4) aI)) (wC (.int 0)))) (cJ (bE oLt (bE gV (aA 4) (wC (.int 0))) (bE gV (aA 4) (wUn JH (wC (.int 1))))))) (mY (QQ "list" d8 (aA 2) (aB (mJ (aB (aA 3) (aB (bE gV (aA 4) (wC (.int 0))) (aB (bE gV (aA 4) (wUn JH (wC (.int 1)))) aI)))) aI))) cO)
def jD:WS:=(aT (bI (oV ["_law_k"] [3,0,1] (kB (aB (aG gC (aB (aA 0) aI)) aI)) (gN 0) (cJ (bE WD (aA 1) (oI (aB (bE gV (aA 2) (aA 0)) (aB (bE gV (aA 3) (aA 0)) aI))))) (aA 0)) (gN 4)) (eD))
def j1:WS:=(cZ (aA 2))
def j2:WS:=(aT (jT (GV (aB (wC (.int 1)) (aB (wC (.int 9)) aI))) (gN 3) (jD)) (j1))
def fB:WS:=(aT (bI (oI aI) (gN 2)) (j2))
theorem vM(B:Bl mg):sM P w K mg base k "_law_spanned" ["_law_above","_law_below","_law_found","_law_wire","_law_at"] dM (fB):=by
 intro f cdv A outer s H E hr;have nd:=mC.nd;show kZ _ (_::_) _
 repeat' walk_at "g"
theorem mD:aY ["_law_above","_law_below","_law_needing","_law_pairs","_law_up","_law_down"] ["_law_above","_law_below"] (aF dN):=⟨rfl,rfl,rfl,by decide+kernel,rfl,by decide+kernel,by decide+kernel⟩
def jE(s0:OA):WS:=(eX (oX (cJ (bE JI (aA 4) (aA 5))) (oX (cJ (bE WD (aA 4) (aA 2))) (cJ (bE WD (aA 5) (aA 2))))) (mY (QQ "list" d8 (aA 3) (aB (mJ (aB (aA 4) (aB (aA 5) aI))) aI))) cO)
def j3(s0:OA):WS:=(cZ (aA 3))
def j4(s0:OA):WS:=(aT (jT (p7 (aB (aA 0) (aB (aA 1) aI))) (gT 2 (cA (gN 4) (cA (gN 5) kN))) (jE s0)) (j3 s0))
def fV(s0:OA):WS:=(aT (bI (oI aI) (gN 3)) (j4 s0))
def fC(s0:OA):WS:=(aT (bI (oV ["_law_one"] [] (cY (aG s0 (aB (aA 0) (aB (aA 1) aI)))) (gN 0) fS (bE gV (aA 0) (wC (.int 0)))) (gN 2)) (fV s0))
theorem vN(B:Bl mg)(bG:Fn P w K mg base k "_law_spanned" ["_law_above","_law_below"] s0):sM P w K mg base k "_law_ordered" ["_law_above","_law_below","_law_needing","_law_pairs","_law_up","_law_down"] dN (fC s0):=by
 intro f cdv A outer s H E hr;have nd:=mD.nd;show kZ _ (_::_) _
 repeat' walk_at "g"
theorem o4:aY ["_law_above","_law_below","_law_left","_law_pairs","_law_turn"] ["_law_above","_law_below"] (aF eJ):=⟨rfl,rfl,rfl,by decide+kernel,rfl,by decide+kernel,by decide+kernel⟩
def lZ(s0 s1:OA):WS:=(bI (oV ["_law_wire"] [3,2] (cY (aA 2)) (gN 0) (oH (aG GH (aB (oV ["_law_up","_law_down"] [0,2] (cY (aA 1)) (gT 2 (cA (gN 0) (cA (gN 1) kN))) fS (sO (bE oEq (aA 1) (aA 2)) (bE WD (aA 0) (aA 3)))) aI))) (aA 0)) (gN 2))
def mV(s0 s1:OA):WS:=(cZ (bE TF (aG gC (aB (aA 2) aI)) (wC (.int 0))))
def mW(s0 s1:OA):WS:=(aT (jT (kB (aB (wC (.int 8)) aI)) (gN 4) (lZ s0 s1)) (mV s0 s1))
def iJ(s0 s1:OA):WS:=(aT (bI (aG s1 (aB (aA 0) (aB (aA 1) aI))) (gN 3)) (mW s0 s1))
def iC(s0 s1:OA):WS:=(aT (bI (oV ["_law_one"] [] (cY (aG s0 (aB (aA 0) (aB (aA 1) aI)))) (gN 0) fS (bE gV (aA 0) (wC (.int 0)))) (gN 2)) (iJ s0 s1))
theorem AU(B:Bl mg)(bG:Fn P w K mg base k "_law_spanned" ["_law_above","_law_below"] s0)(dC:Fn P w K mg base k "_law_ordered" ["_law_above","_law_below"] s1):sM P w K mg base k "_law_rings" ["_law_above","_law_below","_law_left","_law_pairs","_law_turn"] eJ (iC s0 s1):=by
 intro f cdv A outer s H E hr;have nd:=o4.nd;show kZ _ (_::_) _
 repeat' walk_at "g"
theorem o3:aY ["_law_above","_law_below","_law_column"] ["_law_above","_law_below","_law_column"] (aF eI):=⟨rfl,rfl,rfl,by decide+kernel,rfl,by decide+kernel,by decide+kernel⟩
def iB(s0:OA):WS:=(cZ (aG gC (aB (oV ["_law_one"] [2] (cY (aG s0 (aB (aA 0) (aB (aA 1) aI)))) (gN 0) (cJ (rE oLe oLe (bE gV (aA 0) (wC (.int 1))) (aA 1) (bE gV (aA 0) (wC (.int 2))))) (aA 0)) aI)))
theorem AS(B:Bl mg)(bG:Fn P w K mg base k "_law_spanned" ["_law_above","_law_below"] s0):sM P w K mg base k "_law_thick" ["_law_above","_law_below","_law_column"] eI (iB s0):=by
 intro f cdv A outer s H E hr;have nd:=o3.nd;show kZ _ (_::_) _
 repeat' walk_at "g"
theorem fU:aY ["_law_above","_law_below","_law_far","_law_turn","_law_up","_law_down"] ["_law_above","_law_below"] (aF bP):=⟨rfl,rfl,rfl,by decide+kernel,rfl,by decide+kernel,by decide+kernel⟩
def eU(s0:OA):WS:=(B5 (aG zF (aB (bE gV (aA 2) (aA 4)) (aB (bE iP (bE gV (aA 2) (aA 5)) (wC (.int 1))) aI))) (aA 2) (aA 4))
def eV(s0:OA):WS:=(jT (cY (aG s0 (aB (aA 0) (aB (aA 1) aI)))) (gT 2 (cA (gN 4) (cA (gN 5) kN))) (eU s0))
def fF(s0:OA):WS:=(cZ (aA 2))
def fG(s0:OA):WS:=(aT (jT (kB (aB (wC (.int 8)) aI)) (gN 3) (eV s0)) (fF s0))
def cM(s0:OA):WS:=(aT (bI (oV ["_law_wire"] [] (kB (aB (wC (.int 9)) aI)) (gN 0) fS (wC (.int 1))) (gN 2)) (fG s0))
theorem nJ(B:Bl mg)(dC:Fn P w K mg base k "_law_ordered" ["_law_above","_law_below"] s0):sM P w K mg base k "_law_chain_lengths" ["_law_above","_law_below","_law_far","_law_turn","_law_up","_law_down"] bP (cM s0):=by
 intro f cdv A outer s H E hr;have nd:=fU.nd;show kZ _ (_::_) _
 repeat' walk_at "g"
theorem kK:aY ["_law_above","_law_below","_law_many","_law_thing","_law_needing","_law_pairs"] ["_law_above","_law_below","_law_many","_law_thing"] (aF c8):=⟨rfl,rfl,rfl,by decide+kernel,rfl,by decide+kernel,by decide+kernel⟩
def jF(s0 s1 s2:OA):WS:=(cZ (sO (aG ED (aB (oV ["_law_x"] [4] (cY (aA 3)) (gN 0) fS (bE TC (aA 0) (aA 1))) aI)) (aG ED (aB (oV ["_law_pair"] [5] (p7 (aB (aA 3) (aB (wSl oSl (aA 3) (B6 (wC (.int 1))) wNo) aI))) (gN 0) fS (bE TC (aA 0) (aA 1))) aI))))
def jG(s0 s1 s2:OA):WS:=(aT (bI (aG s2 (aB (aA 0) (aB (aA 1) aI))) (gN 5)) (jF s0 s1 s2))
def fD(s0 s1 s2:OA):WS:=(aT (eX (zI (mX (oH (aG wZ (aB (aA 3) (aB (wC (.ty "tuple")) aI))))) (zI (cJ (bE YO (aG gC (aB (aA 3) aI)) (aA 2))) (mX (oH (aG ED (aB (oV ["_law_x"] [] (cY (aA 3)) (gN 0) fS (aG s1 (aB (aA 0) aI))) aI)))))) (cZ (wC (.bl false))) cO) (jG s0 s1 s2))
def eN(s0 s1 s2:OA):WS:=(aT (bI (oV ["_law_one"] [] (cY (aG s0 (aB (aA 0) (aB (aA 1) aI)))) (gN 0) fS (bE gV (aA 0) (wC (.int 0)))) (gN 4)) (fD s0 s1 s2))
theorem tN(B:Bl mg)(bG:Fn P w K mg base k "_law_spanned" ["_law_above","_law_below"] s0)(eP:Fn P w K mg base k "_law_is_whole" ["_law_thing"] s1){s2:OA}(dC:Fn P w K mg base k "_law_ordered" ["_law_above","_law_below"] s2):sM P w K mg base k "_law_is_chain" ["_law_above","_law_below","_law_many","_law_thing","_law_needing","_law_pairs"] c8 (eN s0 s1 s2):=by
 intro f cdv A outer s H E hr;have nd:=kK.nd;show kZ _ (_::_) _
 repeat' walk_at "g"
theorem g7:aY ["_law_above","_law_below","_law_many","_law_column"] ["_law_above","_law_below","_law_many"] (aF bZ):=⟨rfl,rfl,rfl,by decide+kernel,rfl,by decide+kernel,by decide+kernel⟩
def fT(s0:OA):WS:=(eX (cJ (bE oEq (aG s0 (aB (aA 0) (aB (aA 1) (aB (aA 3) aI)))) (aA 2))) (cZ (aA 3)) cO)
def gG(s0:OA):WS:=(cZ (wC .bT))
def dG(s0:OA):WS:=(aT (jT (kB (aB (aG gC (aB (aA 0) aI)) aI)) (gN 3) (fT s0)) (gG s0))
theorem pF(B:Bl mg)(iD:Fn P w K mg base k "_law_thick" ["_law_above","_law_below","_law_column"] s0):sM P w K mg base k "_law_first_thick" ["_law_above","_law_below","_law_many","_law_column"] bZ (dG s0):=by
 intro f cdv A outer s H E hr;have nd:=g7.nd;show kZ _ (_::_) _
 repeat' walk_at "g"
theorem jJ:aY ["_law_above","_law_below","_law_many","_law_thing","_law_needing","_law_far"] ["_law_above","_law_below","_law_many","_law_thing"] (aF cQ):=⟨rfl,rfl,rfl,by decide+kernel,rfl,by decide+kernel,by decide+kernel⟩
def iK(s0 s1 s2 b a:OA):WS:=(cZ (aG a (aB (aA 0) (aB (aA 1) (aB (aA 2) (aB (bE gV (aA 3) (wC (.int 1))) aI))))))
def iL(s0 s1 s2 a b:OA):WS:=(aT (eX (zI (cJ (bE JI (bE gV (aA 3) (wC (.int 0))) (wC (.str "chain")))) (cJ (bE nB (aG s0 (aB (aA 0) (aB (aA 1) (aB (aA 2) aI)))) (wC .bT)))) (cZ (wC (.bl false))) cO) (iK s0 s1 s2 a b))
def dD(s0 s1 s2 a b:OA):WS:=(aT (eX (cJ (bE oEq (bE gV (aA 3) (wC (.int 0))) (wC (.str "thick")))) (cZ (sO (aG a (aB (bE gV (aA 3) (wC (.int 1))) aI)) (bE oEq (bE gV (aA 3) (wC (.int 1))) (aG s0 (aB (aA 0) (aB (aA 1) (aB (aA 2) aI))))))) cO) (iL s0 s1 s2 a b))
def dE(s0 s1 s2 a b:OA):WS:=(aT (eX (cJ (bE JI (aG gC (aB (aA 3) aI)) (wC (.int 2)))) (cZ (wC (.bl false))) cO) (dD s0 s1 s2 a b))
def dF(s0 s1 s2 a b:OA):WS:=(aT (eX (cJ (bE oEq (bE gV (aA 3) (wC (.int 0))) (wC (.str "all")))) (aT (eX (zI (cJ (bE JI (aG gC (aB (aA 3) aI)) (wC (.int 1)))) (cJ (bE nB (aG s0 (aB (aA 0) (aB (aA 1) (aB (aA 2) aI)))) (wC .bT)))) (cZ (wC (.bl false))) cO) (aT (bI (oV ["_law_one"] [] (cY (aG s1 (aB (aA 0) (aB (aA 1) aI)))) (gN 0) fS (bE gV (aA 0) (wC (.int 0)))) (gN 4)) (aT (bI (aG s2 (aB (aA 0) (aB (aA 1) aI))) (gN 5)) (cZ (bE oLt (bE yL (oV ["_law_wire"] [5] (cY (aA 4)) (gN 0) fS (bE gV (aA 1) (aA 0))) (wC (.int 0))) (aA 2)))))) cO) (dE s0 s1 s2 a b))
def cH(s0 s1 s2 a b:OA):WS:=(aT (eX (zI (mX (oH (aG wZ (aB (aA 3) (aB (wC (.ty "tuple")) aI))))) (zI (cJ (bE oEq (aG gC (aB (aA 3) aI)) (wC (.int 0)))) (mX (oH (aG wZ (aB (bE gV (aA 3) (wC (.int 0))) (aB (wC (.ty "str")) aI))))))) (cZ (wC (.bl false))) cO) (dF s0 s1 s2 a b))
theorem rS(B:Bl mg)(dH:Fn P w K mg base k "_law_first_thick" ["_law_above","_law_below","_law_many"] s0)(bG:Fn P w K mg base k "_law_spanned" ["_law_above","_law_below"] s1){s2:OA}(cT:Fn P w K mg base k "_law_chain_lengths" ["_law_above","_law_below"] s2){s3:OA}(eP:Fn P w K mg base k "_law_is_whole" ["_law_thing"] s3){s4:OA}(mH:Fn P w K mg base k "_law_is_chain" ["_law_above","_law_below","_law_many","_law_thing"] s4):sM P w K mg base k "_law_is_reason" ["_law_above","_law_below","_law_many","_law_thing","_law_needing","_law_far"] cQ (cH s0 s1 s2 s3 s4):=by
 intro f cdv A outer s H E hr;have nd:=jJ.nd;show kZ _ (_::_) _
 repeat' walk_at "g"
theorem LZ:aY ["_law_script","_law_k","_law_bag_here","_law_above","_law_below","_law_many","_law_tracks","_law_reason","_law_kind","_law_needing","_law_far","_law_thick_here"] ["_law_script"] (aF uY):=⟨rfl,rfl,rfl,by decide+kernel,rfl,by decide+kernel,by decide+kernel⟩
def uP(s0 s1 s2 a b c d e f:OA):WS:=(eX (mX (oH (aG s2 (aB (aA 3) (aB (aA 4) aI))))) (aT (bI (aG a (aB (aA 3) (aB (aA 4) aI))) (gT 3 (cA (gN 5) (cA (gN 6) (cA (gN 7) kN))))) (aT (bI (wC (.str "all")) (gN 8)) (aT (bI (oV ["_law_one"] [] (cY (aG b (aB (aA 3) (aB (aA 4) aI)))) (gN 0) fS (bE gV (aA 0) (wC (.int 0)))) (gN 9)) (aT (bI (bE yL (oV ["_law_wire"] [3,4] (cY (aA 9)) (gN 0) fS (bE gV (aG c (aB (aA 1) (aB (aA 2) aI))) (aA 0))) (wC (.int 0))) (gN 10)) (aT (bI (aG QH (aB (oV ["_law_column"] [3,4] (kB (aB (aG gC (aB (aA 3) aI)) aI)) (gN 0) fS (aG d (aB (aA 1) (aB (aA 2) (aB (aA 0) aI))))) aI)) (gN 11)) (aT (eX (cJ (bE oLt (aA 5) (aG zF (aB (aA 10) (aB (aA 11) aI))))) (cZ (wC (.bl false))) cO) (aT (eX (cJ (bE nB (aG e (aB (aA 3) (aB (aA 4) (aB (aA 5) aI)))) (wC .bT))) (bI (wC (.str "thick")) (gN 8)) (eX (cJ (bE oGe (aA 10) (aA 5))) (bI (wC (.str "chain")) (gN 8)) cO)) (eX (zI (mX (oH (aG f (aB (aA 3) (aB (aA 4) (aB (aA 5) (aB (aA 7) aI))))))) (cJ (bE JI (bE gV (aA 7) (wC (.int 0))) (aA 8)))) (cZ (wC (.bl false))) cO)))))))) cO)
def uQ(s0 s1 s2 a b c d e f:OA):WS:=(aT (bI (aG s1 (aB (aA 2) aI)) (gT 2 (cA (gN 3) (cA (gN 4) kN)))) (uP s0 s1 s2 a b c d e f))
def B4(s0 s1 s2 a b c d e f:OA):WS:=(aT (bI (aG s0 (aB (aA 0) (aB (aA 1) aI))) (gN 2)) (uQ s0 s1 s2 a b c d e f))
def GR(s0 s1 s2 a b c d e f:OA):WS:=(cZ (wC (.bl true)))
def GS(s0 s1 s2 a b c d e f:OA):WS:=(aT (jT (kB (aB (bE iP (aG zE (aB (aG gC (aB (aA 0) aI)) (aB (wC (.int 8)) aI))) (wC (.int 2))) aI)) (gN 1) (B4 s0 s1 s2 a b c d e f)) (GR s0 s1 s2 a b c d e f))
theorem aDh(B:Bl mg)(v7:Fn P w K mg base k "_law_bag" ["_law_script","_law_at"] s0)(nN:Fn P w K mg base k "_law_columns" ["_law_bag_here"] s1){s2:OA}(qV:Fn P w K mg base k "_law_rings" ["_law_above","_law_below"] s2){s3:OA}(HW:Fn P w K mg base k "wired" ["above","below"] s3){s4:OA}(bG:Fn P w K mg base k "_law_spanned" ["_law_above","_law_below"] s4){s5:OA}(cT:Fn P w K mg base k "_law_chain_lengths" ["_law_above","_law_below"] s5){s6:OA}(iD:Fn P w K mg base k "_law_thick" ["_law_above","_law_below","_law_column"] s6){s7:OA}(dH:Fn P w K mg base k "_law_first_thick" ["_law_above","_law_below","_law_many"] s7){s8:OA}(kP:Fn P w K mg base k "_law_is_reason" ["_law_above","_law_below","_law_many","_law_thing"] s8):sM P w K mg base k "law" ["_law_script","_law_k","_law_bag_here","_law_above","_law_below","_law_many","_law_tracks","_law_reason","_law_kind","_law_needing","_law_far","_law_thick_here"] uY (GS s0 s1 s2 s3 s4 s5 s6 s7 s8):=by
 intro f cdv A outer s H E hr;have nd:=LZ.nd;show kZ _ (_::_) _
 repeat' walk_at "g"
end
theorem aDj:FP 2 0=some 0:=by decide
theorem aDi:FP 2 1=some 1:=by decide
theorem GC(d e:D)(ds:List D):pP (d::e::ds) 1=some e:=by
 have:=uK (xs:=d::e::ds) (j:=1) (v:=e) rfl;simpa using this
theorem wM{i j:Int}(a: -18446744073709551616<j)(b:j<18446744073709551616):KW i j:= .inr ⟨a,b⟩
theorem WU{i j:Int}(a: -18446744073709551616<i)(b:i<18446744073709551616):KW i j:= .inl ⟨a,b⟩
theorem aA9{i:Int}{j:Int}(h0:0<=j)(a:j<=1000000)(b: -18446744073709551616<i)(c:i<18446744073709551616):aAz i j:=⟨h0,a,by omega⟩
abbrev En(mh:MH)(R:DK):i5:={nx:=λ_ a=>Out mh.length .bT a R,rt:=λd a=>Out mh.length d a R}
theorem Z8(ds:List D)(mh:MH)(R:DK)(ok:oG mh)(p:yF ds mh R):jC (En mh R) (aK ["_law_bag_here","_law_many","_law_digit","_law_number","_law_room"] ds) mh:=by
 obtain⟨b,a,rfl,A,B,⟨c,m,h,o,j,k⟩,q⟩:=p;have f:b<mh.length:=(aHv.mp h).1
 have g:∀(r c' l :Int),0<=r->r<a->0<=c' ->0<=l ->l<2147483629->Out mh.length (.int r) (mh.set b (.lst [.int c',.int l])) R:=λr c' l s t u v w=>
  aQ (q r _ s t ⟨⟨c',l,by simp[f],u,v,w⟩,_,rfl⟩)
 simp[jC,oT,oS,oR,aK,iO h,EX h,aDj];by_cases h0:0<c
 ·rw[if_pos h0];exact⟨by omega,⟨by omega,by omega⟩,g _ _ _ (aKt _ (by omega)) (aK9 _ (by omega)) (Int.ediv_nonneg (by omega) (by omega)) j k⟩
 ·rw[if_neg h0];refine EK 2 ?_;by_cases d:1<a
  ·have x:0<=(m*48271+7919)^5 % 2147483629:=aKt _ (by omega);have y:(m*48271+7919)^5 % 2147483629<2147483629:=aK9 _ (by omega);simp[o8,mU,j0,jZ,jS,d,iO h,EX h,aDi,GC];refine⟨wM (by omega) (by omega),aA9 (by omega) (by omega) (by omega) (by omega),?_⟩;have n:(mh.set b (.lst [.int c,.int ((m*48271+7919)^5 % 2147483629)]))[b]? =some (.lst [.int c,.int ((m*48271+7919)^5 % 2147483629)]):=by simp[f]
   simp only[iO n,GC,aD,L7,EZ];refine⟨wM (by omega) (by omega),⟨by omega,by omega⟩,wM (by omega) (by omega),by omega,wM (by omega) (by omega),?_⟩;simp;rw[if_neg (by omega)];exact⟨by omega,g _ _ _ (aKt _ (by omega)) (aK9 _ (by omega)) o x y⟩
  ·simp[o8,d,jS];have e:a=1:=by omega
   subst e;refine⟨by omega,?_⟩
   have z:mh.set b (.lst [.int c,.int m])=mh:=by
    apply List.ext_getElem?;intro i;by_cases hi:i=b
    ·subst hi;rw[List.getElem?_set_self f,h]
    ·rw[List.getElem?_set_ne (Ne.symm hi)]
   have:=g 0 c m (by omega) (by omega) o j k;rw[z]at this;exact this
variable{ns:List Int}
theorem EB{i:Int}(h0:0<=i)(a:i<ns.length):∃v,pP (ns.map D.int) i=some (.int v):=by
 refine⟨ns[i.toNat]'(by omega),?_⟩;have e:i=((i.toNat:Nat):Int):=by omega
 have:=uK (xs:=ns.map D.int) (j:=i.toNat) (v:= .int (ns[i.toNat]'(by omega))) (by rw[List.getElem?_map,List.getElem?_eq_getElem (by omega)];rfl);rw[<-e]at this;exact this
variable{mh:MH}
theorem aA0{R:DK}{a c m:Int}{k:Option D}(q:∀mh',(∃o,mh' =mh++[o])->QP mh' mh.length->R (.ref mh.length) mh')(d:0<=c)(e:0<=m)(f:m<2147483629):
  lF (En mh R) [some (.fl (ns.map .int)),some (.int a),some (.int c),some (.int m),k] mh:=by
 have b:∀c,0<=c->Out mh.length (.ref mh.length) (mh++[.lst [.int c,.int m]]) R:=λc g=>aQ (q _ ⟨_,rfl⟩ ⟨c,m,by simp,g,e,f⟩);simp[lF,pZ];refine⟨aA9 (by omega) (by omega) (by omega) (by omega),?_⟩;split
 ·exact⟨by rw[sizeLine_eq];omega,b 0 (by omega)⟩
 ·exact⟨by rw[sizeLine_eq];omega,b c d⟩
theorem O0{R:DK}{a c:Int}(r:ns.length<=63)(b:0<=a)(f:a<=100)(q:∀mh',(∃o,mh' =mh++[o])->QP mh' mh.length->R (.ref mh.length) mh')(j:0<=c):
  lG (En mh R) [some (.fl (ns.map .int)),some (.int a),some (.int c),none,none] mh:=by
 have l:7919*a*a<=79190000:=by
  have:a*a<=100*100:=Int.mul_le_mul f f b (by omega);have e:7919*a*a=7919*(a*a):=Int.mul_assoc _ _ _;omega
 have n:0<=7919*a*a:=Int.mul_nonneg (by omega) b;simp[lG,p5];refine⟨WU (by omega) (by omega),wM (by omega) (by omega),WU (by omega) (by omega),?_,?_,?_⟩
 ·split <;> omega
 ·split <;> (rw[sizeLine_eq];omega)
 ·refine bQ (λi g mh' =>mh' =mh/\∃m k,g=[some (.fl (ns.map .int)),some (.int a),some (.int c),some (.int m),k]/\0<=m/\m<2147483629) _ (λ_ _ _ _=>trivial) ?_ ?_ ⟨rfl,_,_,rfl,by omega,by omega⟩
  ·rintro i d g mh' N hi ⟨rfl,m,k,rfl,m0,m1⟩ nx;obtain⟨hi,rfl⟩:=jK hi
   have p:i<ns.length:=by
    revert hi;split <;> intro hi <;> omega
   have h:i<60:=by
    revert hi;split <;> intro hi <;> omega
   obtain⟨v,hv⟩:=EB (ns:=ns) (i:=0+(i:Int)) (by omega) (by omega);have s:0<=v % 2147483647:=aKt _ (by omega);have t:v % 2147483647<2147483647:=aK9 _ (by omega);have u:0<=(0+(i:Int))*(0+(i:Int)):=Int.mul_nonneg (by omega) (by omega);have w:(0+(i:Int))*(0+(i:Int))<=60*60:=Int.mul_le_mul (by omega) (by omega) (by omega) (by omega);simp only[aGl,oU,aC3,aBw,s_c,L6,List.set_cons_succ,List.set_cons_zero,List.getElem?_cons_succ,List.getElem?_cons_zero,Option.join_some,aD,L7,EZ,aBz,hv];refine⟨wM (by omega) (by omega),by omega,wM (by omega) (by omega),aA9 (by omega) (by omega) (by omega) (by omega),by omega,nx _ _ ⟨rfl,_,_,rfl,aKt _ (by omega),aK9 _ (by omega)⟩⟩
  ·rintro g mh' ⟨rfl,m,k,rfl,m0,m1⟩;exact aA0 q j m0 m1
theorem aE8(ds:List D)(mh:MH)(R:DK)(ok:oG mh)(e:RW ds mh R):lH (En mh R) (aK ["_law_script","_law_at","_law_cell","_law_mix","_law_k"] ds) mh:=by
 obtain⟨ns,a,rfl,d,b,c,q⟩:=e;simp[lH,p6,aK];split
 ·rename_i hlt;obtain⟨v,hv⟩:=EB (ns:=ns) (i:=a) b hlt;simp[hv];exact O0 d b c q (by split <;> omega)
 ·exact O0 d b c q (by omega)
structure aM where
 A:List Nat
 B:List Nat
structure Wc(c:aM):Prop where
 l:c.A.length=c.B.length
 l1:1<=c.A.length
 l2:c.A.length<=12
 a:∀x∈c.A,x<=8
 b:∀x∈c.B,x<=8
structure Sp where
 w:Nat
 a:Nat
 b:Nat
def xN(c:aM)(w k:Nat):Bool:=c.A[k]? ==some w || c.B[k]? ==some w
def tI(c:aM)(w:Nat):List Nat:=(List.range c.A.length).filter (xN c w)
def gL(w:Nat)(l:List Nat):Option Sp:=if l.headD 0<l.getLastD 0 then some ⟨w,l.headD 0,l.getLastD 0⟩ else none
def spans(c:aM):List Sp:=(List.range' 1 8).filterMap λw=>gL w (tI c w)
def aC(c:aM):List Nat:=(spans c).map (·.w)
def mM(c:aM):List (Nat×Nat):=(c.A.zip c.B).filter λp=>p.1 !=p.2 && (aC c).contains p.1 && (aC c).contains p.2
def F0(l:List Nat):List Nat:=l.foldl (λa x=>if x∈a then a else a++[x]) []
def ups(c:aM)(w:Nat):List Nat:=F0 (((mM c).filter λp=>p.2==w).map (·.1))
theorem A7(l:List Nat)(x:Nat):F0 (l++[x])=if x∈F0 l then F0 l else F0 l++[x]:=by unfold F0;rw[List.foldl_append];rfl
theorem TN{x:Nat}(l:List Nat):x∈F0 l↔x∈l:=by
 suffices h:∀n,∀l:List Nat,l.length=n->(x∈F0 l↔x∈l) from h _ l rfl
 intro n
 induction n with
 | zero=>
  intro l a;have:l=[]:=aKy.mp a;subst this;simp[F0]
 | succ n ih=>
  intro l a;have e:=aJq (l:=l) (by intro z;rw[z]at a;cases a);rw[<-e,A7];have:=ih l.dropLast (by simp;lia);split <;> simp[this] <;> grind
theorem U1(l:List Nat):(F0 l).length<=l.length:=by
 suffices h:∀n,∀l:List Nat,l.length=n->(F0 l).length<=l.length from h _ l rfl
 intro n
 induction n with
 | zero=>
  intro l b;have:l=[]:=aKy.mp b;subst this;simp[F0]
 | succ n ih=>
  intro l b;have e:=aJq (l:=l) (by intro z;rw[z]at b;cases b);have a:l.dropLast.length=n:=by simp;lia
  have:=ih l.dropLast a;rw[<-e,A7,List.length_append,a];split
  ·lia
  ·rw[List.length_append];simp;lia
variable{w:Nat}{l:List Nat}
theorem lL{s:Sp}(h:gL w l=some s):s.w=w/\s.a<s.b/\s.a=l.headD 0/\s.b=l.getLastD 0:=by
 unfold gL at h;split at h
 ·cases h;exact⟨rfl,by assumption,rfl,rfl⟩
 ·cases h
variable{c:aM}
theorem rK{s:Sp}:s∈spans c↔1<=s.w/\s.w<=8/\gL s.w (tI c s.w)=some s:=by
 unfold spans;rw[List.mem_filterMap];constructor
 ·rintro⟨w,a,h⟩;have e:=(lL h).1;subst e;simp[List.mem_range']at a;obtain⟨i,b,d⟩:=a;exact⟨by lia,by lia,h⟩
 ·rintro⟨b,d,h⟩;exact⟨s.w,by simp[List.mem_range'_1];lia,h⟩
theorem uO(c:aM):(aC c).Pairwise (· < ·):=by
 unfold aC spans;rw[List.pairwise_map,List.pairwise_filterMap];refine List.Pairwise.imp (R:=(· < ·)) ?_ List.pairwise_lt_range';intro a b d x e y f;rw[(lL e).1,(lL f).1];exact d
theorem dI(c:aM):(aC c).Nodup:=(uO c).imp aI4
theorem cG(c:aM):(aC c).length<=8:=by
 unfold aC spans;rw[List.length_map];have:=aKr (λw=>gL w (tI c w)) (List.range' 1 8);simpa using this
theorem Q1(h:w∈aC c):1<=w/\w<=8:=by
 obtain⟨s,a,rfl⟩:=aI1.mp h;have:=rK.mp a;exact⟨this.1,this.2.1⟩
theorem TM{h w:Nat}:(h,w)∈mM c↔(h,w)∈c.A.zip c.B/\h≠w/\h∈aC c/\w∈aC c:=by
 unfold mM;simp[List.mem_filter,and_assoc]
theorem lP{h w:Nat}:h∈ups c w↔(h,w)∈mM c:=by
 unfold ups;rw[TN];simp
theorem qD{h w:Nat}(a:h∈ups c w):h∈aC c/\w∈aC c/\h≠w:=by
 have:=TM.mp (lP.mp a);exact⟨this.2.2.1,this.2.2.2,this.2.1⟩
def EL(c:aM)(l:List Nat)(w:Nat):Bool:=(ups c w).any λu=>l.contains u
def xM(c:aM):Nat->List Nat
 | 0=>aC c
 | t+1=>(xM c t).filter (EL c (xM c t))
def iZ(c:aM):Prop:=xM c 8=[]
variable{S:Nat->Prop}
theorem wN(a:iZ c)(b:∀w,S w->w∈aC c)(d:∀w,S w->∃u∈ups c w,S u):∀w,¬S w:=by
 have key:∀t w,S w->w∈xM c t:=by
  intro t
  induction t with
  | zero=>intro w h;exact b w h
  | succ t ih=>
   intro w h;obtain⟨u,e,f⟩:=d w h;refine aIy.mpr ⟨ih w h,?_⟩;unfold EL;rw[List.any_eq_true];exact⟨u,e,by simpa using ih u f⟩
 intro w h;have:=key 8 w h;rw[a]at this;cases this
theorem UT(d:iZ c)(e:w∈aC c)(f:w∉l):∃v∈aC c,v∉l/\∀u∈ups c v,u∈l:=by
 refine aIl λa=>?_;refine wN d (S:=λw=>w∈aC c/\w∉l) (λ_ h=>h.1) (λv h=>?_) w ⟨e,f⟩;refine aIl λg=>a ⟨v,h.1,h.2,λu b=>?_⟩;refine aIl λi=>g ⟨u,b,(qD b).1,i⟩
def G5(c:aM)(w:Nat):Sp:=((spans c).find? λs=>s.w==w).getD ⟨0,0,0⟩
theorem t9{s:Sp}(h:s∈spans c):G5 c s.w=s:=by
 unfold G5
 cases e:(spans c).find? λt=>t.w==s.w with
 | none=>have:=List.find?_eq_none.mp e s h;simp at this
 | some t=>
  have d:=List.mem_of_find?_eq_some e;have f:t.w=s.w:=by have:=List.find?_some e;simpa using this
  have a:=(rK.mp d).2.2;have b:=(rK.mp h).2.2;rw[f,b]at a;cases a;rfl
def meets(s t:Sp):Bool:=decide (s.a<=t.b) && decide (t.a<=s.b)
def hC(c:aM)(u w:Nat):Bool:=meets (G5 c u) (G5 c w)
theorem vI(c:aM)(u w:Nat):hC c u w=hC c w u:=by unfold hC meets;exact Bool.and_comm ..
def vY(c:aM)(a:List (List Nat))(w:Nat):List (List Nat):=a++(a.filter λown=>!(own.any λo=>hC c w o)).map (· ++[w])
def fP(c:aM)(a:List Nat):List (List Nat):=a.foldl (vY c) [[]]
def fills(c:aM)(a:List Nat):List (List Nat):=(fP c a).tail
theorem yT(c:aM)(a:List Nat)(w:Nat):fP c (a++[w])=vY c (fP c a) w:=by simp[fP,List.foldl_append]
def QL(c:aM)(a f:List Nat):Prop:=f.Sublist a/\f.Pairwise λu w=>hC c u w=false
theorem oB(c:aM):∀(n:Nat) (d:List Nat),d.length=n->(fP c d).length<=2^n/\(∃r,fP c d=[]::r/\∀f∈r,f≠[])/\(∀f∈fP c d,QL c d f)/\∀w∈d,[w]∈fP c d:=by
 intro n
 induction n with
 | zero=>
  intro d h;have:d=[]:=by simpa using h
  subst this;simp[fP,QL]
 | succ n ih=>
  intro d h;have e:=aJq (l:=d) (by intro z;rw[z]at h;cases h);generalize u:d.getLast _=x at e;generalize hi:d.dropLast=us at e;have q:us.length=n:=by rw[<-hi];simp;lia
  obtain⟨v,⟨r,k,j⟩,i,s⟩:=ih us q;rw[<-e,yT];refine⟨?_,?_,λf hf=>?_,λw hw=>?_⟩
  ·unfold vY;have:=aJ2 (λown=>!(own.any λo=>hC c x o)) (fP c us);simp only[List.length_append,List.length_map];rw[Nat.pow_succ];lia
  ·refine⟨_,by unfold vY;rw[k,List.cons_append],λf hf=>?_⟩;rcases aI9.mp hf with hf | hf
   ·exact j f hf
   ·obtain⟨g,_,rfl⟩:=aI1.mp hf;simp
  ·unfold vY at hf;rcases aI9.mp hf with hf | hf
   ·exact⟨(i f hf).1.trans (List.sublist_append_left ..),(i f hf).2⟩
   ·obtain⟨g,hg,rfl⟩:=aI1.mp hf;obtain⟨hg,m⟩:=aIy.mp hg;refine⟨(i g hg).1.append (List.Sublist.refl _),?_⟩;rw[List.pairwise_append];refine⟨(i g hg).2,by simp,λa t b p=>?_⟩;simp at p;subst p;rw[vI];simp at m;exact m a t
  ·unfold vY;rcases aI9.mp hw with hw | hw
   ·exact aJx _ (s w hw)
   ·simp at hw;subst hw;refine aIh _ (aI1.mpr ⟨[],aIy.mpr ⟨by rw[k];simp,by simp⟩,by simp⟩)
variable{ws f:List Nat}
theorem yS:f∈fills c ws->f≠[]/\QL c ws f:=λh=>by
 obtain⟨_,⟨r,b,a⟩,d,_⟩:=oB c _ ws rfl;unfold fills at h;rw[b]at h;exact⟨a f h,d f (by rw[b];exact aI0 _ h)⟩
theorem J9(a:w∈ws):[w]∈fills c ws:=by
 obtain⟨_,⟨r,b,d⟩,f,e⟩:=oB c _ ws rfl;have:=e w a;unfold fills;rw[b]at this⊢;rcases aI5.mp this with h | h
 ·cases h
 ·exact h
def frees(c:aM)(l:List Nat):List Nat:=(aC c).filter λw=>!(l.contains w) && (ups c w).all λu=>l.contains u
theorem rQ:w∈frees c l↔w∈aC c/\w∉l/\∀u∈ups c w,u∈l:=by
 unfold frees;simp[List.mem_filter,and_assoc]
abbrev Ent:=List Nat×List (List Nat)
def gQ(c:aM)(l f:List Nat):List Nat:=(aC c).filter λw=>l.contains w || f.contains w
def eB(c:aM)(e:Ent):List Ent:=(fills c (frees c e.1)).map λf=>(gQ c e.1 f,e.2++[f])
def bY(acc:List Ent)(e:Ent):List Ent:=if acc.any (λx=>x.1==e.1) then acc else acc++[e]
def level(c:aM)(L:List Ent):List Ent:=(L.flatMap (eB c)).foldl bY []
def DP(c:aM):Nat->List Ent->List (List Nat)
 | 0,_=>[]
 | n+1,L=>match L.find? λx=>x.1==aC c with
  | some e=>e.2
  | none=>DP c n (level c L)
def rowsOf(c:aM):List (List Nat):=DP c 9 [([],[])]
structure eK(c:aM)(e:Ent):Prop where
 key:∃p:Nat->Bool,e.1=(aC c).filter p
 mem:∀w,w∈e.1↔w∈e.2.flatten
 nd:e.2.flatten.Nodup
 ne:∀f∈e.2,f≠[]
 apart:∀f∈e.2,f.Pairwise λu w=>hC c u w=false
 ord:∀(i:Nat) f,e.2[i]? =some f->∀w∈f,∀u∈ups c w,∃j g,j<i/\e.2[j]? =some g/\u∈g
theorem aHh(c:aM):eK c ([],[]):=⟨⟨λ_=>false,by simp⟩,by simp,by simp,by simp,by simp,by simp⟩
theorem nC:w∈gQ c l f↔w∈aC c/\(w∈l\/w∈f):=by
 unfold gQ;simp[List.mem_filter]
variable{e:Ent}
theorem eK.next(E:eK c e)(s:f∈fills c (frees c e.1)):eK c (gQ c e.1 f,e.2++[f]):=by
 obtain⟨f0,fs,fp⟩:=yS s;have fr:∀w∈f,w∈aC c/\w∉e.1/\∀u∈ups c w,u∈e.1:=λw d=>rQ.mp (fs.subset d);have t:∀w∈e.1,w∈aC c:=λw d=>by obtain⟨p,v⟩:=E.key;rw[v]at d;exact(aIy.mp d).1
 have l:f.Nodup:=fs.nodup ((dI c).filter _);refine⟨⟨_,rfl⟩,λw=>?_,?_,λg hg=>?_,λg hg=>?_,λi g hg w d u q=>?_⟩
 ·rw[nC];simp only[List.flatten_append,List.mem_append,List.flatten_cons,List.flatten_nil,List.append_nil,<-E.mem w];constructor
  ·rintro⟨_,h⟩;exact h
  ·rintro(h | h)
   ·exact⟨t w h,.inl h⟩
   ·exact⟨(fr w h).1,.inr h⟩
 ·simp only[List.flatten_append,List.flatten_cons,List.flatten_nil,List.append_nil];rw[List.nodup_append];exact⟨E.nd,l,λa x b y z=>(fr b y).2.1 ((E.mem b).mpr (by rw[<-z];exact x))⟩
 ·rcases aI9.mp hg with h | h
  ·exact E.ne g h
  ·simp at h;subst h;exact f0
 ·rcases aI9.mp hg with h | h
  ·exact E.apart g h
  ·simp at h;subst h;exact fp
 ·by_cases hi:i<e.2.length
  ·rw[List.getElem?_append_left hi]at hg;obtain⟨j,g',A,B,C⟩:=E.ord i g hg w d u q;exact⟨j,g',A,by rw[List.getElem?_append_left (by lia)];exact B,C⟩
  ·have m:i=e.2.length:=by
    have:=(aHv.mp hg).1;simp at this;lia
   subst m;simp at hg;subst hg;have:=(E.mem u).mp ((fr w d).2.2 u q);obtain⟨g',n,o⟩:=aKi.mp this;obtain⟨j,r⟩:=aJb.mp n;have k:=(aHv.mp r).1;exact⟨j,g',k,by rw[List.getElem?_append_left k];exact r,o⟩
theorem gW{α:Type}[DecidableEq α]:∀{l m:List α},l.Nodup->(∀a∈l,a∈m)->l.length<=m.length
 | [],m,_,_=>aIx _
 | a::l,m,nd,h=>by
  obtain⟨n1,n2⟩:=aKs.mp nd;have c:=h a aHx;have:=gW (l:=l) (m:=m.erase a) n2 λb d=>(List.mem_erase_of_ne λz=>n1 (by rw[<-z];exact d)).mpr (h b (aI0 _ d));rw[List.length_erase_of_mem c]at this;have:=List.length_pos_of_mem c;simp;lia
def subs:List Nat->List (List Nat)
 | []=>[[]]
 | a::r=>subs r++(subs r).map (a:: ·)
theorem CB:∀l,(subs l).length=2^l.length
 | []=>rfl
 | a::r=>by simp[subs,CB r,Nat.pow_succ];lia
theorem sQ(p:Nat->Bool):∀l,l.filter p∈subs l
 | []=>by simp[subs]
 | a::r=>by
  have:=sQ p r;simp only[subs,List.filter_cons,List.mem_append];split
  ·exact .inr (aI1.mpr ⟨_,this,rfl⟩)
  ·exact .inl this
structure xA(c:aM)(L:List Ent):Prop where
 ok:∀e∈L,eK c e
 nd:(L.map (·.1)).Nodup
variable{L:List Ent}
theorem xA.len(h:xA c L):L.length<=256:=by
 have:=gW (l:=L.map (·.1)) (m:=subs (aC c)) h.nd λk hk=>by
  obtain⟨e,he,rfl⟩:=aI1.mp hk;obtain⟨p,a⟩:=(h.ok e he).key;rw[a];exact sQ p _
 rw[List.length_map,CB]at this;exact aIa this (aLg (by decide) (cG c))
variable{acc:List Ent}
theorem VN{e x:Ent}(h:x∈bY acc e):x∈acc\/x=e:=by
 unfold bY at h;split at h
 ·exact .inl h
 ·simpa using h
theorem aAt(h:(acc.map (·.1)).Nodup):((bY acc e).map (·.1)).Nodup:=by
 unfold bY;split
 ·exact h
 ·rename_i n;rw[List.map_append,List.nodup_append];refine⟨h,by simp,λa d b c z=>n ?_⟩;simp at c;subst c;obtain⟨x,f,g⟩:=aI1.mp d;rw[List.any_eq_true];exact⟨x,f,by rw[g,z];simp⟩
theorem VO{k:List Nat}:(∃x∈bY acc e,x.1=k)↔(∃x∈acc,x.1=k)\/e.1=k:=by
 unfold bY;split
 ·rename_i h;rw[List.any_eq_true]at h;obtain⟨x,a,b⟩:=h;have b:x.1=e.1:=by simpa using b
  constructor
  ·exact .inl
  ·rintro(h | rfl)
   ·exact h
   ·exact⟨x,a,b⟩
 ·constructor
  ·rintro⟨x,a,rfl⟩;rcases aI9.mp a with h | h
   ·exact .inl ⟨x,h,rfl⟩
   ·simp at h;subst h;exact .inr rfl
  ·rintro(⟨x,a,rfl⟩ | rfl)
   ·exact⟨x,by simp[a],rfl⟩
   ·exact⟨e,by simp,rfl⟩
theorem fold_add:∀(l acc:List Ent),(acc.map (·.1)).Nodup->((l.foldl bY acc).map (·.1)).Nodup/\(∀x∈l.foldl bY acc,x∈acc\/x∈l)/\∀k,((∃x∈l.foldl bY acc,x.1=k)↔(∃x∈acc,x.1=k)\/∃x∈l,x.1=k)
 | [],acc,h=>⟨h,λx a=>.inl a,λk=>by simp⟩
 | e::l,acc,h=>by
  obtain⟨b,c,d⟩:=fold_add l (bY acc e) (aAt h);refine⟨b,λx a=>?_,λk=>?_⟩
  ·rcases c x a with h | h
   ·rcases VN h with h | rfl
    ·exact .inl h
    ·exact .inr aHx
   ·exact .inr (aI0 _ h)
  ·rw[List.foldl_cons,d k,VO];simp[or_assoc]
theorem xA.level(h:xA c L):xA c (level c L):=by
 obtain⟨a,b,_⟩:=fold_add (L.flatMap (eB c)) [] (by simp);refine⟨λe he=>?_,a⟩;rcases b e he with z | z
 ·cases z
 ·obtain⟨x,d,hz⟩:=aLt.mp z;obtain⟨f,g,rfl⟩:=aI1.mp hz;exact(h.ok x d).next g
theorem sX{p:Nat->Bool}:∀{l:List Nat},(l.filter p).length=l.length->l.filter p=l
 | [],_=>rfl
 | a::r,h=>by
  rw[List.filter_cons]at h⊢;split at h
  ·rename_i hp;rw[if_pos hp,sX (by simpa using h)]
  ·have:=aJ2 p r;simp at h;lia
theorem len_sub(E:eK c e):e.1.length<=(aC c).length:=by
 obtain⟨p,a⟩:=E.key;rw[a];exact aJ2 ..
theorem C4(j:iZ c)(h:xA c L){t:Nat}(ht:t<(aC c).length)(he:∃e∈L,e.1.length=t):∃e∈level c L,e.1.length=t+1:=by
 obtain⟨e,he,u⟩:=he;have E:=h.ok e he;obtain⟨p,f⟩:=E.key
 have b:∃w∈aC c,w∉e.1:=by
  refine aIl λd=>?_;have:(aC c).length<=e.1.length:=gW (dI c) λw b=>aIl λz=>d ⟨w,b,z⟩
  lia
 obtain⟨w,b,d⟩:=b;obtain⟨v,g,i,k⟩:=UT j b d;have l:=J9 (c:=c) (rQ.mpr ⟨g,i,k⟩);obtain⟨_,_,n⟩:=fold_add (L.flatMap (eB c)) [] (by simp);obtain⟨x,o,hk⟩:=(n (gQ c e.1 [v])).mpr (.inr ⟨(gQ c e.1 [v],e.2++[[v]]),aLt.mpr ⟨e,he,aI1.mpr ⟨[v],l,rfl⟩⟩,rfl⟩);refine⟨x,o,?_⟩;rw[hk];have q:∀w∈e.1,w∈aC c:=λw b=>by rw[f]at b;exact(aIy.mp b).1
 have knd:e.1.Nodup:=by rw[f];exact(dI c).filter _
 have n1:(v::e.1).Nodup:=aKs.mpr ⟨i,knd⟩;have n2:(gQ c e.1 [v]).Nodup:=(dI c).filter _
 have r:=gW n1 (m:=gQ c e.1 [v]) λa ha=>by
  rw[nC];rcases aI5.mp ha with rfl | ha
  ·exact⟨g,by simp⟩
  ·exact⟨q a ha,.inl ha⟩
 have s:=gW n2 (m:=v::e.1) λa ha=>by
  rw[nC]at ha;rcases ha.2 with h | h
  ·exact aI0 _ h
  ·simp at h;subst h;exact aHx
 simp at r s;lia
theorem find_none(h:xA c L){t:Nat}(he:∃e∈L,e.1.length=t)(b:L.find? (λx=>x.1==aC c)=none):t<(aC c).length:=by
 obtain⟨e,he,d⟩:=he;have E:=h.ok e he;have:=len_sub E;rcases Nat.lt_or_ge t (aC c).length with z | z
 ·exact z
 ·have:=List.find?_eq_none.mp b e he;obtain⟨p,a⟩:=E.key;rw[a,sX (by rw[<-a];lia)]at this;simp at this
theorem HV{c:aM}(d:iZ c):∀(n t:Nat) (L:List Ent),xA c L->(∃e∈L,e.1.length=t)->t<=(aC c).length->(aC c).length<t+n->eK c (aC c,DP c n L)
 | 0,t,L,_,_,a,b=>by lia
 | n+1,t,L,h,he,a,b=>by
  unfold DP
  cases hf:L.find? (λx=>x.1==aC c) with
  | some e=>
   have a:=List.mem_of_find?_eq_some hf;have b:e.1=aC c:=by have:=List.find?_some hf;simpa using this
   have:=h.ok e a;rw[<-b];exact this
  | none=>
   have lt:=find_none h he hf;exact HV d n (t+1) _ h.level (C4 d h lt he) (by lia) (by lia)
theorem lv0(c:aM):xA c [([],[])]:=⟨λe he=>by simp at he;subst he;exact aHh c,by simp⟩
theorem zU(a:iZ c):eK c (aC c,rowsOf c):=HV a 9 0 _ (lv0 c) ⟨_,aHx,rfl⟩ (aIx _) (by have:=cG c;lia)
theorem vX:∀{R:List (List Nat)},(∀f∈R,f≠[])->R.length<=R.flatten.length
 | [],_=>aHw _
 | f::R,h=>by
  have:=vX (R:=R) λg hg=>h g (aI0 _ hg);have b:=h f aHx
  cases f with
  | nil=>exact absurd rfl b
  | cons a f=>simp at this⊢;lia
theorem eK.RX(E:eK c e):e.2.flatten.length<=8/\e.2.length<=8:=by
 have f:∀w∈e.1,w∈aC c:=λw d=>by obtain⟨p,g⟩:=E.key;rw[g]at d;exact(aIy.mp d).1
 have a:=gW E.nd (m:=aC c) λw d=>f w ((E.mem w).mpr d);have b:=vX E.ne;have:=cG c;exact⟨by lia,by lia⟩
def zN(R:List (List Nat))(w:Nat):Nat:=R.findIdx λf=>f.contains w
variable{R:List (List Nat)}{i:Nat}
theorem EO(nd:R.flatten.Nodup)(b:R[i]? =some f)(d:w∈f):zN R w=i:=by
 have hi:=(aHv.mp b).1;unfold zN
 have h0:∀j g,R[j]? =some g->w∈g->j=i:=by
  clear hi
  induction R generalizing i with
  | nil=>intro j g h;simp at h
  | cons a R ih=>
   simp only[List.flatten_cons,List.nodup_append]at nd;intro j g c hg
   cases i with
   | zero=>
    simp at b;subst b
    cases j with
    | zero=>rfl
    | succ j=>
     simp at c;exact absurd rfl (nd.2.2 w d w (aKi.mpr ⟨g,aI2 c,hg⟩))
   | succ i=>
    simp at b
    cases j with
    | zero=>simp at c;subst c;exact absurd rfl (nd.2.2 w hg w (aKi.mpr ⟨f,aI2 b,d⟩))
    | succ j=>simp at c;rw[ih nd.2.1 b j g c hg]
 have e:R.findIdx (λf=>f.contains w)<R.length:=List.findIdx_lt_length_of_exists ⟨f,aI2 b,by simpa using d⟩;have:=List.findIdx_getElem (w:=e);exact h0 _ _ (aIm e) (by simpa using this)
theorem rG(E:eK c (aC c,R))(b:w∈aC c):∃f,R[zN R w]? =some f/\w∈f:=by
 obtain⟨f,d,a⟩:=aKi.mp ((E.mem w).mp b);obtain⟨i,hi⟩:=aJb.mp d;exact⟨f,by rw[EO E.nd hi a];exact hi,a⟩
theorem LF(E:eK c (aC c,R))(a:w∈aC c):zN R w<R.length:=by
 obtain⟨f,b,_⟩:=rG E a;exact(aHv.mp b).1
variable{u:Nat}
theorem W5(E:eK c (aC c,R))(h:u∈ups c w):zN R u<zN R w:=by
 obtain⟨f,b,a⟩:=rG E (qD h).2.1;obtain⟨j,g,d,e,i⟩:=E.ord _ f b w a u h;rw[EO E.nd e i];exact d
variable{α:Type}
theorem XJ{P:α->α->Prop}{l:List α}(h:l.Pairwise P)(c:∀a b,P a b->P b a){a b:α}(e:a∈l)(f:b∈l)(ne:a≠b):P a b:=by
 induction l with
 | nil=>cases e
 | cons x l ih=>
  rw[List.pairwise_cons]at h;rcases aI5.mp e with g | ha0
  ·rcases aI5.mp f with d | hb0
   ·exact absurd (g.trans d.symm) ne
   ·rw[g];exact h.1 b hb0
  ·rcases aI5.mp f with d | hb0
   ·rw[d];exact c _ _ (h.1 a ha0)
   ·exact ih h.2 ha0 hb0
theorem IP(E:eK c (aC c,R))(j:u∈aC c)(k:w∈aC c)(ne:u≠w)(h:zN R u=zN R w):hC c u w=false:=by
 obtain⟨f,i,d⟩:=rG E k;obtain⟨g,hg,e⟩:=rG E j;rw[h,i]at hg;cases hg;exact XJ (E.apart f (aI2 i)) (λa b h=>by rw[vI];exact h) e d ne
def gU(c:aM)(a:Nat):Nat:=((spans c).filter λs=>meets s ⟨0,a,a⟩).length
def cP(c:aM)(a b:Nat):Option Nat:=(List.range b).find? λk=>gU c k==a
def bV(c:aM):Nat->Nat->Option (List Nat)
 | 0,_=>none
 | 1,w=>some [w]
 | n+2,w=>(ups c w).findSome? λu=>(bV c (n+1) u).map (· ++[w])
theorem sD{c:aM}:∀{n w:Nat} {l:List Nat},bV c n w=some l->l.length=n
 | 0,_,_,h=>by cases h
 | 1,_,_,h=>by cases h;rfl
 | n+2,w,l,h=>by
  unfold bV at h;obtain⟨u,b,h⟩:=aJj h;obtain⟨d,a,rfl⟩:=aI3.mp h;simp[sD a]
def FE(S:Nat->Prop)(M a :MH):Prop:=M.length<=a.length/\∀(m:Nat) o,M[m]? =some o->∃o',a[m]? =some o' /\(o' =o\/S m/\∃t kvs ob,o= .bM t kvs/\o' = .gD t kvs ob)
section
variable {S T:Nat->Prop}{M N P:MH}{n:Nat}
theorem FE.refl:FE S M M:=⟨aHw _,λ_ o h=>⟨o,h,.inl rfl⟩⟩
theorem FE.trans(a:FE S M N)(b:FE S N P):FE S M P:=⟨aIa a.1 b.1,λm o h=>by
 obtain⟨o1,e,f⟩:=a.2 m o h;obtain⟨g,i,c⟩:=b.2 m o1 e;refine⟨g,i,?_⟩;rcases f with rfl | ⟨s,t,kvs,ob,rfl,rfl⟩
 ·exact c
 ·rcases c with rfl | ⟨_,t',d,j,z,_⟩
  ·exact .inr ⟨s,t,kvs,ob,rfl,rfl⟩
  ·cases z⟩
theorem FE.sub(a:FE S M N)(h:∀m,S m->T m):FE T M N:=⟨a.1,λm o e=>by
 obtain⟨o1,b,c⟩:=a.2 m o e
 exact⟨o1,b,c.imp id λz=>⟨h _ z.1,z.2⟩⟩⟩
theorem FE.push(a:FE S M N)(x:MO):FE S M (N++[x]):=⟨by have:=a.1;simp;lia,λm o e=>by
 obtain⟨o1,b,c⟩:=a.2 m o e
 exact⟨o1,aZ b,c⟩⟩
theorem FE.set(a:FE S M N)(h:M.length<=n)(x:MO):FE S M (N.set n x):=⟨by have:=a.1;simpa using this,λm o e=>by
 obtain⟨o1,b,c⟩:=a.2 m o e
 exact⟨o1,get_set b (by have:=jW e;lia),c⟩⟩
theorem FE.lst{l:List D}(a:FE S M N)(h:M[n]? =some (.lst l)):N[n]? =some (.lst l):=by
 obtain⟨o1,b,c⟩:=a.2 n _ h;rcases c with rfl | ⟨_,t,kvs,ob,z,_⟩
 ·exact b
 ·cases z
variable{t:Bool}{kvs:List (D×D)}
theorem FE.gD{ob:Obj}(a:FE S M N)(h:M[n]? =some (.gD t kvs ob)):N[n]? =some (.gD t kvs ob):=by
 obtain⟨o1,b,c⟩:=a.2 n _ h;rcases c with rfl | ⟨_,t,kvs,ob,z,_⟩
 ·exact b
 ·cases z
theorem FE.bM(a:FE S M N)(h:M[n]? =some (.bM t kvs))(b:¬S n):N[n]? =some (.bM t kvs):=by
 obtain⟨o1,c,d⟩:=a.2 n _ h;rcases d with rfl | ⟨s,_⟩
 ·exact c
 ·exact absurd s b
theorem FE.dm(a:FE S M N)(h:iE M n t kvs):iE N n t kvs:=by
 rcases h with h | ⟨ob,h⟩
 ·obtain⟨o1,b,d⟩:=a.2 n _ h;rcases d with rfl | ⟨_,t',c,ob,z,rfl⟩
  ·exact .inl b
  ·cases z;exact .inr ⟨ob,b⟩
 ·exact .inr ⟨ob,a.gD h⟩
theorem FE.tP(h:M[n]? =some (.bM t kvs))(s:S n)(ob:Obj):FE S M (M.set n (.gD t kvs ob)):=⟨by simp,λm o e=>by
 by_cases z:m=n
 ·subst z;rw[h]at e;cases e;exact⟨_,cS _ h,.inr ⟨s,_,_,ob,rfl,rfl⟩⟩
 ·exact⟨o,get_set e (aIg z),.inl rfl⟩⟩
end
variable{n:Nat}{kvs:List (D×D)}{M:MH}
theorem oD{t:Bool}{b:dY}{P:List D->(MH->Prop)->MH->Prop}(r:b[i]? =some (some (.ref n)))(h:iE M n t kvs)(s:S n)
  (q:∀ob a,FE S M a ->a[n]? =some (.gD t kvs ob)->P (kvs.map (·.1)) (λmh' =>mh'[n]? =some (.gD t kvs ob)) a):oW (aA i) b M P:=by
 unfold oW;rw[L6,r];refine⟨n,t,kvs,rfl,?_⟩;rcases h with h | ⟨ob,h⟩
 ·exact .inl ⟨h,λob=>q ob _ (FE.tP h s ob) (cS _ h)⟩
 ·exact .inr ⟨ob,h,q ob M FE.refl h⟩
theorem PQ{α m:Type}{g:WG}{t:WT}{w:WE}{ρe:dY}{St:MH->Prop}{Q:DK}(em:α->D)(p:α->Bool)(f:α->m)(j:m->D)(I:MH->Prop):∀(ds:List α) (c:List m) {M:MH},I M->(∀M,I M->St M)->
  (∀d∈ds,∀M,I M->∀(N:DK) (L:MH->Prop),(∀a,I a ->p d=true->N (j (f d)) a)->(∀a,I a ->p d=false->L a)->g (em d) ρe λk=>t k M λb l=>if b=true then w k l N else L l)->
  (∀M,I M->Q (.ref M.length) (M++[.lst ((c++(ds.filter p).map f).map j)]))->kR g t w ρe St Q (ds.map em) (c.map j) M
 | [],c,M,i,hst,_,q=>⟨hst M i,by simpa using q M i⟩
 | d::ds,c,M,i,hst,h,q=>by
  refine⟨hst M i,h d aHx M i _ _ (λa n e=>?_) λa n e=>?_⟩
  ·have:=PQ (g:=g) (t:=t) (w:=w) (ρe:=ρe) (St:=St) (Q:=Q) em p f j I ds (c++[f d]) n hst (λd hd=>h d (aI0 _ hd)) λM i=>by
    have:=q M i;rw[List.filter_cons,if_pos e]at this;simpa using this
   rw[List.map_append]at this;exact this
  ·exact PQ em p f j I ds c n hst (λd hd=>h d (aI0 _ hd)) λM i=>by
    have:=q M i;rw[List.filter_cons,if_neg (by simp[e])]at this;exact this
variable{Q:DK}
theorem iW{α l:Type}{g:WG}{t:WT}{w:WE}{ρe:dY}{St:MH->Prop}(em:α->D)(p:α->Bool)(f:α->l)(j:l->D)(I:MH->Prop)(ds:List α)(i:I M)(k:∀M,I M->St M)
  (h:∀d∈ds,∀M,I M->∀(N:DK) (L:MH->Prop),(∀a,I a ->p d=true->N (j (f d)) a)->(∀a,I a ->p d=false->L a)->g (em d) ρe λc=>t c M λb e=>if b=true then w c e N else L e)
  (q:∀M,I M->Q (.ref M.length) (M++[.lst (((ds.filter p).map f).map j)])):kR g t w ρe St Q (ds.map em) [] M:=PQ em p f j I ds [] i k h q
def nD(k:Nat):D:= .int (k:Nat)
def aN(l:List Nat):D:= .tup (l.map nD)
def spT(s:Sp):D:= .tup [nD s.a,nD s.b]
def EU(c:aM):List (D×D):=(spans c).map λs=>(nD s.w,spT s)
variable{a b:Nat}
theorem fL(h:nD a=nD b):a=b:=by unfold nD at h;have:=D.int.inj h;lia
def QJ(c:aM)(M:MH)(n:Nat):Prop:=∃kvs,iE M n false kvs/\kvs.map (·.1)=(aC c).map nD/\∀w∈aC c,∃r,aU kvs (nD w)=some (.ref r)/\M[r]? =some (.lst ((ups c w).map nD))
theorem QJ.fe{M N:MH}(u:QJ c M n)(a:FE S M N):QJ c N n:=by
 obtain⟨kvs,b,d,e⟩:=u;exact⟨kvs,a.dm b,d,λw f=>by obtain⟨r,g,h⟩:=e w f;exact⟨r,g,a.lst h⟩⟩
theorem WW{l:List Sp}{s:Sp}(nd:(l.map (·.w)).Nodup)(h:s∈l):aU (l.map λs=>(nD s.w,spT s)) (nD s.w)=some (spT s):=by
 induction l with
 | nil=>cases h
 | cons a l ih=>
  simp only[List.map_cons,List.nodup_cons]at nd;simp only[List.map_cons,aU];rcases aI5.mp h with rfl | h
  ·rw[if_pos rfl]
  ·rw[if_neg λz=>nd.1 (by rw[fL z];exact List.mem_map.mpr ⟨s,h,rfl⟩)];exact ih nd.2 h
theorem nW(h:w∈aC c):aU (EU c) (nD w)=some (spT (G5 c w)):=by
 obtain⟨s,a,rfl⟩:=aI1.mp h;rw[t9 a];exact WW (dI c) a
theorem rW{d:D}(h:iE M n false kvs)(e:aU kvs (nD w)=some d)(q:Q d M):z0 (.ref n) (nD w) M Q:=⟨n,kvs,.inl (w:Nat),d,rfl,h,rfl,e,q⟩
def yG:OA:=λds mh Q=>∃s t:Sp,ds=[spT s,spT t]/\Q (.bl (meets s t)) mh
theorem Z9(ds:List D)(mh:MH)(R:DK)(ok:oG mh)(c:yG ds mh R):zH (En mh R) (aK ["one","other"] ds) mh:=by
 obtain⟨s,t,rfl,q⟩:=c;simp[zH,aK,spT,nD,GC];by_cases h:s.a<=t.b
 ·rw[if_pos (by exact_mod_cast h)];refine aQ ?_;simpa[meets,h] using q
 ·rw[if_neg (by exact_mod_cast h)];refine aQ ?_;simpa[meets,h] using q
def nT:Nat->Prop:=λ_=>False
def IX:OA:=λds mh Q=>∃(c:aM) (s:Nat) (x:D) (ws:List Nat),ds=[.ref s,x]/\aX mh x=some (ws.map nD)/\iE mh s false (EU c)/\ws.Sublist (aC c)/\
 ∀M l,FE nT mh M->M[l]? =some (.lst ((fills c ws).map aN))->Q (.ref l) M
theorem TL(a:ws.Sublist (aC c))(i:Nat)(h:f∈fP c (ws.take i)):∀w∈f,w∈aC c:=λw b=>by
 have:=((oB c _ _ rfl).2.2.1 f h).1;exact a.subset (aJ9 (this.subset b))
theorem aE4(ds:List D)(mh:MH)(R:DK)(ok:oG mh)(J:IX ds mh R):lD yG (En mh R) (aK ["spans","wires","told","wire","more"] ds) mh:=by
 obtain⟨c,s,x,ws,rfl,b,hd,v,q⟩:=J;have sz:=aIf;have V:ws.length<=8:=aIa v.length_le (cG c);simp[lD,aK,pV];have k:FE nT mh (mh++[MO.lst [D.tup []]]):=FE.refl.push _;have G:(mh++[MO.lst [D.tup []]])[mh.length]? =some (.lst ((fP c (ws.take 0)).map aN)):=by simp[fP,aN]
 have f:aX (mh++[MO.lst [D.tup []]]) x=some (ws.map nD):=by
  cases x with
  | tup _=>exact b
  | fl _=>exact b
  | ref n=>
   simp only[aX]at b⊢
   cases e:mh[n]? with
   | none=>rw[e]at b;cases b
   | some o=>rw[aZ e];rw[e]at b;exact b
  | _=>simp[aX]at b
 have keep:∀{M:MH},FE nT (mh++[MO.lst [D.tup []]]) M->aX M x=some (ws.map nD):=λ{M} a=>by
  cases x with
  | tup _=>exact b
  | fl _=>exact b
  | ref n=>
   simp only[aX]at f⊢;split at f
   ·rename_i e;rw[a.lst e];exact f
   ·cases f
  | _=>simp[aX]at b
 generalize mh++[MO.lst [D.tup []]]=K at k G f keep⊢;rw[f];simp only[aD];refine⟨by lia,?_⟩;refine bQ (λi y M=>FE nT K M/\∃r A B,y=[some (.ref s),some x,some (.ref r),A,B]/\M[r]? =some (.lst ((fP c (ws.take i)).map aN))) _ (λ_ _ _ h=>keep h.1) ?_ ?_ ⟨FE.refl,_,_,_,rfl,G⟩
 ·rintro i d y M N hi ⟨fe,r,A,B,rfl,l⟩ nx;rw[List.getElem?_map]at hi;obtain⟨w,C,rfl⟩:=aI3.mp hi;have L:=(aHv.mp C).1;have E:w∈aC c:=v.subset (aI2 C);have tk:ws.take (i+1)=ws.take i++[w]:=by rw[List.take_add_one,C];rfl
  have fl:=(oB c _ (ws.take i) rfl).1;have O:(fP c (ws.take i)).length<=256:=aIa fl (aLg (i:=(ws.take i).length) (j:=8) (by decide) (by rw[List.length_take];lia));simp[oP,lY,aP l];refine iW aN (λown=>!(own.any λo=>hC c w o)) (· ++[w]) aN (λm =>FE nT M m) _ FE.refl (λm a=>aP (a.lst l)) ?_ ?_
  ·intro own g P t W X n1 l1;have F:=TL v i g
   have Y:own.length<=8:=by
    have:=((oB c _ _ rfl).2.2.1 own g).1.length_le;simp at this;lia
   simp[cX,aN];refine iW nD (λ_=>true) (λo=>hC c w o) D.bl (λm =>FE nT M m) own t (λm _=>rfl) ?_ ?_
   ·intro o ho M2 p Z L2 n2 l2;simp[cX];have H:iE M2 s false (EU c):=p.dm (fe.dm (k.dm hd));refine rW H (nW E) (rW H (nW (F o ho)) ⟨_,_,rfl,n2 _ p rfl⟩)
   ·intro M2 p;rw[List.filter_eq_self.mpr (λ_ _=>rfl)];rw[EY (bs:=own.map λo=>hC c w o) (bH _ _)];simp[i6];by_cases u:∃x,x∈own/\hC c w x=true
    ·rw[if_pos u];refine l1 _ (p.push _) ?_;obtain⟨x,Q,S⟩:=u;rw[Bool.not_eq_false',List.any_eq_true];exact⟨x,Q,S⟩
    ·rw[if_neg u];refine⟨by lia,by lia,?_⟩
     have:=n1 _ (p.push (MO.lst (List.map (D.bl ∘ λo=>hC c w o) own))) (by
      rw[Bool.not_eq_true',List.any_eq_false]
      exact λx b h=>u ⟨x,b,h⟩)
     simpa[aN] using this
  ·intro P t;have T:(fP c (ws.take (i+1))).length<=256:=aIa (oB c _ (ws.take (i+1)) rfl).1 (aLg (i:=(ws.take (i+1)).length) (j:=8) (by decide) (by rw[List.length_take];lia))
   have I:(fP c (ws.take i)).map aN++((fP c (ws.take i)).filter (λown=>!own.any λo=>hC c w o)).map (λown=>aN (own++[w]))=(fP c (ws.take (i+1))).map aN:=by
    rw[tk,yT];unfold vY;rw[List.map_append,List.map_map];rfl
   have U:=aJ7 List.length I;simp only[List.length_append,List.length_map]at U;rw[List.map_map];refine(MD (aZ (t.lst l)) (bH _ _)).mpr ⟨by simp only[List.length_append,List.length_map];lia,nx _ _ ⟨(fe.trans (t.push _)).push _,_,_,_,rfl,?_⟩⟩;rw[bH];exact aJ7 (λz=>some (MO.lst z)) I
 ·rintro y M ⟨fe,r,A,B,rfl,l⟩;have e:ws.take (ws.map nD).length=ws:=by rw[List.length_map,List.take_length]
  rw[e]at l;simp[pU];rw[aBv l];refine aQ (q _ _ ((k.trans fe).push _) ?_);rw[bH,yX];unfold fills;rw[List.map_tail]
def IW:OA:=λds mh Q=>∃(c:aM) (u:Nat) (l:List Nat),ds=[.ref u,aN l]/\QJ c mh u/\Wc c/\l.length<=8/\∀M r,FE (· =u) mh M->M[r]? =some (.lst ((frees c l).map nD))->Q (.ref r) M
theorem eqN(a b:Nat):hU (nD a) (nD b)=decide (a=b):=by
 unfold nD;by_cases h:a=b <;> simp[hU,h] <;> lia
theorem in_nums{w:Nat}:∀(l:List Nat),inD (nD w) (l.map nD)=l.contains w
 | []=>by simp[inD]
 | a::l=>by
  have b:=in_nums (w:=w) l;simp only[List.map_cons,List.contains_cons];unfold inD at b⊢;rw[List.any_cons,b,eqN];congr 1;by_cases h:a=w
  ·subst h;simp
  ·have:¬w=a:=λz=>h z.symm;simp[h,this]
theorem yR(l:List Nat):(l.map nD).all mF=true:=by
 rw[List.all_eq_true];intro d hd;obtain⟨k,_,rfl⟩:=aI1.mp hd;rfl
theorem DH{x:D}(h:aX M x=some (l.map nD))(q:Q (.bl (l.contains w)) M):WD (nD w) x M Q:=by
 cases x with
 | str _=>cases h
 | _=>exact⟨_,h,rfl,yR l,by show Q (.bl (inD (nD w) _)) M;rw[in_nums];exact q⟩
theorem CU{x:D}(h:aX M x=some (l.map nD))(q:Q (.bl !(l.contains w)) M):vF (nD w) x M Q:=by
 cases x with
 | str _=>cases h
 | _=>exact⟨_,h,rfl,yR l,by show Q (.bl !(inD (nD w) _)) M;rw[in_nums];exact q⟩
theorem aE3(ds:List D)(mh:MH)(R:DK)(ok:oG mh)(k:IW ds mh R):iA (En mh R) (aK ["uppers","laid"] ds) mh:=by
 obtain⟨c,u,l,rfl,m,x,y,q⟩:=k;have sz:=aIf;simp[iA,aK];obtain⟨kvs,hd,hk,hv⟩:=m;refine oD (S:=(· =u)) rfl hd rfl λob j b n=>?_;rw[hk];refine iW nD (λw=>!(l.contains w) && (ups c w).all λv=>l.contains v) id nD (λf =>FE (· =u) j f) _ FE.refl (λf a=>a.gD n) ?_ ?_
 ·intro w o p e z A n1 l1;obtain⟨r,s,d⟩:=hv w o;have h:=(b.trans e).lst d;have i:=(b.trans e).dm hd;simp[cX,aN];refine CU (l:=l) rfl ?_;simp only[bX,aD]
  cases hc:l.contains w with
  | true=>exact l1 _ e (by rw[hc];rfl)
  | false=>
   rw[if_pos (show (!false)=true from rfl)];refine rW i s ?_;rw[aP h];simp only[aD];refine iW nD (λ_=>true) (λv=>l.contains v) D.bl (λf =>FE (· =u) j f) (ups c w) e (λf a=>aP (a.lst (b.lst d))) ?_ ?_
   ·intro v t M2 g B C n2 l2;simp;exact DH (l:=l) rfl (n2 _ g rfl)
   ·intro M2 g;rw[List.filter_eq_self.mpr (λ_ _=>rfl)];rw[zT (bs:=(ups c w).map λv=>l.contains v) (bH _ _)];rw[show ((ups c w).map λv=>l.contains v).all id=(ups c w).all λv=>l.contains v by rw[List.all_map];rfl];simp only[i6,aD]
    cases ha:(ups c w).all λv=>l.contains v with
    | true=>exact n1 _ (g.push _) (by rw[hc,ha];rfl)
    | false=>exact l1 _ (g.push _) (by rw[hc,ha];rfl)
 ·intro p e;refine aQ (q _ _ ((b.trans e).push _) ?_);rw[bH,List.map_id];rfl
def vC:Option Nat->D
 | none=>.bT
 | some k=>nD k
def chD:Option (List Nat)->D
 | none=>.bT
 | some l=>aN l
def RL:OA:=λds mh Q=>∃(c:aM) (s m k:Nat),ds=[.ref s,nD m,nD k]/\iE mh s false (EU c)/\k<=12/\∀M,FE (· =s) mh M->Q (vC (cP c m k)) M
theorem t8(c:aM):(EU c).map (·.1)=(aC c).map nD:=by simp[EU,aC]
theorem LH(c:aM)(k:Nat):((aC c).filter λw=>meets (G5 c w) ⟨0,k,k⟩).length=gU c k:=by
 unfold gU aC;rw[List.filter_map,List.length_map];congr 1;apply List.filter_congr;intro s a;simp[t9 a]
theorem aDp(ds:List D)(mh:MH)(R:DK)(ok:oG mh)(r:RL ds mh R):eY yG (En mh R) (aK ["spans","many","wide","column"] ds) mh:=by
 obtain⟨c,s,m,k,rfl,hd,hk,q⟩:=r;have sz:=aIf;have y:=cG c;simp[eY,aK,nD];refine⟨by lia,?_⟩;refine bQ (λi o M=>FE (· =s) mh M/\(∃a,o=[some (.ref s),some (nD m),some (nD k),a])/\∀j,j<i->gU c j≠m) _ (λ_ _ _ _=>trivial) ?_ ?_ ⟨FE.refl,⟨_,rfl⟩,λj h=>by lia⟩
 ·rintro i d o M N hi ⟨fe,⟨a,rfl⟩,l⟩ nx;obtain⟨hi,rfl⟩:=jK hi;simp[i9];refine oD (S:=(· =s)) rfl (fe.dm hd) rfl λob t b u=>?_;rw[t8];refine iW nD (λw=>meets (G5 c w) ⟨0,i,i⟩) id nD (λp =>FE (· =s) t p) _ FE.refl (λp a=>a.gD u) ?_ ?_
  ·intro w v x f z A n1 l1;simp[cX];refine rW ((fe.trans (b.trans f)).dm hd) (nW v) ⟨by lia,G5 c w,⟨0,i,i⟩,by simp[spT,nD],?_⟩;simp only[i6,aD]
   cases hm:meets (G5 c w) ⟨0,i,i⟩ with
   | true=>exact n1 _ f hm
   | false=>exact l1 _ f hm
  ·intro x f;rw[rN (bH _ _)];rw[List.map_id,List.length_map,LH];simp[nD];have g:=(fe.trans (b.trans f)).push (MO.lst (List.map nD (List.filter (λw=>meets (G5 c w) ⟨0,i,i⟩) (aC c))));by_cases e:gU c i=m
   ·rw[if_pos (by exact_mod_cast e)];refine aQ ?_
    have:cP c m k=some i:=by
     unfold cP;rw[List.find?_range_eq_some];exact⟨by simpa using e,by simp;lia,λj n=>by simpa using l j n⟩
    have:=this▸q _ g;simpa[vC,nD] using this
   ·rw[if_neg (by exact_mod_cast e)];refine nx _ _ ⟨g,⟨_,rfl⟩,λj n=>?_⟩;by_cases h:j=i
    ·rw[h];exact e
    ·exact l j (by lia)
 ·rintro o M ⟨fe,⟨a,rfl⟩,l⟩;simp[jY];refine aQ ?_
  have:cP c m k=none:=by
   unfold cP;rw[List.find?_range_eq_none];intro j n;simpa using l j (by simpa[lM] using n)
  have:=this▸q _ fe;exact this
theorem WR{α c:Type}{f:α->Option c}{l:List α}{x:α}{y:c}(d:∀j,j<i->∀u,l[j]? =some u->f u=none)(b:l[i]? =some x)(e:f x=some y):l.findSome? f=some y:=by
 induction l generalizing i with
 | nil=>simp at b
 | cons a l ih=>
  cases i with
  | zero=>simp at b;subst b;simp[List.findSome?_cons,e]
  | succ i=>
   have:=d 0 (by lia) a rfl;rw[List.findSome?_cons,this];exact ih (i:=i) (λj h u g=>d (j+1) (by lia) u (by simpa using g)) (by simpa using b)
theorem WQ{α b:Type}{f:α->Option b}{l:List α}(c:∀j,j<l.length->∀u,l[j]? =some u->f u=none):l.findSome? f=none:=by
 rw[List.findSome?_eq_none_iff];intro x d;obtain⟨j,a⟩:=aJb.mp d;exact c j (aHv.mp a).1 x a
def sCh(n:Nat):OA:=λds mh Q=>∃(c:aM) (u w k:Nat),ds=[.ref u,nD w,nD k]/\(1<=k/\k<=n/\k<=8)/\QJ c mh u/\Wc c/\w∈aC c/\∀M,FE nT mh M->Q (chD (bV c k w)) M
theorem aHd(n:Nat)(ds:List D)(mh:MH)(R:DK)(ok:oG mh)(C:sCh (n+1) ds mh R):lE (sCh n) (En mh R) (aK ["uppers","wire","many","upper","ahead"] ds) mh:=by
 obtain⟨c,u,w,k,rfl,⟨I,J,K⟩,B,E,F,q⟩:=C;have sz:=aIf;simp[lE,aK,nD];by_cases e:k=1
 ·subst e;simp;refine⟨by lia,aQ ?_⟩;have:=q _ FE.refl;simpa[bV,chD,aN,nD] using this
 ·rw[if_neg (by lia)]
  obtain⟨f,rfl⟩:∃f,k=f +2:=⟨k-2,by lia⟩
  obtain⟨kvs,hd,hk,hv⟩:=id B;obtain⟨r,G,o⟩:=hv w F;simp[pY];refine rW (w:=w) hd G ?_;rw[aP o];simp only[aD];refine bQ (λi z M=>FE nT mh M/\(∃a b,z=[some (.ref u),some (nD w),some (nD (f +2)),a,b])/\∀j,j<i->∀v,(ups c w)[j]? =some v->bV c (f +1) v=none) _ (λ_ _ _ h=>aP (h.1.lst o)) ?_ ?_ ⟨FE.refl,⟨_,_,rfl⟩,λj h=>by lia⟩
  ·rintro i d z M N hi ⟨fe,⟨a,b,rfl⟩,t⟩ nx;rw[List.getElem?_map]at hi;obtain⟨v,g,rfl⟩:=aI3.mp hi;have H:=aI2 g;simp[oQ,nD];refine⟨c,u,v,f +1,by simp[nD];lia,⟨by lia,by lia,by lia⟩,B.fe fe,E,(qD H).1,λM2 p=>?_⟩
   cases ec:bV c (f +1) v with
   | none=>
    simp[gR,chD,iS];refine nx _ _ ⟨fe.trans p,⟨_,_,rfl⟩,λj y s m=>?_⟩;by_cases h:j=i
    ·subst h;rw[g]at m;cases m;exact ec
    ·exact t j (by lia) s m
   | some l=>
    have L:=sD ec;simp[gR,chD,aN,iS];refine⟨by lia,by lia,aQ ?_⟩
    have A:bV c (f +2) w=some (l++[w]):=by
     unfold bV;exact WR (i:=i) (x:=v) (λj y s m=>by rw[t j y s m];rfl) g (by rw[ec];rfl)
    have:=A▸q _ (fe.trans p);simpa[chD,aN,nD] using this
  ·rintro z M ⟨fe,⟨a,b,rfl⟩,t⟩;simp[pX];refine aQ ?_
   have A:bV c (f +2) w=none:=by
    unfold bV;exact WQ λj y s m=>by rw[t j (by simpa using y) s m];rfl
   have:=A▸q _ fe;exact this
def d7(c:aM)(m k:Nat):D:=match cP c m k with
 | some j=>.tup [.str "thick",nD j]
 | none=>match (aC c).findSome? (bV c m) with
  | some l=>.tup [.str "chain",aN l]
  | none=>.tup [.str "all"]
def RP:OA:=λds mh Q=>∃(c:aM) (s u m k:Nat),ds=[.ref s,.ref u,nD m,nD k]/\iE mh s false (EU c)/\QJ c mh u/\Wc c/\k<=12/\(aC c≠[]->1<=m/\m<=8)/\∀M,FE (λn=>n=s\/n=u) mh M->Q (d7 c m k) M
theorem aDv(ds:List D)(mh:MH)(R:DK)(ok:oG mh)(E:RP ds mh R):hZ RL (sCh 8) (En mh R) (aK ["spans","uppers","many","wide","column","wire","chain"] ds) mh:=by
 obtain⟨c,s,u,m,k,rfl,hd,B,F,hk,p,q⟩:=E;have sz:=aIf;simp[hZ,aK];refine⟨c,s,m,k,by simp,hd,hk,λG e=>?_⟩;have e:FE (λn=>n=s\/n=u) mh G:=e.sub λ_ h=>.inl h
 cases et:cP c m k with
 | some j=>
  simp[iG,vC,iS,nD];refine⟨by lia,aQ ?_⟩;have:=q _ e;unfold d7 at this;rw[et]at this;exact this
 | none=>
  simp[iG,vC,iS,mS];obtain⟨kvs,t,w,hv⟩:=B.fe e;refine oD (S:=λn=>n=s\/n=u) rfl t (.inr rfl) λob M2 g H=>?_;rw[w];refine bQ (λi x M=>FE (λn=>n=s\/n=u) M2 M/\(∃a b,x=[some (.ref s),some (.ref u),some (nD m),some (nD k),some .bT,a,b])/\∀j,j<i->∀v,(aC c)[j]? =some v->bV c m v=none) _ (λ_ _ _ h=>h.1.gD H) ?_ ?_ ⟨FE.refl,⟨_,_,rfl⟩,λj h=>by lia⟩
  ·rintro i d x M N hi ⟨fe,⟨a,b,rfl⟩,r⟩ nx;rw[List.getElem?_map]at hi;obtain⟨v,o,rfl⟩:=aI3.mp hi;have y:=aI2 o;have p:=p λz=>by rw[z]at y;cases y
   simp[lX];refine⟨c,u,v,m,by simp,⟨p.1,p.2,p.2⟩,B.fe (e.trans (g.trans fe)),F,y,λI f=>?_⟩;have f:FE (λn=>n=s\/n=u) M I:=f.sub λ_ h=>h.elim
   cases ec:bV c m v with
   | none=>
    simp[eZ,chD,iS];refine nx _ _ ⟨fe.trans f,⟨_,_,rfl⟩,λj C J A=>?_⟩;by_cases h:j=i
    ·subst h;rw[o]at A;cases A;exact ec
    ·exact r j (by lia) J A
   | some l=>
    simp[eZ,chD,iS,aN];refine⟨by lia,aQ ?_⟩;have:=q _ (e.trans (g.trans (fe.trans f)));unfold d7 at this;rw[et,WR r o ec]at this;exact this
  ·rintro x M ⟨fe,⟨a,b,rfl⟩,r⟩;simp[mR];refine⟨by lia,aQ ?_⟩;have:=q _ (e.trans (g.trans fe));unfold d7 at this;rw[et,WQ λj C v h=>r j (by simpa using C) v h]at this;exact this
theorem FE.over{S T:Nat->Prop}{M N P:MH}(a:FE S M N)(b:FE T N P)(h:∀m,m<M.length->T m->S m):FE S M P:=⟨aIa a.1 b.1,λm o e=>by
 obtain⟨o1,f,c⟩:=a.2 m o e;obtain⟨g,i,j⟩:=b.2 m o1 f;refine⟨g,i,?_⟩;rcases j with rfl | ⟨t,tt,kvs,ob,rfl,rfl⟩
 ·exact c
 ·rcases c with rfl | ⟨_,t',d,k,_,z⟩
  ·exact .inr ⟨h m (jW e) t,tt,kvs,ob,rfl,rfl⟩
  ·cases z⟩
theorem uU(l:List Nat):GI (l.map nD):= .inl ⟨.i,λd hd=>by obtain⟨s,_,rfl⟩:=aI1.mp hd;rfl⟩
theorem TU(h:a<=b):lx (enc (nD b)) (enc (nD a))=false:=by
 simp only[nD,enc,fQ,lx];have:¬((b:Int)<(a:Int)):=by lia
 simp[this]
theorem yD{l m:List Nat}(a:∀w,w∈l↔w∈m)(nd:l.Nodup)(pm:m.Pairwise (· < ·)){fs:List D}(p:fs.Perm (l.map nD))(s:fs.Pairwise λd e=>lx (enc e) (enc d)=false):fs=m.map nD:=by
 have b:l.Perm m:=(List.perm_ext_iff_of_nodup nd (pm.imp aI4)).mpr a;refine rL (uU l) (λd hd=>p.mem_iff.mp hd) (p.trans (b.map nD)) s ?_;rw[List.pairwise_map];exact pm.imp λh=>TU (aJ6 h)
theorem kL(l:List Nat):l.map nD=(l.map λk=>(Sum.inl ((k:Nat):Int):Key)).map aW:=by rw[List.map_map];rfl
theorem ME{a b:List Nat}(h:aN a=aN b):a=b:=by
 unfold aN at h;have h:=D.tup.inj h
 induction a generalizing b with
 | nil=>cases b with
  | nil=>rfl
  | cons y b=>simp at h
 | cons x a ih=>cases b with
  | nil=>simp at h
  | cons y b=>
   simp only[List.map_cons,List.cons.injEq]at h;rw[fL h.1,ih (congrArg D.tup h.2) h.2]
def w6(M:MH):List (D×D)->List Ent->Prop
 | [],[]=>True
 | p::kvs,e::L=>p.1=aN e.1/\(∃r,p.2= .ref r/\M[r]? =some (.lst (e.2.map aN)))/\w6 M kvs L
 | _,_=>False
theorem w6.fe{M N:MH}(a:FE S M N):∀{kvs:List (D×D)} {L:List Ent},w6 M kvs L->w6 N kvs L
 | [],[],_=>trivial
 | p::kvs,e::L,⟨h1,⟨r,h2,h3⟩,h4⟩=>⟨h1,⟨r,h2,a.lst h3⟩,h4.fe a⟩
 | [],_::_,h=>h
 | _::_,[],h=>h
theorem w6.keys:∀{kvs:List (D×D)} {L:List Ent},w6 M kvs L->kvs.map (·.1)=L.map λe=>aN e.1
 | [],[],_=>rfl
 | p::kvs,e::L,⟨h1,_,h4⟩=>by simp[h1,h4.keys]
 | [],_::_,h=>h.elim
 | _::_,[],h=>h.elim
theorem w6.app{r:Nat}(a:M[r]? =some (.lst (e.2.map aN))):∀{kvs:List (D×D)} {L:List Ent},w6 M kvs L->w6 M (kvs++[(aN e.1,.ref r)]) (L++[e])
 | [],[],_=>⟨rfl,⟨r,rfl,a⟩,trivial⟩
 | p::kvs,x::L,⟨h1,h2,h4⟩=>⟨h1,h2,h4.app a⟩
 | [],_::_,h=>h.elim
 | _::_,[],h=>h.elim
theorem w6.val(k:List Nat):∀{kvs:List (D×D)} {L:List Ent},w6 M kvs L->(L.find? (λx=>x.1==k)=none/\aU kvs (aN k)=none)\/∃e r,L.find? (λx=>x.1==k)=some e/\aU kvs (aN k)=some (.ref r)/\M[r]? =some (.lst (e.2.map aN))
 | [],[],_=>.inl ⟨rfl,rfl⟩
 | (a,b)::kvs,e::L,⟨h1,⟨r,h2,h3⟩,h4⟩=>by
  subst h1 h2;simp only[List.find?_cons,aU];by_cases hk:e.1=k
  ·right;refine⟨e,r,?_,?_,h3⟩
   ·simp[hk]
   ·rw[if_pos (by rw[hk])]
  ·rw[if_neg λz=>hk (ME z)];have:(e.1==k)=false:=by simpa using hk
   rw[this];exact h4.val k
 | [],_::_,h=>h.elim
 | _::_,[],h=>h.elim
theorem w6.set{q:Nat}{t:Bool}{a:List (D×D)}(x:MO)(h:M[q]? =some (.bM t a)):∀{kvs:List (D×D)} {L:List Ent},w6 M kvs L->w6 (M.set q x) kvs L
 | [],[],_=>trivial
 | p::kvs,e::L,⟨h1,⟨r,h2,h3⟩,h4⟩=>⟨h1,⟨r,h2,get_set h3 λz=>by rw[z,h3]at h;cases h⟩,h4.set x h⟩
 | [],_::_,h=>h
 | _::_,[],h=>h
theorem w6.len:∀{kvs:List (D×D)} {L:List Ent},w6 M kvs L->kvs.length=L.length
 | [],[],_=>rfl
 | p::kvs,e::L,⟨h1,_,h4⟩=>by simp[h4.len]
 | [],_::_,h=>h.elim
 | _::_,[],h=>h.elim
theorem A4{e:Ent}:∀{L:List Ent},(L.map (·.1)).Nodup->e∈L->L.find? (λx=>x.1==e.1)=some e
 | [],_,h=>by cases h
 | x::L,nd,h=>by
  simp only[List.map_cons,List.nodup_cons]at nd;rw[List.find?_cons];rcases aI5.mp h with z | h
  ·rw[z];simp
  ·have:(x.1==e.1)=false:=by
    simp only[beq_eq_false_iff_ne];exact λz=>nd.1 (by rw[z];exact aI1.mpr ⟨e,h,rfl⟩)
   rw[this];exact A4 nd.2 h
theorem valN{k:D}:∀{kvs:List (D×D)},aU kvs k=none->∀p∈kvs,p.1≠k
 | [],_,p,h=>by cases h
 | q::kvs,h,p,hp=>by
  simp only[aU]at h;split at h
  ·cases h
  ·rename_i n;rcases aI5.mp hp with z | hp
   ·rw[z];exact n
   ·exact valN h p hp
theorem EC{k:List Nat}:(L.any λx=>x.1==k)=(L.find? λx=>x.1==k).isSome:=by
 rw[Bool.eq_iff_iff,List.any_eq_true,List.find?_isSome]
theorem VP{x y:Ent}(h:acc.find? (λz=>z.1==x.1)=some y):bY acc x=acc:=by
 unfold bY;rw[EC,h];rfl
theorem VM{x:Ent}(h:acc.find? (λz=>z.1==x.1)=none):bY acc x=acc++[x]:=by
 unfold bY;rw[EC,h];rfl
theorem JO{X:List Ent}(h:∀x∈X,eK c x):xA c (X.foldl bY []):=by
 obtain⟨a,b,_⟩:=fold_add X [] (by simp);exact⟨λe he=>by rcases b e he with z | z;cases z;exact h e z,a⟩
theorem J5(X:List Ent)(x:Ent):(X++[x]).foldl bY []=bY (X.foldl bY []) x:=by rw[List.foldl_append];rfl
def RU:OA:=λds mh Q=>∃(c:aM) (s u:Nat),ds=[.ref s,.ref u]/\iE mh s false (EU c)/\QJ c mh u/\Wc c/\iZ c/\∀M r,FE (λn=>n=s\/n=u) mh M->M[r]? =some (.lst ((rowsOf c).map aN))->Q (.ref r) M
theorem dQ{l:List α}{x:α}(h:l[i]? =some x):l.take (i+1)=l.take i++[x]:=by rw[List.take_add_one,h];rfl
def aEs(c:aM)(s u:Nat)(mh:MH)(m:Nat)(a:dY)(M:MH):Prop:=∃t n L kvs k b d f,a=[some (.ref s),some (.ref u),some (.ref n),some (aN (aC c)),b,d,f]/\m=(aC c).length-t/\FE (λn=>n=s\/n=u) mh M/\mh.length<=n/\M[n]? =some (.bM true kvs)/\w6 M kvs L/\xA c L/\(∃e∈L,e.1.length=t)/\DP c k L=rowsOf c/\(aC c).length<t+k
def aEr(c:aM)(s u:Nat)(mh:MH)(t:Nat)(b:dY)(M:MH):Prop:=∃a,a<(aC c).length-t/\aEs c s u mh a b M
theorem aE5(ds:List D)(mh:MH)(R:DK)(ok:oG mh)(hs:RU ds mh R):eL IX IW (En mh R) (aK ["spans","uppers","rows","every","longer","laid","filling"] ds) mh:=by
 obtain⟨c,s,u,rfl,hd,hu,wc,nr,q⟩:=hs;have sz:=aIf;have wl:=cG c;have sl:s<mh.length:=by rcases hd with h | ⟨ob,h⟩ <;> exact jW h
 have ul:u<mh.length:=by obtain⟨kvs,h,_⟩:=hu;rcases h with h | ⟨ob,h⟩ <;> exact jW h
 simp[eL,aK]
 have U:FE (λn=>n=s\/n=u) mh (mh++[MO.bM true [(D.tup [],D.ref (mh.length+1))],MO.lst []]):=by
  have:=((FE.refl (S:=λn=>n=s\/n=u) (M:=mh)).push (MO.bM true [(D.tup [],D.ref (mh.length+1))])).push (MO.lst []);rw[List.append_assoc]at this;exact this
 have e0:(mh++[MO.bM true [(D.tup [],D.ref (mh.length+1))],MO.lst []])[mh.length]? =some (MO.bM true [(D.tup [],D.ref (mh.length+1))]):=by simp
 have e1:(mh++[MO.bM true [(D.tup [],D.ref (mh.length+1))],MO.lst []])[mh.length+1]? =some (MO.lst []):=by simp
 generalize mh++[MO.bM true [(D.tup [],D.ref (mh.length+1))],MO.lst []]=M0 at U e0 e1⊢;simp[jB];refine⟨s,_,rfl,U.dm hd,?_⟩;rw[t8];show o9 (cJ (bE uC (aA 3) (aA 2))) (eR IX IW) {(En mh R) with nx:=fA IX IW (En mh R)} [some (.ref s),some (.ref u),some (.ref mh.length),some (aN (aC c)),none,none,none] M0
 refine⟨aEs c s u mh,
  ⟨_,0,mh.length,[([],[])],_,9,_,_,_,rfl,rfl,U,aHw _,e0,⟨rfl,⟨_,rfl,e1⟩,trivial⟩,lv0 c,⟨_,aHx,rfl⟩,rfl,by lia⟩,?_⟩
 rintro m K M ⟨t,n,L,kvs,k,a4,a5,O,rfl,rfl,fe,hn,hr,lr,lo,he,P,hk⟩;refine⟨aEr c s u mh t,λ_ _ h=>h,?_⟩;simp;refine⟨n,true,kvs,rfl,.inl hr,⟨(aC c).map λk=>(Sum.inl ((k:Nat):Int):Key),by rw[aN,kL]⟩,?_⟩
 have tle:t<=(aC c).length:=by
  obtain⟨e,he,hl⟩:=he;have:=len_sub (lo.ok e he);lia
 obtain⟨k',rfl⟩:∃k',k=k' +1:=⟨k-1,by lia⟩
 rcases lr.val (aC c) with ⟨A,Q⟩ | ⟨e,r,A,Q,h3⟩
 ·rw[Q];simp;have lt:=find_none lo he A
  have P:DP c k' (level c L)=rowsOf c:=by
   rw[<-P];conv=>rhs;unfold DP
   rw[A]
  have up:=C4 nr lo lt he;simp[eR];have q0:(M++[MO.bM true []])[M.length]? =some (MO.bM true []):=by simp
  have feq:FE (λn=>n=s\/n=u) mh (M++[MO.bM true []]):=fe.push _;have hr1:=aZ (x:=MO.bM true []) hr;have lr1:w6 (M++[MO.bM true []]) kvs L:=lr.fe (FE.refl (S:=nT).push _);have nq:n<M.length:=jW hr;have ml:mh.length<=M.length:=fe.1;have mq:M.length<(M++[MO.bM true []]).length:=by simp
  have fem:FE (λm=>m=s\/m=u\/m=n) M (M++[MO.bM true []]):=FE.refl.push _;generalize hq:M.length=B at*;generalize M++[MO.bM true []]=M1 at*;simp[gF];refine oD (S:=(· =n)) rfl (.inl hr1) rfl λob M2 V hr2=>?_;rw[lr.keys]
  have okX:∀i,∀x∈(L.take i).flatMap (eB c),eK c x:=λi x Z=>by
   obtain⟨e,he,Z⟩:=aLt.mp Z;obtain⟨f,P,rfl⟩:=aI1.mp Z;exact(lo.ok e (aJ9 he)).next P
  refine bQ (λi K G =>(∃a5 O,K=[some (.ref s),some (.ref u),some (.ref n),some (aN (aC c)),some (.ref B),a5,O])/\FE (λm=>m=s\/m=u\/m=n) M G /\G[n]? =some (.gD true kvs ob)/\B<G.length/\∃C,G[B]? =some (.bM true C)/\w6 G C (((L.take i).flatMap (eB c)).foldl bY [])) _ (λ_ _ _ h=>h.2.2.1) ?_ ?_
   ⟨⟨_,_,rfl⟩,fem.trans (V.sub λm h=>.inr (.inr h)),hr2,aIb mq V.1,[],V.bM q0 (by show ¬B=n;lia),trivial⟩
  ·rintro i d K G N hi ⟨⟨a5,O,rfl⟩,fa,hrn,hql,C,W,lq⟩ nx;rw[List.getElem?_map]at hi;obtain⟨e,he2,rfl⟩:=aI3.mp hi;have em:=aI2 he2;have E:=lo.ok e em;have kl:e.1.length<=8:=aIa (len_sub E) wl;have H:FE (λm=>m=s\/m=u\/m=n) mh G :=(fe.sub (T:=λm=>m=s\/m=u\/m=n) λm h=>h.elim .inl λz=>.inr (.inl z)).trans fa;simp[iI];refine⟨c,u,e.1,rfl,hu.fe H,wc,kl,λM3 rf F hrf=>?_⟩;refine⟨c,s,.ref rf,frees c e.1,by simp,aP hrf,F.dm (H.dm hd),List.filter_sublist,λM4 rl I hrl=>?_⟩;dsimp only;rw[aP hrl];simp only[aD];have fb:FE (λm=>m=s\/m=u\/m=n) M M4:=fa.trans ((F.sub λm h=>.inr (.inl h)).trans (I.sub λm h=>h.elim));have k4:M4[B]? =some (.bM true C):=I.bM (F.bM W (by show ¬B=u;lia)) id;have l4:w6 M4 C (((L.take i).flatMap (eB c)).foldl bY []):=(lq.fe F).fe I;have n4:M4[n]? =some (.gD true kvs ob):=I.gD (F.gD hrn);have q4:B<M4.length:=jW k4;have nxt:(L.take (i+1)).flatMap (eB c)=(L.take i).flatMap (eB c)++eB c e:=by rw[dQ he2,List.flatMap_append];simp
   refine bQ (λj K y=>(∃O,K=[some (.ref s),some (.ref u),some (.ref n),some (aN (aC c)),some (.ref B),some (aN e.1),O])/\FE (λm=>m=s\/m=u\/m=n) M y/\y[n]? =some (.gD true kvs ob)/\y[rl]? =some (.lst ((fills c (frees c e.1)).map aN))/\∃C,y[B]? =some (.bM true C)/\w6 y C (((L.take i).flatMap (eB c)++(eB c e).take j).foldl bY [])) _ (λ_ _ _ h=>aP h.2.2.2.1) ?_ ?_
    ⟨⟨_,rfl⟩,fb,n4,hrl,C,k4,by simpa using l4⟩
   ·rintro j d K y N5 hj ⟨⟨O,rfl⟩,fc,n5,r5,v,k5,l5⟩ nx5;rw[List.getElem?_map]at hj;obtain⟨f,hf5,rfl⟩:=aI3.mp hj;have fm:=aI2 hf5;obtain⟨f0,fs,fp⟩:=yS fm;have fr:∀w∈f,w∈aC c/\w∉e.1/\∀u∈ups c w,u∈e.1:=λw J=>rQ.mp (fs.subset J);have kw:∀w∈e.1,w∈aC c:=λw J=>by obtain⟨p,hp⟩:=E.key;rw[hp]at J;exact(aIy.mp J).1
    have knd:e.1.Nodup:=by obtain⟨p,hp⟩:=E.key;rw[hp];exact(dI c).filter _
    have fnd:f.Nodup:=fs.nodup ((dI c).filter _);have fl:f.length<=8:=aIa (gW fnd λw J=>(fr w J).1) wl;have r8:=E.RX.2;have hx5:(eB c e)[j]? =some (gQ c e.1 f,e.2++[f]):=by unfold eB;rw[List.getElem?_map,hf5];rfl
    have okj:∀j,∀x∈(L.take i).flatMap (eB c)++(eB c e).take j,eK c x:=λj x Z=>by
     rcases aI9.mp Z with h | h
     ·exact okX i x h
     ·obtain⟨g,hg,rfl⟩:=aI1.mp (aJ9 h);exact E.next hg
    have lo5:=JO (okj j);have ln5:v.length<=256:=by rw[l5.len];exact lo5.len
    simp[iH,aN];have ea:List.map nD e.1++List.map nD f=(e.1++f).map nD:=by rw[List.map_append]
    have nd2:(e.1++f).Nodup:=aL8.mpr ⟨knd,fnd,λa ha b hb z=>(fr b hb).2.1 (by rw[<-z];exact ha)⟩;refine⟨⟨v,k5⟩,by lia,_,rfl,by simp;lia,by rw[ea];exact uU _,λgs pm sd=>?_⟩;rw[ea]at pm
    have eg:=yD (m:=gQ c e.1 f) (λw=>by
     rw[nC,List.mem_append]
     exact⟨λh=>⟨h.elim (kw w) λz=>(fr w z).1,h⟩,λh=>h.2⟩) nd2 ((uO c).filter _) pm sd
    subst eg;rw[aP (bH _ _)];simp only[aD];have l6:w6 y kvs L:=lr.fe fc
    rcases l6.val e.1 with ⟨A,_⟩ | ⟨e',r,A,Q,h3⟩
    ·rw[A4 lo.nd em]at A;cases A
    rw[A4 lo.nd em]at A;cases A;refine⟨n,kvs,e.1.map λk=>(Sum.inl ((k:Nat):Int):Key),.ref r,rfl,.inr ⟨ob,aZ n5⟩,by rw[<-kL],Q,?_⟩;refine⟨by lia,(MD (aZ (aZ h3)) (bH _ _)).mpr ⟨by simp;lia,?_⟩⟩
    have kn:gQ c e.1 f≠[]:=λz=>by
     obtain⟨w,J⟩:=aKl f f0;have:w∈gQ c e.1 f:=nC.mpr ⟨(fr w J).1,.inr J⟩;rw[z]at this;cases this
    have fd:=(fc.push (MO.lst ((gQ c e.1 f).map nD))).push (MO.lst [D.tup (f.map nD)]);have fd:=fd.push (MO.lst (e.2.map aN++[D.tup (f.map nD)]));have fn:FE nT y (y++[MO.lst ((gQ c e.1 f).map nD)]++[MO.lst [D.tup (f.map nD)]]++[MO.lst (e.2.map aN++[D.tup (f.map nD)])]):=((FE.refl.push _).push _).push _;have hv:=bH (y++[MO.lst ((gQ c e.1 f).map nD)]++[MO.lst [D.tup (f.map nD)]]) (MO.lst (e.2.map aN++[D.tup (f.map nD)]));have lv:(y++[MO.lst ((gQ c e.1 f).map nD)]++[MO.lst [D.tup (f.map nD)]]).length=y.length+2:=by simp
    rw[lv]at hv⊢;generalize y++[MO.lst ((gQ c e.1 f).map nD)]++[MO.lst [D.tup (f.map nD)]]++[MO.lst (e.2.map aN++[D.tup (f.map nD)])]=M8 at fd fn hv⊢;have k8:=fn.bM k5 id;have l8:=l5.fe fn;have n8:=fn.gD n5;have X :=fn.lst r5
    have stp:(((L.take i).flatMap (eB c)++(eB c e).take (j+1)).foldl bY [])=bY (((L.take i).flatMap (eB c)++(eB c e).take j).foldl bY []) (gQ c e.1 f,e.2++[f]):=by
     rw[dQ hx5,<-List.append_assoc,J5]
    refine⟨v,k8,(gQ c e.1 f).map λk=>(Sum.inl ((k:Nat):Int):Key),by rw[<-kL],by simpa using kn,by lia,λd l=>?_,λl=>?_⟩
    ·refine nx5 _ _ ⟨⟨_,rfl⟩,fd,n8,X,v,k8,?_⟩;rw[stp]
     rcases l8.val (gQ c e.1 f) with ⟨_,z⟩ | ⟨e',r',z,_,_⟩
     ·have l:aU v (aN (gQ c e.1 f))=some d:=l;rw[z]at l;cases l
     ·rw[VP z];exact l8
    ·have l:aU v (aN (gQ c e.1 f))=none:=l;have Y:∀m o,M8[m]? =some o->(∀t k,o≠ .bM t k)->B≠m:=λm o A Q z=>by rw[<-z,k8]at A;cases A;exact Q _ _ rfl
     rcases l8.val (gQ c e.1 f) with ⟨z,_⟩ | ⟨e',r',_,z,_⟩
     ·refine nx5 _ _ ⟨⟨_,rfl⟩,fd.set (by lia) _,get_set n8 (Y _ _ n8 λ_ _ z=>by cases z),get_set X (Y _ _ X λ_ _ z=>by cases z),_,cS _ k8,?_⟩;rw[stp,VM z,show D.tup ((gQ c e.1 f).map nD)=aN (gQ c e.1 f) from rfl,CN _ (valN l)];refine w6.app (e:=(gQ c e.1 f,e.2++[f])) ?_ (l8.set _ k8);refine get_set ?_ (Y _ _ hv λ_ _ z=>by cases z);rw[hv,List.map_append];rfl
     ·rw[z]at l;cases l
   ·rintro K y ⟨⟨O,rfl⟩,fc,n5,r5,v,k5,l5⟩;refine nx _ _ ⟨⟨_,_,rfl⟩,fc,n5,jW k5,v,k5,?_⟩;rw[nxt];have e9:(eB c e).take ((fills c (frees c e.1)).map aN).length=eB c e:=List.take_of_length_le (by unfold eB;simp);rw[e9]at l5;exact l5
  ·rintro K G ⟨⟨a5,O,rfl⟩,fa,hrn,hql,C,W,lq⟩;rw[List.take_of_length_le (by simp)]at lq;simp[gE]
   have H:FE (λn=>n=s\/n=u) mh G :=fe.over fa λm hm h=>by
    rcases h with h | h | h
    ·exact .inl h
    ·exact .inr h
    ·lia
   exact⟨_,by lia,t+1,B,level c L,C,k',_,_,_,rfl,rfl,H,ml,W,lq,lo.level,up,P,by lia⟩
 ·rw[Q];simp[fA];have P:e.2=rowsOf c:=by rw[<-P];unfold DP;rw[A]
  refine⟨n,kvs,(aC c).map λk=>(Sum.inl ((k:Nat):Int):Key),.ref r,rfl,.inl hr,by rw[aN,kL],Q,aQ (q _ _ fe ?_)⟩;rw[<-P];exact h3
theorem PN{g:WG}{t:WT}{n o:WE}{ρe:dY}{St:MH->Prop}(h:Nat->List (D×D)->MH->Prop)(ds:List D)(j:∀i a mh,h i a mh->St mh)
  (s:∀i d a mh (N:List (D×D)->MH->Prop),ds[i]? =some d->h i a mh->(∀c mh',h (i+1) c mh' ->N c mh')->g d ρe λf=>t f mh λb l=>if b=true then n f l λk q=>o f q λy r=>(∃key,k=aW key)/\N (putD a k y) r else N a l)
  (hd:∀a mh,h ds.length a mh->Q (.ref mh.length) (mh++[.bM false a])) {a:List (D×D)}  (h0:h 0 a mh):nP g t n o ρe St Q ds a mh:=by
 have go:∀(k i:Nat),i+k=ds.length->∀a mh,h i a mh->nP g t n o ρe St Q (ds.drop i) a mh:=by
  intro k
  induction k with
  | zero=>
   intro i hi a mh p;have e:i=ds.length:=by lia
   subst e;rw[List.drop_of_length_le (Nat.le_refl _)];exact⟨j _ _ _ p,hd a mh p⟩
  | succ k ih=>
   intro i hi a mh p;have m:i<ds.length:=by lia
   rw[List.drop_eq_getElem_cons m];exact⟨j _ _ _ p,s i ds[i] a mh (λc mh' =>nP g t n o ρe St Q (ds.drop (i+1)) c mh') (by simp[m]) p λc mh' u =>ih (i+1) (by lia) c mh' u⟩
 have:=go ds.length 0 (by lia) a mh h0;simpa using this
def nums(l:List Nat):List D:=l.map λk=>.int (k:Nat)
structure Ends(b:Nat)(M:MH)(kvs:List (D×D))(f:Int->List Nat):Prop where
 some:∀c d,aU kvs (.int c)=some d->∃r,d= .ref r/\b<=r/\M[r]? =some (.lst (nums (f c)))/\f c≠[]
 none:∀c,aU kvs (.int c)=none->f c=[]
 ne:∀c c' r,aU kvs (.int c)= .some (.ref r)->aU kvs (.int c')= .some (.ref r)->c=c'
 key:∀p∈kvs,∃c,p.1= .int c
 nd:(kvs.map (·.1)).Nodup
theorem YU{k v:D}(h:(kvs.map (·.1)).Nodup):((putD kvs k v).map (·.1)).Nodup:=by
 rw[yI];split
 ·exact h
 ·rename_i n;rw[List.nodup_append];refine⟨h,by simp,λa d c b=>?_⟩;simp at b;subst b;rintro rfl;obtain⟨p,f,e⟩:=aI1.mp d;exact n ⟨p,f,e⟩
def EG(f:Int->List Nat)(c:Int)(k:Nat):Int->List Nat:=λx=>if x=c then f x++[k] else f x
variable{f:Int->List Nat}
theorem RJ{QN:MH->Prop}{c:Int}{k:Nat}(E:Ends b M kvs f)(N:M[n]? =some (.bM false kvs))(Q:b<=M.length)(R:n<b)(hl:kvs.length<=1000)(S:∀c,(f c).length<=1000)
  (q:∀A i,A[n]? =some (.bM false i)->Ends b A i (EG f c k)->i.length<=kvs.length+1->M.length<=A.length->(∀(m:Nat) (o:MO),M[m]? =some o->m<b->m≠n->A[m]? =some o)->(∀j,pN j M->j.length<=n->pN j A)->QN A):
  (∃kvs,M[n]? =some (MO.bM false kvs))/\∃kvs,(M++[MO.lst []])[n]? =some (MO.bM false kvs)/\(∃x,D.int c=aW x)/\kvs.length<sizeLine/\
   (∀v,aU kvs (D.int c)=some v->OG (M++[MO.lst []]) "list" v/\d8 v [D.int (k:Nat)] (M++[MO.lst []]) λ_ t=>QN t)/\
   (aU kvs (D.int c)=none->OG (List.set (M++[MO.lst []]) n (MO.bM false (putD kvs (D.int c) (D.ref (List.length M))))) "list" (D.ref (List.length M))/\
    d8 (D.ref (List.length M)) [D.int (k:Nat)] (List.set (M++[MO.lst []]) n (MO.bM false (putD kvs (D.int c) (D.ref (List.length M))))) λ_ t=>QN t):=by
 have sz:=aIf;have u:=aZ (x:=MO.lst []) N;refine⟨⟨_,N⟩,kvs,u,⟨.inl c,rfl⟩,by lia,λv e=>?_,λe=>?_⟩
 ·obtain⟨r,rfl,T,U,V⟩:=E.some c v e;have w:=aZ (x:=MO.lst []) U;have W:=S c;refine⟨⟨rfl,_,w⟩,(pD w _).mpr ⟨by simp[nums];lia,q _ kvs (get_set u (by lia)) ?_ (by lia) (by simp) (λm o I X Y=>get_set (aZ I) (by lia)) λj p l=>(p.push _).set (by lia) _⟩⟩;refine⟨λc' d' a =>?_,λc' a =>?_,E.ne,E.key,E.nd⟩
  ·obtain⟨F,rfl,y,g,s⟩:=E.some c' d' a;by_cases d:c' =c
   ·subst d;rw[e]at a;cases a;refine⟨r,rfl,T,?_,by simp[EG]⟩;rw[cS _ w];simp[EG,nums]
   ·have Z:r≠F :=λz=>d (E.ne c' c r (by rw[z];exact a) e);exact⟨F,rfl,y,by rw[List.getElem?_set_ne Z];simp only[EG,if_neg d];exact aZ g,by simp only[EG,if_neg d];exact s⟩
  ·have d:c' ≠c:=λz=>by rw[z,e]at a;cases a
   simp only[EG,if_neg d];exact E.none c' a
 ·have h0:(List.set (M++[MO.lst []]) n (MO.bM false (putD kvs (D.int c) (D.ref (List.length M)))))[M.length]? =some (.lst []):=by
   rw[List.getElem?_set_ne (by lia)];simp
  have fc:=E.none c e;refine⟨⟨rfl,_,h0⟩,(pD h0 _).mpr ⟨by simp;lia,q _ (putD kvs (.int c) (.ref M.length)) (get_set (cS _ u) (by lia)) ?_ (CP _ _ _) (by simp) (λm o I X Y=>get_set (get_set (aZ I) (by lia)) (by lia)) λj p l=>((p.push _).set l _).set (by lia) _⟩⟩;refine⟨λc' d' a =>?_,λc' a =>?_,λO P r B C=>?_,λp hp=>?_,YU E.nd⟩
  ·by_cases d:c' =c
   ·subst d;rw[lJ]at a;cases a;refine⟨_,rfl,Q,?_,by simp[EG]⟩;rw[cS _ h0];simp[EG,nums,fc]
   ·have J:D.int c' ≠D.int c:=λz=>d (D.int.inj z);rw[cK _ _ J]at a;obtain⟨F,rfl,y,g,s⟩:=E.some c' d' a;have lt:=(aHv.mp g).1;exact⟨F,rfl,y,by rw[List.getElem?_set_ne (by lia),List.getElem?_set_ne (by lia)];simp only[EG,if_neg d];exact aZ g,by simp only[EG,if_neg d];exact s⟩
  ·have d:c' ≠c:=λz=>by rw[z,lJ]at a;cases a
   have J:D.int c' ≠D.int c:=λz=>d (D.int.inj z);rw[cK _ _ J]at a;simp only[EG,if_neg d];exact E.none c' a
  ·have lo:∀K L,aU kvs (.int K)= .some (.ref L)->L<M.length:=λK L h=>by
    obtain⟨F,er,_,g,_⟩:=E.some K _ h;cases er;exact(aHv.mp g).1
   by_cases G:O=c <;> by_cases H:P=c
   ·rw[G,H]
   ·subst G;rw[lJ]at B;cases B;rw[cK _ _ λz=>H (D.int.inj z)]at C;exact absurd (lo _ _ C) (aJc _)
   ·subst H;rw[lJ]at C;cases C;rw[cK _ _ λz=>G (D.int.inj z)]at B;exact absurd (lo _ _ B) (aJc _)
   ·rw[cK _ _ λz=>G (D.int.inj z)]at B;rw[cK _ _ λz=>H (D.int.inj z)]at C;exact E.ne O P r B C
  ·rcases MG hp with h | h
   ·exact E.key p h
   ·exact⟨c,h.1⟩
theorem XD{b n i1 i2 i3:Nat}{e:dY}{E0:i5}{c:Int}{k:Nat}(E:Ends b M kvs f)(i:M[n]? =some (.bM false kvs))(j:b<=M.length)(h:n<b)(l:kvs.length<=1000)(p:∀c,(f c).length<=1000)
  (r1:e[i1]? = .some (.some (.ref n))) (r2:e[i2]? = .some (.some (.int c))) (r3:e[i3]? = .some (.some (.int (k:Nat))))
  (q:∀g a,g[n]? =some (.bM false a)->Ends b g a (EG f c k)->a.length<=kvs.length+1->M.length<=g.length->(∀(m:Nat) (o:MO),M[m]? =some o->m<b->m≠n->g[m]? =some o)->(∀d,pN d M->d.length<=n->pN d g)->E0.nx e g):mY (QQ "list" d8 (B8 (aA i1) (aA i2) (oI aI)) (aB (aA i3) aI)) E0 e M:=by
 simp[aA,r1,r2,r3];exact RJ (QN:=λm=>E0.nx e m) E i j h l p q
theorem Ends.keep{M a :MH}(E:Ends b M kvs f)(h:∀(m:Nat) (o:MO),b<=m->M[m]? = .some o->a[m]? = .some o):Ends b a kvs f:=
 ⟨λc d e=>by obtain⟨r,i,g,j,k⟩:=E.some c d e;exact⟨r,i,g,h r _ g j,k⟩,E.none,E.ne,E.key,E.nd⟩
theorem t7:∀{kvs:List (D×D)} {p:D×D},(kvs.map (·.1)).Nodup->p∈kvs->aU kvs p.1= .some p.2
 | [],p,_,h=>by simp at h
 | q::kvs,p,nd,h=>by
  simp only[List.map_cons,List.nodup_cons]at nd;rcases aI5.mp h with rfl | h
  ·simp[aU]
  ·have ne:q.1≠p.1:=λz=>nd.1 (by rw[z];exact aI1.mpr ⟨p,h,rfl⟩);have:=t7 nd.2 h;simp only[aU];rw[if_neg ne];exact this
theorem AI:∀{kvs:List (D×D)} {k d:D},aU kvs k= .some d->(k,d)∈kvs
 | [],k,d,h=>by simp[aU]at h
 | q::kvs,k,d,h=>by
  simp only[aU]at h;split at h
  ·rename_i e;cases h;cases q;simp at e;subst e;simp
  ·exact aI0 _ (AI h)
def nA(f:Int->List Nat)(x i:Nat):Int->List Nat:=if x=0 then f else EG f (x:Nat) i
def EI(c:aM):Nat->Int->List Nat
 | 0=>λ_=>[]
 | i+1=>nA (nA (EI c i) (c.A.getD i 0) i) (c.B.getD i 0) i
def WC(c:aM)(w i:Nat):List Nat:=(List.range i).filter (xN c w)
structure Lk(l o:List Nat):Prop where
 hd:l.headD 0=o.headD 0
 ls:l.getLastD 0=o.getLastD 0
 em:l=[]↔o=[]
 me:∀x,x∈l↔x∈o
variable{o:List Nat}
theorem Lk.snoc(h:Lk l o)(i:Nat):Lk (l++[i]) (o++[i]):=by
 refine⟨?_,by simp,by simp,λx=>by simp[h.me x]⟩
 cases l with
 | nil=>have:=h.em.mp rfl;subst this;rfl
 | cons a l=>
  cases o with
  | nil=>have:=h.em.mpr rfl;cases this
  | cons b o=>exact h.hd
theorem Lk.again(h:Lk (l++[i]) o):Lk (l++[i]++[i]) o:=by
 refine⟨?_,?_,?_,λx=>?_⟩
 ·rw[<-h.hd];cases l <;> rfl
 ·rw[<-h.ls];simp
 ·have:=h.em;simp at this⊢;exact this
 ·rw[<-h.me x];simp
theorem WB{c:aM}(g:Wc c){w:Nat}(d:w≠0):∀i,i<=c.A.length->Lk (EI c i (w:Nat)) (WC c w i)
 | 0,_=>⟨rfl,rfl,by simp[EI,WC],λx=>by simp[EI,WC]⟩
 | i+1,hi=>by
  have a:=WB g d i (by lia);have j:c.A[i]? =some (c.A.getD i 0):=by rw[List.getD_eq_getElem?_getD,List.getElem?_eq_getElem (show i<c.A.length by lia)];rfl
  have k:c.B[i]? =some (c.B.getD i 0):=by rw[List.getD_eq_getElem?_getD,List.getElem?_eq_getElem (show i<c.B.length by rw[<-g.l];lia)];rfl
  have e:WC c w (i+1)=if xN c w i then WC c w i++[i] else WC c w i:=by
   unfold WC;rw[List.range_succ,List.filter_append];by_cases h:xN c w i <;> simp[h]
  have m:xN c w i=(decide (c.A.getD i 0=w) || decide (c.B.getD i 0=w)):=by
   have q:∀x:Nat,(some x==some w)=decide (x=w):=λx=>by by_cases h:x=w <;> simp[h]
   unfold xN;rw[j,k,q,q]
  have one:∀(f:Int->List Nat) (x:Nat),nA f x i (w:Nat)=if x=w then f (w:Nat)++[i] else f (w:Nat):=λf x=>by
   unfold nA EG;by_cases b:x=w
   ·subst b;simp[d]
   ·have:¬((w:Int)=(x:Int)):=by lia
    by_cases h0:x=0 <;> simp[h0,b,this] <;> intro h <;> exact absurd h.symm d
  rw[e,m];show Lk (nA (nA (EI c i) (c.A.getD i 0) i) (c.B.getD i 0) i (w:Nat)) _;rw[one,one];by_cases b:c.A.getD i 0=w <;> by_cases n:c.B.getD i 0=w <;> simp only[b,n,if_true,if_false,decide_true,decide_false,Bool.or_true,Bool.true_or,Bool.or_self,Bool.false_eq_true]
  ·exact(a.snoc i).again
  ·exact a.snoc i
  ·exact a.snoc i
  ·exact a
theorem aCy(c:aM)(w i:Nat):(WC c w i).Pairwise (· < ·):=(aL3).filter _
theorem zX{c:aM}(d:Wc c){x:Int}:∀i,i<=c.A.length->EI c i x≠[]->∃w:Nat,x=(w:Nat)/\1<=w/\w<=8
 | 0,_,h=>absurd rfl h
 | i+1,hi,h=>by
  have g:=zX d (x:=x) i (by lia)
  have j:c.A.getD i 0<=8:=by
   rw[List.getD_eq_getElem?_getD,List.getElem?_eq_getElem (show i<c.A.length by lia)];exact d.a _ (aLs _)
  have k:c.B.getD i 0<=8:=by
   rw[List.getD_eq_getElem?_getD,List.getElem?_eq_getElem (show i<c.B.length by rw[<-d.l];lia)];exact d.b _ (aLs _)
  have one:∀(f:Int->List Nat) (y:Nat),y<=8->nA f y i x≠[]->f x≠[]\/∃w:Nat,x=(w:Nat)/\1<=w/\w<=8:=λf y m h=>by
   unfold nA EG at h;by_cases h0:y=0
   ·rw[if_pos h0]at h;exact .inl h
   ·rw[if_neg h0]at h;by_cases e:x=(y:Nat)
    ·exact .inr ⟨y,e,by lia,m⟩
    ·simp only[if_neg e]at h;exact .inl h
  rcases one _ _ k h with h | h
  ·rcases one _ _ j h with h | h
   ·exact g h
   ·exact h
  ·exact h
theorem vD(h:∀x,(f x).length<=b)(y i:Nat)(x:Int):(nA f y i x).length<=b+1:=by
 have:=h x;unfold nA EG;split
 ·lia
 ·dsimp only;split <;> simp <;> lia
theorem E9(c:aM):∀i x,(EI c i x).length<=2*i
 | 0,x=>by simp[EI]
 | i+1,x=>by
  have:=vD (vD (E9 c i) (c.A.getD i 0) i) (c.B.getD i 0) i x;exact aIa this (by lia)
theorem ER:∀{o:List Nat},o.Pairwise (· < ·)->∀x∈o,x<=o.getLastD 0
 | [],_,x,h=>by cases h
 | [a],_,x,h=>by simp at h;subst h;exact aHw _
 | a::b::o,pw,x,h=>by
  obtain⟨d,c⟩:=aKv.mp pw;have e:(a::b::o).getLastD 0=(b::o).getLastD 0:=by simp
  rw[e];rcases aI5.mp h with z | h
  ·rw[z];exact aIa (aJ6 (d b aHx)) (ER c b aHx)
  ·exact ER c x h
theorem Q8(h:Lk l o)(f:o.Pairwise (· < ·)):1<(ST.bN [] (l.map λk=>(Sum.inl ((k:Nat):Int):Key))).length↔o.headD 0<o.getLastD 0:=by
 generalize c:ST.bN [] (l.map λk=>(Sum.inl ((k:Nat):Int):Key))=K;have nd:K.Nodup:=by rw[<-c];exact lO (by simp)
 have me:∀k:Nat,(Sum.inl (k:Int):Key)∈K↔k∈o:=λk=>by
  rw[<-c,<-h.me k,ST.lQ];simp;constructor
  ·rintro⟨a,d,p⟩;have:a=k:=by lia
   rw[<-this];exact d
  ·intro h;exact⟨k,h,rfl⟩
 have g:∀k∈K,∃n:Nat,k=Sum.inl (n:Int):=λk hk=>by
  rw[<-c,ST.lQ]at hk;simp at hk;obtain⟨a,_,e⟩:=hk;exact⟨a,e.symm⟩
 cases o with
 | nil=>
  have:K=[]:=by
   cases K with
   | nil=>rfl
   | cons k K=>
    obtain⟨n,rfl⟩:=g k aHx;have:=(me n).mp aHx;cases this
  rw[this];simp
 | cons a o=>
  have i:(a::o).getLastD 0∈a::o:=by
   rw[List.getLastD_eq_getLast?]
   cases hr:(a::o).getLast? with
   | none=>simp at hr
   | some y=>exact List.mem_of_getLast? hr
  generalize q:(a::o).getLastD 0=b at i;have top:∀x∈a::o,x<=b:=λx r=>by rw[<-q];exact ER f x r
  show _↔a<b;constructor
  ·intro d;refine aIl λp=>?_
   have:=gW nd (m:=[Sum.inl (a:Int)]) λk hk=>by
    obtain⟨n,rfl⟩:=g k hk;have j:=(me n).mp hk;have:=top n j;rcases aI5.mp j with rfl | h3
    ·simp
    ·have:=(aKv.mp f).1 n h3;lia
   simp at this;lia
  ·intro d
   have:=gW (l:=[(Sum.inl (a:Int):Key),Sum.inl (b:Int)]) (m:=K) (by simp;lia) λk hk=>by
    simp at hk;rcases hk with rfl | rfl
    ·exact(me a).mpr aHx
    ·exact(me b).mpr i
   simp at this;lia
theorem HC(h:l≠[]):pP (nums l) 0=some (nD (l.headD 0)):=by
 cases l with
 | nil=>exact absurd rfl h
 | cons a l=>exact aEh _ _
theorem HB(h:l≠[]):pP (nums l) (-1)=some (nD (l.getLastD 0)):=by
 have e:=aJq h;generalize l.getLast h=x at e;generalize l.dropLast=m at e;subst e;unfold nums;rw[List.map_append];have:=UP (m.map λk=>D.int (k:Nat)) (nD x);simpa[nD] using this
theorem putL{k v:D}(h:k∉kvs.map (·.1)):putD kvs k v=kvs++[(k,v)]:=CN v λp a e=>h (by rw[<-e];exact aI1.mpr ⟨p,a,rfl⟩)
def spE(s:Sp):D×D:=(nD s.w,spT s)
def RM:OA:=λds mh Q=>∃c,ds=[aN c.A,aN c.B]/\Wc c/\∀M n,pN mh M->mh.length<=n->M[n]? =some (.bM false (EU c))->Q (.ref n) M
theorem nL{α c:Type}{p:α->Bool}{f:α->Option c}:∀(l:List α),(∀x∈l,p x=false->f x=none)->(l.filter p).filterMap f=l.filterMap f
 | [],_=>rfl
 | a::l,h=>by
  have b:=nL (p:=p) (f:=f) l λx d=>h x (aI0 _ d);rw[List.filter_cons,List.filterMap_cons]
  cases hp:p a with
  | true=>rw[if_pos rfl,List.filterMap_cons,b]
  | false=>rw[if_neg (by simp),b,h a List.mem_cons_self hp]
theorem aDs(ds:List D)(mh:MH)(R:DK)(ok:oG mh)(hs:RM ds mh R):k9 (En mh R) (aK ["above","below","columns","column","wires","wire"] ds) mh:=by
 obtain⟨c,rfl,K,q⟩:=hs;have sz:=aIf;have l2:=K.l2;have ll:=K.l;simp[k9,aK,B7,pR,aN];refine⟨_,_,⟨rfl,rfl⟩,_,rfl,_,rfl,by simp;lia,by simp;lia,?_⟩;have e0:(mh++[MO.bM false []])[mh.length]? =some (.bM false []):=by simp
 have p0:pN mh (mh++[MO.bM false []]):=⟨_,rfl⟩
 have g0:(mh++[MO.bM false []]).length=mh.length+1:=by simp
 generalize mh++[MO.bM false []]=mh0 at e0 p0 g0⊢
 refine bQ (λi W M=>(∃X Y Z,W=[some (aN c.A),some (aN c.B),some (.ref mh.length),X,Y,Z])/\pN mh M/\mh.length+1<=M.length/\∃g,M[mh.length]? =some (.bM false g)/\g.length<=2*i/\Ends (mh.length+1) M g (EI c i)) _ (λ_ _ _ _=>⟨rfl,rfl⟩) ?_ ?_
  ⟨⟨_,_,_,rfl⟩,p0,by lia,[],e0,by simp,⟨λc d h=>by simp[aU]at h,λc _=>rfl,λc c' r h=>by simp[aU]at h,λp u=>by simp at u,by simp⟩⟩
 ·rintro i d W M N hi ⟨⟨X,Y,Z,rfl⟩,J,O,g,hk,kl,E⟩ nx;have P:=(aHv.mp hi).1;rw[gA,dZ]at P;simp at P;obtain⟨d,hd,rfl⟩:=oC hi;obtain⟨x,y,S,hy,rfl⟩:=iF hd;rw[List.getElem?_map]at S hy;obtain⟨a,ha,rfl⟩:=aI3.mp S;obtain⟨b,hb,rfl⟩:=aI3.mp hy;have ga:c.A.getD i 0=a:=by rw[List.getD_eq_getElem?_getD,ha];rfl
  have gb:c.B.getD i 0=b:=by rw[List.getD_eq_getElem?_getD,hb];rfl
  have b1:=E9 c i;have stp:EI c (i+1)=nA (nA (EI c i) a i) b i:=by show nA (nA (EI c i) (c.A.getD i 0) i) (c.B.getD i 0) i=_;rw[ga,gb]
  simp[oM,aX,nF]
  have one:∀(x:Nat) (M:MH) (g:List (D×D)) (f:Int->List Nat) (E0:i5),pN mh M->mh.length+1<=M.length->M[mh.length]? =some (.bM false g)->g.length<=900->(∀x,(f x).length<=900)->Ends (mh.length+1) M g f->
    (∀n C,pN mh n ->mh.length+1<=n.length->n[mh.length]? =some (.bM false C)->C.length<=g.length+1->Ends (mh.length+1) n C (nA f x i)->E0.nx [some (aN c.A),some (aN c.B),some (.ref mh.length),some (nD i),some (.tup [nD a,nD b]),some (nD x)] n)->
    jR E0 [some (aN c.A),some (aN c.B),some (.ref mh.length),some (nD i),some (.tup [nD a,nD b]),some (nD x)] M:=by
   intro x M g f E0 J O hk kl fl E q;unfold jR;rw[aC0,aBu,aBw,L6];simp only[List.getElem?_cons_succ,List.getElem?_cons_zero,Option.join_some,aD,s_c];unfold nD;rw[L8];simp only[bX,aD];by_cases h0:x=0
   ·subst h0;exact q M g J O hk (by lia) (by simpa[nA] using E)
   ·rw[if_pos (by simpa using h0)];refine XD (i1:=2) (i2:=5) (i3:=3) (k:=i) E hk O (by lia) (by lia) (λc=>by have:=fl c;lia) rfl rfl rfl λn C T U s h3 h4 h5=>?_;have:=q n C (h5 _ J (aHw _)) (by lia) T s (by simpa[nA,h0] using U);exact this
  have o2:=vD b1 a i;refine one a M g _ _ J O hk (by lia) (λx=>by have:=b1 x;lia) E λM2 k2 px2 gl2 s kl2 E2=>?_;refine one b M2 k2 _ _ px2 gl2 s (by lia) (λx=>by have:=o2 x;lia) E2 λM3 k3 px3 gl3 h3 kl3 E3=>?_;exact nx _ _ ⟨⟨_,_,_,rfl⟩,px3,gl3,k3,h3,by lia,by rw[stp];exact E3⟩
 ·rintro W M ⟨⟨X,Y,Z,rfl⟩,J,O,g,hk,kl,E⟩;have le:(jN 0 (jQ (c.A.map nD) (c.B.map nD))).length=c.A.length:=by rw[gA,dZ];simp;lia
  rw[le]at kl E;have lk:∀w,w≠0->Lk (EI c c.A.length (w:Nat)) (tI c w):=λw F=>WB K F _ (aHw _);simp[pQ,QR]
  obtain⟨ks,t⟩:∃ks:List Nat,g.map (·.1)=ks.map nD:=by
   refine⟨g.map λp=>(match p.1 with | .int i=>i.toNat | _=>0),?_⟩;rw[List.map_map];apply aKo;intro p u;obtain⟨x,S⟩:=E.key p u;have hv:=t7 E.nd u;rw[S]at hv;obtain⟨r,_,_,_,j⟩:=E.some x _ hv;obtain⟨w,rfl,_⟩:=zX K _ (aHw _) j;simp[S,nD]
  have knd:ks.Nodup:=by
   have:=E.nd;rw[t]at this;exact(aLq.mp this).imp λh z=>h (by rw[z])
  have G:∀w,w∈ks↔w∈(List.range' 1 8).filter λw=>!(tI c w).isEmpty:=λw=>by
   have V:w∈ks↔∃p∈g,p.1=nD w:=by
    constructor
    ·intro h;have:nD w∈g.map (·.1):=by rw[t];exact aI1.mpr ⟨w,h,rfl⟩
     obtain⟨p,u,e⟩:=aI1.mp this;exact⟨p,u,e⟩
    ·rintro⟨p,u,e⟩;have:nD w∈ks.map nD:=by rw[<-t,<-e];exact aI1.mpr ⟨p,u,rfl⟩
     obtain⟨v,hv,e⟩:=aI1.mp this;rw[<-fL e];exact hv
   rw[V,List.mem_filter];constructor
   ·rintro⟨p,u,e⟩;have hv:=t7 E.nd u;rw[e]at hv;obtain⟨r,_,_,_,j⟩:=E.some _ _ hv;obtain⟨v,e2,v1,v8⟩:=zX K _ (aHw _) j;have:w=v:=by lia
    subst this;refine⟨by simp[List.mem_range'_1];lia,?_⟩;have:=(lk w (by lia)).em
    cases h:tI c w with
    | nil=>exact absurd (this.mpr h) j
    | cons _ _=>rfl
   ·rintro⟨T,s⟩;simp[List.mem_range'_1]at T
    have j:EI c c.A.length (w:Nat)≠[]:=λz=>by
     have:=(lk w (by lia)).em.mp z;rw[this]at s;cases s
    cases hv:aU g (.int (w:Nat)) with
    | none=>exact absurd (E.none _ hv) j
    | some d=>exact⟨_,AI hv,rfl⟩
  generalize H:((List.range' 1 8).filter λw=>!(tI c w).isEmpty)=ws at G;have I:ws.Pairwise (· < ·):=by rw[<-H];exact List.Pairwise.filter _ List.pairwise_lt_range'
  have wb:∀w∈ws,1<=w/\w<=8:=λw F=>by
   rw[<-H,List.mem_filter]at F;have:=F.1;simp[List.mem_range'_1]at this;lia
  have spn:ws.filterMap (λw=>gL w (tI c w))=spans c:=by
   rw[<-H];refine nL _ λw _ h=>?_
   have:tI c w=[]:=by
    cases e:tI c w with
    | nil=>rfl
    | cons _ _=>rw[e]at h;cases h
   rw[this];rfl
  refine⟨mh.length,false,g,rfl,hk,by lia,by rw[t];exact uU _,λfs pm sd=>?_⟩;rw[t]at pm;have eg:=yD G knd I pm sd;subst eg;rw[aP (bH _ _)];simp only[aD];have hl1:=bH M (MO.lst (ws.map nD));have hk1:=aZ (x:=MO.lst (ws.map nD)) hk;have U:Ends (mh.length+1) (M++[MO.lst (ws.map nD)]) g (EI c c.A.length):=E.keep λm o T s=>aZ s;have px1:=J.push (MO.lst (ws.map nD));generalize hL:M.length=LL at*;have gl1:mh.length+1<=(M++[MO.lst (ws.map nD)]).length:=by simp;lia
  generalize M++[MO.lst (ws.map nD)]=M1 at*
  have wl8:ws.length<=8:=by
   have:=gW (I.imp aI4) (m:=List.range' 1 8) λw F=>by have:=wb w F;simp[List.mem_range'_1];lia
   simpa using this
  refine PN (λi ys n =>n =M1/\ys=((ws.take i).filterMap λw=>gL w (tI c w)).map spE) _ (λ_ _ _ h=>by rw[h.1];exact aP hl1) ?_ ?_ ⟨rfl,by simp⟩
  ·rintro i d ys n N hi ⟨rfl,rfl⟩ nx;rw[List.getElem?_map]at hi;obtain⟨w,F,rfl⟩:=aI3.mp hi;have wm:=aI2 F;have w18:=wb w wm;have L:=lk w (by lia);have one:=(G w).mpr wm
   have hv:∃d,aU g (.int (w:Nat))=some d:=by
    have:nD w∈g.map (·.1):=by rw[t];exact aI1.mpr ⟨w,one,rfl⟩
    obtain⟨p,u,e⟩:=aI1.mp this;have:=t7 U.nd u;rw[e]at this;exact⟨_,this⟩
   obtain⟨d,hv⟩:=hv;obtain⟨r,rfl,_,hr,j⟩:=U.some _ _ hv
   have ix:∀{Q:DK},Q (.ref r) n ->AA (D.ref mh.length) (nD w) n Q:=λq=>⟨_,g,.inl (w:Nat),.ref r,rfl,hk1,rfl,hv,q⟩
   have lb:=E9 c c.A.length (w:Nat);have tk:ws.take (i+1)=ws.take i++[w]:=dQ F;simp[cX];refine ix ⟨(EI c c.A.length (w:Nat)).map λk=>(Sum.inl ((k:Nat):Int):Key),?_,by simp;lia,?_⟩
   ·rw[AO hr,<-kL];rfl
   have tw:=Q8 L (aCy c w c.A.length);by_cases s:(tI c w).headD 0<(tI c w).getLastD 0
   ·rw[if_pos (by have:=tw.mpr s;lia)];refine ix ?_;rw[iO hr,HC j];simp only[aD];refine ix ?_;rw[iO hr,HB j];simp only[aD];refine⟨by lia,⟨.inl (w:Nat),rfl⟩,nx _ _ ⟨rfl,?_⟩⟩;have es:gL w (tI c w)=some ⟨w,(tI c w).headD 0,(tI c w).getLastD 0⟩:=by unfold gL;rw[if_pos s]
    rw[tk,List.filterMap_append,List.filterMap_cons,es,L.hd,L.ls];rw[putL]
    ·simp[spE,spT]
    ·intro V;simp only[List.map_map,List.mem_map]at V;obtain⟨s',hs',e⟩:=V;obtain⟨v,hv',e2⟩:=aLl.mp hs';have e3:=fL e;rw[(lL e2).1]at e3;subst e3;have:=(aL8.mp (by rw[<-tk];exact(I.imp aI4).sublist (aJz ..):(ws.take i++[v]).Nodup)).2.2 v hv' v (by simp);exact this rfl
   ·rw[if_neg (by intro z;exact s (tw.mp (by lia)))];refine nx _ _ ⟨rfl,?_⟩;rw[tk,List.filterMap_append,List.filterMap_cons,show gL w (tI c w)=none by unfold gL;rw[if_neg s]];simp
  ·rintro ys n ⟨rfl,rfl⟩;rw[List.length_map,List.take_length,spn];exact aQ (q _ _ (px1.push _) (by lia) (by rw[bH];rfl))
def zZ(c:aM)(p:Nat×Nat):Bool:=p.1 !=p.2 && (aC c).contains p.1 && (aC c).contains p.2
def mK(c:aM)(i w:Nat):List Nat:=F0 (((((c.A.zip c.B).take i).filter (zZ c)).filter λp=>p.2==w).map (·.1))
theorem IK(c:aM)(w:Nat):mK c 0 w=[]:=by simp[mK,F0]
theorem K5(h:(c.A.zip c.B).length<=i)(w:Nat):mK c i w=ups c w:=by
 unfold mK ups mM;rw[List.take_of_length_le h];rfl
theorem IL(h:(c.A.zip c.B)[i]? =some (a,b))(w:Nat):mK c (i+1) w=if zZ c (a,b)=true/\w=b/\a∉mK c i b then mK c i w++[a] else mK c i w:=by
 unfold mK;rw[dQ h,List.filter_append,List.filter_append,List.map_append];by_cases ho:zZ c (a,b)=true
 ·by_cases f:w=b
  ·subst f;have e:List.map (·.1) (List.filter (λp:Nat×Nat=>p.2==w) (List.filter (zZ c) [(a,w)]))=[a]:=by simp[ho]
   rw[e,A7];by_cases d:a∈F0 (List.map (·.1) (List.filter (λp:Nat×Nat=>p.2==w) (List.filter (zZ c) ((c.A.zip c.B).take i))))
   ·rw[if_pos d,if_neg (λz=>z.2.2 d)]
   ·rw[if_neg d,if_pos ⟨ho,rfl,d⟩]
  ·have e:List.map (·.1) (List.filter (λp:Nat×Nat=>p.2==w) (List.filter (zZ c) [(a,b)]))=[]:=by
    have:(b==w)=false:=by simp;exact λz=>f z.symm
    simp[ho,this]
   rw[e,List.append_nil,if_neg λz=>f z.2.1]
 ·have e:List.map (·.1) (List.filter (λp:Nat×Nat=>p.2==w) (List.filter (zZ c) [(a,b)]))=[]:=by simp[ho]
  rw[e,List.append_nil,if_neg λz=>ho z.1]
structure Od(W:List Nat)(b:Nat)(M:MH)(kvs:List (D×D))(f:Nat->List Nat):Prop where
 keys:kvs.map (·.1)=W.map nD
 val:∀w∈W,∃r,aU kvs (nD w)=some (.ref r)/\b<=r/\M[r]? =some (.lst ((f w).map nD))
 inj:∀w w' r,aU kvs (nD w)=some (.ref r)->aU kvs (nD w')=some (.ref r)->w=w'
theorem FO{W:List Nat}(h:kvs.map (·.1)=W.map nD){d:D}(e:aU kvs (nD w)=some d):w∈W:=by
 have:nD w∈kvs.map (·.1):=aI1.mpr ⟨_,AI e,rfl⟩;rw[h]at this;obtain⟨v,hv,e⟩:=aI1.mp this;rw[<-fL e];exact hv
theorem aBs(a:Nat):(aU (EU c) (nD a)).isSome=(aC c).contains a:=by
 cases h:(aC c).contains a with
 | true=>rw[nW (by simpa using h)];rfl
 | false=>
  cases e:aU (EU c) (nD a) with
  | none=>rfl
  | some d=>have:=FO (t8 c) e;simp at h;exact absurd this h
theorem OX(h:iE M n false (EU c))(q:Q (.bl ((aC c).contains a)) M):JJ (nD a) (.ref n) M Q:=⟨n,false,EU c,rfl,h,⟨.inl (a:Nat),rfl⟩,by rw[aBs];exact q⟩
def RQ:OA:=λds mh Q=>∃c s,ds=[aN c.A,aN c.B,.ref s]/\iE mh s false (EU c)/\Wc c/\∀M n,FE (· =s) mh M->mh.length<=n->QJ c M n->Q (.ref n) M
theorem aDx(ds:List D)(mh:MH)(R:DK)(ok:oG mh)(F:RQ ds mh R):jA (En mh R) (aK ["above","below","spans","uppers","high","low"] ds) mh:=by
 obtain⟨c,s,rfl,hd,W,q⟩:=F;have sz:=aIf;have l2:=W.l2;have ll:=W.l;have wl:=cG c;have sl:s<mh.length:=by rcases hd with h | ⟨ob,h⟩ <;> exact jW h
 simp[jA,aK,QR];refine oD (S:=(· =s)) rfl hd rfl λob M0 J hf=>?_;rw[t8];refine PN (λi g M=>FE (· =s) mh M/\M[s]? =some (.gD false (EU c) ob)/\Od ((aC c).take i) mh.length M g (λ_=>[])) _ (λ_ _ _ h=>h.2.1) ?_ ?_ ⟨J,hf,⟨by simp,λw h=>by simp at h,λw w' r h=>by simp[aU]at h⟩⟩
 ·rintro i d g M N hi ⟨fe,F,O⟩ nx;rw[List.getElem?_map]at hi;obtain⟨w,k,rfl⟩:=aI3.mp hi;have tk:=dQ k;have K:=fe.1
  have nw:∀d,aU g (nD w)≠some d:=λd e=>by
   have h:=FO O.keys e;have nd:=dI c;have:=(aL8.mp (by rw[<-tk];exact nd.sublist (aJz ..):((aC c).take i++[w]).Nodup)).2.2 w h w (by simp);exact this rfl
  simp[cX];refine⟨⟨.inl (w:Nat),rfl⟩,nx _ _ ⟨fe.push _,aZ F,⟨?_,λv hv=>?_,λv v' r t u=>?_⟩⟩⟩
  ·rw[yI,if_neg,O.keys,tk,List.map_append]
   ·rfl
   ·rintro⟨p,hp,e⟩;have:nD w∈g.map (·.1):=aI1.mpr ⟨p,hp,e⟩;rw[O.keys]at this;obtain⟨v,hv,e⟩:=aI1.mp this;obtain⟨r,j,_⟩:=O.val v hv;rw[fL e]at j;exact nw _ j
  ·rw[tk]at hv;by_cases e:v=w
   ·subst e;exact⟨M.length,lJ ..,K,by simp⟩
   ·have hv:v∈(aC c).take i:=by
     rcases aI9.mp hv with h | h
     ·exact h
     ·simp at h;exact absurd h e
    obtain⟨r,j,m,f⟩:=O.val v hv;exact⟨r,by rw[cK _ _ λz=>e (fL z)];exact j,m,aZ f⟩
  ·have lo:∀v r,aU g (nD v)=some (.ref r)->r<M.length:=λv r h=>by
    obtain⟨X,e,_,f⟩:=O.val v (FO O.keys h);rw[h]at e;cases e;exact jW f
   by_cases G:v=w <;> by_cases H:v' =w
   ·rw[G,H]
   ·subst G;rw[lJ]at t;cases t;rw[cK _ _ λz=>H (fL z)]at u;exact absurd (lo _ _ u) (aJc _)
   ·subst H;rw[lJ]at u;cases u;rw[cK _ _ λz=>G (fL z)]at t;exact absurd (lo _ _ t) (aJc _)
   ·rw[cK _ _ λz=>G (fL z)]at t;rw[cK _ _ λz=>H (fL z)]at u;exact O.inj _ _ _ t u
 ·rintro g M ⟨fe,F,O⟩;rw[List.length_map,List.take_length]at O;have h0:(M++[MO.bM false g])[M.length]? =some (.bM false g):=by simp
  have L:=fe.push (MO.bM false g)
  have O1:Od (aC c) mh.length (M++[MO.bM false g]) g (mK c 0):=⟨O.keys,λw k=>by
   obtain⟨r,j,m,f⟩:=O.val w k
   exact⟨r,j,m,by rw[IK];exact aZ f⟩,O.inj⟩
  have K:=fe.1;generalize hn:M.length=n at*;generalize M++[MO.bM false g]=M1 at*;simp[oO,aN,aX];refine⟨by lia,?_⟩;refine bQ (λi P M=>(∃T U,P=[some (aN c.A),some (aN c.B),some (.ref s),some (.ref n),T,U])/\FE (· =s) mh M/\M[n]? =some (.bM false g)/\Od (aC c) mh.length M g (mK c i)) _ (λ_ _ _ _=>trivial) ?_ ?_ ⟨⟨_,_,rfl⟩,L,h0,O1⟩
  ·rintro i d P M N hi ⟨⟨T,U,rfl⟩,fe,hk,O⟩ nx;obtain⟨x,y,Y,Z,rfl⟩:=iF hi;rw[List.getElem?_map]at Y Z;obtain⟨a,ha,rfl⟩:=aI3.mp Y;obtain⟨b,hb,rfl⟩:=aI3.mp Z;have hz:(c.A.zip c.B)[i]? =some (a,b):=by rw[List.getElem?_zip_eq_some];exact⟨ha,hb⟩
   have E:=IL hz
   have same:¬(zZ c (a,b)=true/\a∉mK c i b)->Od (aC c) mh.length M g (mK c (i+1)):=λh=>⟨O.keys,λw k=>by
    obtain⟨r,j,m,f⟩:=O.val w k
    exact⟨r,j,m,by rw[E w,if_neg λz=>h ⟨z.1,z.2.2⟩];exact f⟩,O.inj⟩
   have dm:=fe.dm hd;simp[mT];refine OX dm ?_;simp only[bX,aD]
   cases C:(aC c).contains a with
   | false=>exact nx _ _ ⟨⟨_,_,rfl⟩,fe,hk,same λz=>by
    have C:a∉aC c:=by simpa using C
    simp[zZ,C]at z⟩
   | true=>
    rw[if_pos rfl];refine OX dm ?_;simp only[bX,aD]
    cases o:(aC c).contains b with
    | false=>exact nx _ _ ⟨⟨_,_,rfl⟩,fe,hk,same λz=>by
     have o:b∉aC c:=by simpa using o
     simp[zZ,o]at z⟩
    | true=>
     rw[if_pos rfl];unfold nD;rw[L8];simp only[bX,aD];by_cases c3:a=b
     ·subst c3;rw[if_neg (by simp)];exact nx _ _ ⟨⟨_,_,rfl⟩,fe,hk,same λz=>by simp[zZ]at z⟩
     ·rw[if_pos (by simp;lia)];obtain⟨r,j,m,f⟩:=O.val b (by simpa using o)
      have V:zZ c (a,b)=true:=by
       have C:a∈aC c:=by simpa using C
       have o:b∈aC c:=by simpa using o
       simp[zZ,C,o,c3]
      have ix:∀{Q:DK},Q (.ref r) M->AA (D.ref n) (nD b) M Q:=λq=>⟨_,g,.inl (b:Nat),.ref r,rfl,hk,rfl,j,q⟩
      refine ix ?_;refine CU (l:=mK c i b) (aP f) ?_;simp only[bX,aD]
      cases I:(mK c i b).contains a with
      | true=>exact nx _ _ ⟨⟨_,_,rfl⟩,fe,hk,same λz=>z.2 (by simpa using I)⟩
      | false=>
       have I:a∉mK c i b:=by simpa using I
       rw[if_pos (show (!false)=true from rfl)];refine ix ⟨⟨rfl,_,f⟩,(pD f _).mpr ⟨?_,?_⟩⟩
       ·have:(mK c i b).length<=12:=by
         unfold mK;refine aIa (U1 _) ?_;rw[List.length_map];refine aIa (aJ2 ..) (aIa (aJ2 ..) ?_);simp;lia
        simp;lia
       ·have rn:r≠n:=λz=>by rw[z,hk]at f;cases f
        refine nx _ _ ⟨⟨_,_,rfl⟩,fe.set m _,get_set hk rn,⟨O.keys,λw k=>?_,O.inj⟩⟩;rw[E w];by_cases e:w=b
        ·subst e;refine⟨r,j,m,?_⟩;rw[if_pos ⟨V,rfl,I⟩,cS _ f,List.map_append];rfl
        ·obtain⟨X,g1,g2,g3⟩:=O.val w k;refine⟨X,g1,g2,?_⟩;rw[if_neg λz=>e z.2.1];exact get_set g3 λz=>e (O.inj _ _ _ g1 (by rw[<-z];exact j))
  ·rintro P M ⟨⟨T,U,rfl⟩,fe,hk,O⟩;simp[oN];refine aQ (q _ _ fe K ⟨g,.inl hk,O.keys,λw k=>?_⟩);obtain⟨r,j,m,f⟩:=O.val w k;refine⟨r,j,?_⟩;rw[dZ]at f;rw[K5 (by simp) w]at f;exact f
def rT(g:Nat->Nat)(l:List Nat):List (D×D):=l.map λw=>(nD w,.ref (g w))
theorem C8(g:Nat->Nat)(l:List Nat):(rT g l).map (·.1)=l.map nD:=by simp[rT]
theorem uE(g:Nat->Nat)(w:Nat):∀l:List Nat,aU (rT g l) (nD w)=if w∈l then some (.ref (g w)) else none
 | []=>by simp[rT,aU]
 | a::l=>by
  have b:=uE g w l;simp only[rT,List.map_cons,aU]at b⊢;by_cases h:a=w
  ·subst h;simp
  ·rw[if_neg λz=>h (fL z),b];have:¬w=a:=λz=>h z.symm;simp[this]
theorem C9(g:Nat->Nat)(w:Nat):∀l:List Nat,iV (rT g l) (nD w)=rT g (l.filter λv=>v !=w)
 | []=>by simp[rT,iV]
 | a::l=>by
  have b:=C9 g w l;simp only[rT,List.map_cons,iV,List.filter_cons]at b⊢;by_cases h:a=w
  ·subst h;simpa using b
  ·have c:¬nD a=nD w:=λz=>h (fL z);simpa[h,c] using b
theorem OD{g:Nat->Nat}:∀{kvs:List (D×D)} {W:List Nat},kvs.map (·.1)=W.map nD->W.Nodup->(∀w∈W,aU kvs (nD w)=some (.ref (g w)))->kvs=rT g W
 | [],[],_,_,_=>rfl
 | [],_::_,h,_,_=>by simp at h
 | _::_,[],h,_,_=>by simp at h
 | (k,v)::kvs,w::W,h,nd,hv=>by
  simp only[List.map_cons,List.cons.injEq]at h;obtain⟨rfl,h⟩:=h;obtain⟨n1,n2⟩:=aKs.mp nd;have h0:=hv w aHx;simp[aU]at h0;subst h0
  have:=OD (g:=g) h n2 λu a=>by
   have:=hv u (aI0 _ a);simp only[aU]at this;rw[if_neg λz=>n1 (by rw[fL z];exact a)]at this;exact this
  rw[this];rfl
theorem QJ.fn(u:QJ c M n):∃g:Nat->Nat,iE M n false (rT g (aC c))/\∀w∈aC c,M[g w]? =some (.lst ((ups c w).map nD)):=by
 obtain⟨kvs,b,d,f⟩:=u
 let g:Nat->Nat:=λw=>match aU kvs (nD w) with | some (.ref r)=>r | _=>0
 have hg:∀w∈aC c,aU kvs (nD w)=some (.ref (g w))/\M[g w]? =some (.lst ((ups c w).map nD)):=λw a=>by
  obtain⟨r,e,h⟩:=f w a;have:g w=r:=by show (match aU kvs (nD w) with | some (.ref r)=>r | _=>0)=r;rw[e]
  rw[this];exact⟨e,h⟩
 exact⟨g,by rw[<-OD d (dI c) λw a=>(hg w a).1];exact b,λw a=>(hg w a).2⟩
def RN:OA:=λds mh Q=>∃c u,ds=[.ref u]/\QJ c mh u/\iZ c/\Wc c/\∀M,FE nT mh M->Q .bT M
def aEm(c:aM)(u:Nat)(g:Nat->Nat)(mh:MH)(m:Nat)(a:dY)(M:MH):Prop:=∃(l F:List Nat) (fr:Nat) (b d e:Option D),a=[some (.ref u),some (.ref mh.length),some (.ref fr),b,d,e]/\FE nT mh M/\M[mh.length]? =some (.bM false (rT g l))/\
 l.Nodup/\(∀w∈l,w∈aC c)/\M[fr]? =some (.lst (F.map nD))/\F.length<=8/\(F=[]->∀w∈l,∃v∈ups c w,v∈l)/\m=2*l.length+(if F=[] then 0 else 1)
def aEk(c:aM)(u:Nat)(g:Nat->Nat)(mh:MH)(m:Nat)(b:dY)(M:MH):Prop:=∃a,a<m/\aEm c u g mh a b M
theorem aDt(ds:List D)(mh:MH)(R:DK)(ok:oG mh)(hs:RN ds mh R):nV (En mh R) (aK ["uppers","left","free","wire","walk","ring"] ds) mh:=by
 obtain⟨c,u,rfl,hu,nr,wc,q⟩:=hs;have sz:=aIf;have wl:=cG c;obtain⟨g,hd,hg⟩:=hu.fn;simp[nV,aK];refine⟨u,_,rfl,hd,?_⟩;have K:(mh++[MO.bM false (rT g (aC c))])[mh.length]? =some (.bM false (rT g (aC c))):=by simp
 have s:FE nT mh (mh++[MO.bM false (rT g (aC c))]):=FE.refl.push _;generalize mh++[MO.bM false (rT g (aC c))]=L at K s⊢;simp[sN];refine⟨mh.length,_,rfl,.inl K,?_⟩;rw[C8];have e1:=aZ (x:=MO.lst ((aC c).map nD)) K;have O:=bH L (MO.lst ((aC c).map nD));have t:=s.push (MO.lst ((aC c).map nD));generalize L++[MO.lst ((aC c).map nD)]=M1 at e1 O t⊢;generalize L.length=y at O⊢;show o9 (oH (aA 2)) lC {(En mh R) with nx:=mQ (En mh R)} [some (.ref u),some (.ref mh.length),some (.ref y),none,none,none] M1;refine⟨aEm c u g mh,⟨_,aC c,aC c,y,_,_,_,rfl,t,e1,dI c,λ_ h=>h,O,wl,(λh w b=>by rw[h]at b;cases b),rfl⟩,?_⟩;rintro m I M ⟨l,F,fr,f,k,a5,rfl,fe,P,nd,J,hf,fl,hF,rfl⟩;refine⟨aEk c u g mh _,λ_ _ h=>h,?_⟩;have ml:=fe.1;have gM:∀w∈l,M[g w]? =some (.lst ((ups c w).map nD)):=λw b=>fe.lst (hg w (J w b));simp[i6,hf]
 cases F with
 | nil=>
  have hl:l=[]:=by
   cases l with
   | nil=>rfl
   | cons a l=>exact absurd aHx (wN nr (S:=λw=>w∈a::l) J (hF rfl) a)
  subst hl;simp[mQ];exact⟨rT g [],.inl P,by simp[rT];exact aQ (q _ fe)⟩
 | cons x F=>
  simp[lC];refine⟨mh.length,.inl ⟨⟨_,P⟩,?_⟩⟩;refine oD (S:=(· =mh.length)) rfl (.inl P) rfl λob M2 A e=>?_;rw[C8];have B:∀w∈l,M2[g w]? =some (.lst ((ups c w).map nD)):=λw b=>A.lst (gM w b);refine iW nD (λw=>!((ups c w).any λv=>l.contains v)) id nD (λC =>FE nT M2 C) l FE.refl (λC a=>a.gD e) ?_ ?_
  ·intro w b n f N3 L3 n3 l3;have Q:iE n mh.length false (rT g l):= .inr ⟨ob,f.gD e⟩
   have iv:∀v,(aU (rT g l) (nD v)).isSome=l.contains v:=λv=>by
    rw[uE]
    cases h:l.contains v with
    | true=>rw[if_pos (by simpa using h)];rfl
    | false=>rw[if_neg (by simpa using h)];rfl
   simp[cX];refine rW Q (by rw[uE,if_pos b]) ?_;rw[aP (f.lst (B w b))];simp only[aD];refine iW nD (λ_=>true) (λv=>l.contains v) D.bl (λC =>FE nT M2 C) (ups c w) f (λC a=>aP (a.lst (B w b))) ?_ ?_
   ·intro v hv M4 k N4 L4 n4 l4;simp;refine⟨_,false,rT g l,rfl,.inr ⟨ob,k.gD e⟩,⟨.inl (v:Nat),rfl⟩,?_⟩;rw[iv];exact n4 _ k rfl
   ·intro M4 k;rw[List.filter_eq_self.mpr (λ_ _=>rfl)];rw[EY (bs:=(ups c w).map λv=>l.contains v) (bH _ _)];rw[show ((ups c w).map λv=>l.contains v).any id=(ups c w).any λv=>l.contains v by rw[List.any_map];rfl];simp only[i6,aD]
    cases hb:(ups c w).any λv=>l.contains v with
    | true=>exact l3 _ (k.push _) (by rw[hb];rfl)
    | false=>exact n3 _ (k.push _) (by rw[hb];rfl)
  ·intro n f;rw[List.map_id];generalize T:(l.filter λw=>!((ups c w).any λv=>l.contains v))=G;have U:∀w,w∈G↔w∈l/\∀v∈ups c w,v∉l:=λw=>by rw[<-T];simp
   have V:G.Nodup:=by rw[<-T];exact nd.filter _
   have gle:G.length<=l.length:=by rw[<-T];exact aJ2 ..
   have ll:l.length<=8:=aIa (gW nd J) wl;have h5:(n++[MO.lst (G.map nD)])[mh.length]? =some (.gD false (rT g l) ob):=aZ (f.gD e);refine⟨_,⟨_,h5⟩,?_⟩;have h6:=cS (MO.bM false (rT g l)) h5;have j:((n++[MO.lst (G.map nD)]).set mh.length (.bM false (rT g l)))[n.length]? =some (.lst (G.map nD)):=get_set (bH _ _) (by have:=jW (f.gD e);lia)
   have E:FE nT mh ((n++[MO.lst (G.map nD)]).set mh.length (.bM false (rT g l))):=by
    refine FE.set ?_ (aHw _) _;exact(fe.over (A.over (f.push _) (λm _ h=>h.elim)) λm hm h=>by have h:m=mh.length:=h;lia)
   generalize (n++[MO.lst (G.map nD)]).set mh.length (.bM false (rT g l))=M6 at h6 j E⊢;generalize n.length=o at j⊢;simp[mP];rw[aP j];simp only[aD]
   refine bQ (λi I M=>(∃f k a5,I=[some (.ref u),some (.ref mh.length),some (.ref o),f,k,a5])/\FE nT mh M/\M[o]? =some (.lst (G.map nD))/\M[mh.length]? =some (.bM false (rT g (l.filter λw=>!((G.take i).contains w))))) _ (λ_ _ _ h=>aP h.2.2.1) ?_ ?_
    ⟨⟨_,_,_,rfl⟩,E,j,by rw[List.filter_eq_self.mpr (λ_ _=>by simp)];exact h6⟩
   ·rintro i d I M7 N hi ⟨⟨b3,b4,b5,rfl⟩,W,H,r⟩ nx;rw[List.getElem?_map]at hi;obtain⟨w,b,rfl⟩:=aI3.mp hi;have tk:=dQ b;have wm:=(U w).mp (aI2 b)
    have wn:w∉G.take i:=λh=>by
     have:=(aL8.mp (by rw[<-tk];exact V.sublist (aJz ..):(G.take i++[w]).Nodup)).2.2 w h w (by simp);exact this rfl
    simp[pS,GY];refine⟨_,r,⟨.inl (w:Nat),rfl⟩,?_,nx _ _ ⟨⟨_,_,_,rfl⟩,W.set (aHw _) _,get_set H (λz=>by rw[<-z,r]at H;cases H),?_⟩⟩
    ·rw[uE,if_pos (by simp[wm.1,wn])];rfl
    ·rw[cS _ r,C9,List.filter_filter,tk];congr 3;apply List.filter_congr;intro v _;by_cases h1:v=w <;> by_cases h2:v∈G.take i <;> simp[h1,h2]
   ·rintro I M7 ⟨⟨b3,b4,b5,rfl⟩,W,H,r⟩;rw[List.take_of_length_le (by simp)]at r;refine⟨_,?_,_,G,o,b3,b4,b5,rfl,W,r,nd.filter _,λw b=>J w (aIy.mp b).1,H,by lia,?_,rfl⟩
    ·have:=aJ2 (λw=>!(G.contains w)) l;by_cases hg:G=[]
     ·rw[if_pos hg];lia
     ·rw[if_neg hg];obtain⟨x,hx⟩:=aKl G hg;have:=List.length_filter_lt_length_iff_exists (p:=λw=>!(G.contains w)) (l:=l) |>.mpr ⟨x,((U x).mp hx).1,by simpa using hx⟩
      lia
    ·intro hg w b;subst hg;have X:w∈l:=(aIy.mp b).1
     have Y:=λz=>(by simp:w∉([]:List Nat)) ((U w).mpr z)
     refine aIl λh=>Y ⟨X,λv hv Z=>h ⟨v,hv,?_⟩⟩;simpa using Z
def mL(p:Nat×Nat):D:= .tup [nD p.1,nD p.2]
def qE(c:aM):List (Nat×Nat):=(aC c).map λw=>(w,zN (rowsOf c) w)
def K1(c:aM):D:= .tup [nD (rowsOf c).length,.tup ((qE c).map mL),d7 c (rowsOf c).length c.A.length]
theorem yV{α:Type}(f:α->D):∀(l:List α) (k:Nat),jN k (l.map f)=(l.zipIdx k).map λp=>.tup [nD p.2,f p.1]
 | [],_=>rfl
 | a::l,k=>by simp[jN,yV f l (k+1),nD]
def iT(R:List (List Nat))(k:Nat):List (Nat×Nat):=(R.zipIdx k).flatMap λp=>p.1.map λw=>(w,p.2)
theorem n9:∀(R:List (List Nat)) (k:Nat),(iT R k).map (·.1)=R.flatten
 | [],_=>rfl
 | f::R,k=>by
  have:=n9 R (k+1);simp only[iT,List.zipIdx_cons,List.flatMap_cons,List.map_append,List.map_map,List.flatten_cons]at this⊢;rw[this];simp[Function.comp_def]
theorem J7{p:Nat×Nat}:p∈iT R 0↔∃f,R[p.2]? =some f/\p.1∈f:=by
 unfold iT;rw[List.mem_flatMap];constructor
 ·rintro⟨q,a,h⟩;obtain⟨w,b,rfl⟩:=aI1.mp h;have:=aLj.mp a;exact⟨q.1,this,b⟩
 ·rintro⟨f,c,d⟩;exact⟨(f,p.2),aLj.mpr c,aI1.mpr ⟨p.1,d,rfl⟩⟩
theorem J6(E:eK c (aC c,rowsOf c)):(iT (rowsOf c) 0).Perm (qE c):=by
 have n1:(iT (rowsOf c) 0).Nodup:=by
  have:=E.nd;rw[show (aC c,rowsOf c).2=rowsOf c from rfl,<-n9 (rowsOf c) 0]at this;exact(aLq.mp this).imp λh z=>h (by rw[z])
 have n2:(qE c).Nodup:=by
  unfold qE;refine aLq.mpr ((dI c).imp λh z=>h ?_);exact aJ7 Prod.fst z
 rw[List.perm_ext_iff_of_nodup n1 n2];intro p;rw[J7];unfold qE;rw[List.mem_map];constructor
 ·rintro⟨f,b,d⟩;have a:=(E.mem p.1).mpr (aKi.mpr ⟨f,aI2 b,d⟩);exact⟨p.1,a,by rw[EO E.nd b d]⟩
 ·rintro⟨w,a,rfl⟩;exact rG E a
theorem K7(l:List (Nat×Nat)):GI (l.map mL):= .inr ⟨.i,[.i],λd hd=>by obtain⟨s,_,rfl⟩:=aI1.mp hd;exact⟨_,rfl,rfl⟩⟩
theorem aD2{a b:Nat×Nat}(h:a.1<b.1):lx (enc (mL b)) (enc (mL a))=false:=by
 have c:¬((b.1:Int)<(a.1:Int)):=by lia
 have d:(a.1:Int)<(b.1:Int):=by lia
 simp[mL,nD,enc,fQ,lx,c,d]
theorem RE{l:List (Nat×Nat)}(a:l.Perm (qE c)){fs:List D}(p:fs.Perm (l.map mL))(s:fs.Pairwise λd e=>lx (enc e) (enc d)=false):fs=(qE c).map mL:=by
 refine rL (K7 l) (λd hd=>p.mem_iff.mp hd) (p.trans (a.map mL)) s ?_;unfold qE;rw[List.pairwise_map,List.pairwise_map];exact(uO c).imp λh=>aD2 h
def RK:OA:=λds mh Q=>∃c,ds=[aN c.A,aN c.B]/\Wc c/\iZ c/\∀M,Q (K1 c) M
theorem aDo(ds:List D)(mh:MH)(R:DK)(ok:oG mh)(B:RK ds mh R):tY RM RQ RN RU RP (En mh R) (aK ["above","below","spans","uppers","ring","rows","tracks"] ds) mh:=by
 obtain⟨c,rfl,d,i,q⟩:=B;have sz:=aIf;have l2:=d.l2;have E:=zU i;have j:=E.RX;simp[tY,aK];refine⟨c,by simp,d,λI n1 J _ v=>?_⟩;simp[x8];refine⟨c,n1,by simp,.inl v,d,λM2 n2 k _ l=>?_⟩;simp[x5];refine⟨c,n2,rfl,l,i,d,λK a=>?_⟩;simp[x4,iS,x3];have y:=a.dm (k.dm (.inl v));refine⟨c,n1,n2,by simp,y,l.fe a,d,i,λe r m n=>?_⟩;simp[xZ];rw[aP n];simp only[aD];refine⟨by simp;lia,?_⟩;rw[yV];refine U5 (b:=false) (γ:=Nat×Nat) _ (λp:List Nat×Nat=>p.1) nD (λ(p:List Nat×Nat) w=>(w,p.2)) mL (λp:List Nat×Nat=>[some (nD p.2),some (aN p.1),none]) _ (λh=>by cases h) ?_ ?_ ?_ ?_ ?_ ?_
 ·exact aP n
 ·have:(((rowsOf c).zipIdx).flatMap λp=>p.1)=(rowsOf c).flatten:=by
   have h:=n9 (rowsOf c) 0;rw[<-h];unfold iT;rw[List.map_flatMap];congr 1;funext p;simp[Function.comp_def]
  rw[this];have o:=j.1;have o:(rowsOf c).flatten.length<=8:=o;simp[cmB];simp at o;lia
 ·intro p z N hN;simp[cX];exact hN
 ·intro p z N hN;simp[aN,aX];exact hN _ trivial
 ·intro p z w g N hN;simp;exact⟨by lia,hN⟩
 ·show lstK _ ((iT (rowsOf c) 0).map mL) e
  have fl:(iT (rowsOf c) 0).length<=8:=by
   have:(iT (rowsOf c) 0).length=(rowsOf c).flatten.length:=by rw[<-n9 (rowsOf c) 0,List.length_map]
   rw[this];exact j.1
  refine⟨_,_,rfl,AO (bH _ _),by simp;lia,K7 _,λfs pm C=>?_⟩;have F:=RE (J6 E) pm C;subst F;have L:(qE c).length<=8:=by unfold qE;rw[List.length_map];exact cG c
  have s:=aZ (x:=MO.lst ((qE c).map mL)) (aZ (x:=MO.lst ((iT (rowsOf c) 0).map mL)) n);have t:=bH (e++[MO.lst ((iT (rowsOf c) 0).map mL)]) (MO.lst ((qE c).map mL));have u:=(m.push (MO.lst ((iT (rowsOf c) 0).map mL))).push (MO.lst ((qE c).map mL));generalize e++[MO.lst ((iT (rowsOf c) 0).map mL)]++[MO.lst ((qE c).map mL)]=M at s t u⊢;generalize (e++[MO.lst ((iT (rowsOf c) 0).map mL)]).length=O at t⊢;simp[xY];rw[rN s];rw[aP t];simp only[aD];rw[rN s];simp only[aN,MB,List.length_map];refine⟨c,n1,n2,(rowsOf c).length,c.A.length,rfl,u.dm y,(l.fe a).fe u,d,l2,λg=>?_,λP G=>⟨by lia,aQ (q _)⟩⟩;refine⟨?_,j.2⟩;obtain⟨w,g⟩:=aKl _ g;obtain⟨f,H,_⟩:=rG E g;have:=(aHv.mp H).1
  lia
theorem ix2{x y r:Int}(h0:0<=r)(a:r<2):∃v,pP [D.int x,.int y] r=some (.int v)/\(v=x\/v=y):=by
 have:r=0\/r=1:=by lia
 rcases this with rfl | rfl
 ·exact⟨x,aEh _ _,.inl rfl⟩
 ·exact⟨y,GC _ _ _,.inr rfl⟩
def RV:OA:=λds mh Q=>∃b,ds=[.ref b]/\QP mh b/\∀c M,Wc c->i8 mh b M->Q (.tup [aN c.A,aN c.B]) M
theorem aE6(ds:List D)(mh:MH)(R:DK)(ok:oG mh)(hs:RV ds mh R):fE yF (En mh R) (aK ["_law_bag_here","_law_many","_law_kinds","_law_apart_sides","_law_above","_law_below","_law_column","_law_up","_law_down"] ds) mh:=by
 obtain⟨b,rfl,hb,q⟩:=hs;have sz:=aIf;simp[fE,aK];refine⟨by lia,uW ((i8.refl hb).push _) (by lia) (by lia) λr1 M1 u w b1 _ Z=>?_⟩;have e1:M1[mh.length]? =some (.lst [D.int 5,D.int 12]):=by rw[Z _ (Nat.le_refl _)];simp
 obtain⟨v,hv,a⟩:=ix2 (x:=5) (y:=12) u w;rw[iO e1,hv];simp only[aD];refine uW b1 (by rcases a with rfl | rfl <;> lia) (by rcases a with rfl | rfl <;> lia) λc M2 m0 m1 b2 _ _=>?_;have m12:c<12:=by rcases a with rfl | rfl <;> lia
 clear hv a e1 Z;simp[kA];refine⟨by lia,uW (b2.push _) (by lia) (by lia) λr2 M3 C E b3 _ g3=>?_⟩;have e3:M3[M2.length]? =some (.lst [D.int 8,D.int 4]):=by rw[g3 _ b2.le];simp
 obtain⟨v,hv,a⟩:=ix2 (x:=8) (y:=4) C E;rw[iO e3,hv];simp only[aD];refine uW b3 (by rcases a with rfl | rfl <;> lia) (by rcases a with rfl | rfl <;> lia) λf M4 k0 k1 b4 _ _=>?_;have k8:f<8:=by rcases a with rfl | rfl <;> lia
 clear hv a e3 g3;simp[j9];refine uW b4 (by lia) (by lia) λF j a0 a1 b5 _ _=>?_;simp[j8,j7];have b7:=(b5.push (MO.lst [])).push (MO.lst []);have t:=b5.le;have G:(j++[MO.lst []]++[MO.lst []])[j.length]? =some (.lst []):=by simp
 have H:(j++[MO.lst []]++[MO.lst []])[j.length+1]? =some (.lst []):=by simp
 have l7:(j++[MO.lst []]++[MO.lst []]).length=j.length+2:=by simp
 rw[show j++[MO.lst [],MO.lst []]=j++[MO.lst []]++[MO.lst []] by simp];generalize j++[MO.lst []]++[MO.lst []]=M7 at b7 G H l7⊢;generalize j.length=x at t G H l7⊢;simp[j6];refine⟨by lia,by lia,?_⟩
 refine bQ (λi I M=>(∃J K L,I=[some (.ref b),some (.int (1+c)),some (.int (1+f)),some (.int F),some (.ref x),some (.ref (x+1)),J,K,L])/\i8 mh b M/\∃A B:List Nat,M[x]? =some (.lst (A.map nD))/\M[x+1]? =some (.lst (B.map nD))/\A.length=i/\B.length=i/\(∀z∈A,z<=8)/\∀z∈B,z<=8) _ (λ_ _ _ _=>trivial) ?_ ?_
  ⟨⟨_,_,_,rfl⟩,b7,[],[],G,H,rfl,rfl,by simp,by simp⟩
 ·rintro i d I M N hi ⟨⟨J,K,L,rfl⟩,O,A,B,P,Q,S,T,U,V⟩ nx;obtain⟨hi,rfl⟩:=jK hi;simp[jH];refine uW O (by lia) (by lia) λup M8 u0 u1 b8 _ g8=>?_;simp[g6];refine uW b8 (by lia) (by lia) λdn o d0 d1 b9 _ g9=>?_;have m:o[x]? =some (.lst (A.map nD)):=by rw[g9 _ t,g8 _ t];exact P
  have W:o[x+1]? =some (.lst (B.map nD)):=by rw[g9 _ (by lia),g8 _ (by lia)];exact Q
  have k:∀p r:Int,0<=p->p<=8->0<=r->r<=8->∀X:i5,X.nx=N->eE yF X [some (.ref b),some (.int (1+c)),some (.int (1+f)),some (.int F),some (.ref x),some (.ref (x+1)),some (.int (i:Nat)),some (.int p),some (.int r)] o:=by
   intro p r p0 p8 r0 r8 X en
   obtain⟨n,rfl⟩:∃n :Nat,p=(n :Nat):=⟨p.toNat,by lia⟩
   obtain⟨Y,rfl⟩:∃Y :Nat,r=(Y :Nat):=⟨r.toNat,by lia⟩
   simp[eE];refine⟨⟨rfl,_,m⟩,(pD m _).mpr ⟨by simp;lia,?_⟩⟩;have l:=cS (MO.lst (A.map nD++[.int (n :Nat)])) m;have g:(o.set x (MO.lst (A.map nD++[.int (n :Nat)])))[x+1]? =some (.lst (B.map nD)):=get_set W (by lia);have s:=b9.set t (MO.lst (A.map nD++[.int (n :Nat)]));generalize o.set x (MO.lst (A.map nD++[.int (n :Nat)]))=M10 at l g s⊢;simp[gZ];refine⟨⟨rfl,_,g⟩,(pD g _).mpr ⟨by simp;lia,?_⟩⟩;rw[en];refine nx _ _ ⟨⟨_,_,_,rfl⟩,s.set (by lia) _,A++[n],B++[Y],?_,?_,by simp[S],by simp[T],λz hz=>?_,λz hz=>?_⟩
   ·rw[get_set l (by lia),List.map_append];rfl
   ·rw[cS _ g,List.map_append];rfl
   ·rcases aI9.mp hz with h | h
    ·exact U z h
    ·simp at h;lia
   ·rcases aI9.mp hz with h | h
    ·exact V z h
    ·simp at h;lia
  simp[g5];by_cases h1:F=1
  ·rw[if_pos h1];by_cases h2:dn<up
   ·rw[if_pos h2];by_cases h3:0<dn
    ·rw[if_pos h3];exact⟨by lia,k _ _ (by lia) (by lia) (by lia) (by lia) _ rfl⟩
    ·rw[if_neg h3];exact k _ _ (by lia) (by lia) (by lia) (by lia) _ rfl
   ·rw[if_neg h2];exact k _ _ (by lia) (by lia) (by lia) (by lia) _ rfl
  ·rw[if_neg h1];exact k _ _ (by lia) (by lia) (by lia) (by lia) _ rfl
 ·rintro I M ⟨⟨J,K,L,rfl⟩,O,A,B,P,Q,S,T,U,V⟩;have e:(lM 0 (1+c).toNat).length=(1+c).toNat:=by simp[lM]
  rw[e]at S T;simp[j5];rw[aP P,aP Q];simp only[aD];exact⟨by lia,aQ (q ⟨A,B⟩ M ⟨by show A.length=B.length;lia,by show 1<=A.length;lia,by show A.length<=12;lia,U,V⟩ O)⟩
def EH(s:Sp):D:= .tup [nD s.w,nD s.a,nD s.b]
theorem E5(n:Nat):lM 0 n=(List.range n).map nD:=by simp[lM,nD]
theorem zC{k:Nat}{x:Nat}(h:l[k]? =some x):pP (l.map nD) (k:Nat)=some (nD x):=uK (by rw[List.getElem?_map,h];rfl)
def m8:OA:=λds mh Q=>∃c,ds=[aN c.A,aN c.B]/\Wc c/\∀M n,FE nT mh M->M[n]? =some (.lst ((spans c).map EH))->Q (.ref n) M
theorem aDr(ds:List D)(mh:MH)(R:DK)(ok:oG mh)(K:m8 ds mh R):fB (En mh R) (aK ["_law_above","_law_below","_law_found","_law_wire","_law_at"] ds) mh:=by
 obtain⟨c,rfl,s,q⟩:=K;have sz:=aIf;have l1:=s.l1;have l2:=s.l2;have T:=s.l;simp[fB,aK,j2];refine⟨_,_,⟨rfl,rfl⟩,by lia,by lia,by lia,by lia,by lia,?_⟩;have E:(mh++[MO.lst []])[mh.length]? =some (.lst []):=by simp
 have j:FE nT mh (mh++[MO.lst []]):=FE.refl.push _;generalize mh++[MO.lst []]=U at E j⊢;refine bQ (λi t M=>(∃u v,t=[some (aN c.A),some (aN c.B),some (.ref mh.length),u,v])/\FE nT mh M/\M[mh.length]? =some (.lst ((((List.range' 1 8).take i).filterMap λw=>gL w (tI c w)).map EH))) _ (λ_ _ _ _=>trivial) ?_ ?_ ⟨⟨_,_,rfl⟩,j,by simpa using E⟩
 ·rintro i d t M N hi ⟨⟨u,v,rfl⟩,fe,y⟩ nx;obtain⟨hi,rfl⟩:=jK hi;have tk:(List.range' 1 8).take (i+1)=(List.range' 1 8).take i++[i+1]:=dQ (by rw[List.getElem?_range' (by lia)];simp;lia);have L:(((List.range' 1 8).take i).filterMap λw=>gL w (tI c w)).length<=8:=aIa (aKr ..) (by simp;lia);rw[show (D.int (1+(i:Int)))=nD (i+1) by unfold nD;congr 1;lia];simp[jD,aN];refine⟨by lia,?_⟩;rw[E5];refine iW nD (xN c (i+1)) id nD (λO =>FE nT M O) (List.range c.A.length) FE.refl (λ_ _=>trivial) ?_ ?_
  ·intro k hk g m V W n1 l1;have hk:k<c.A.length:=by simpa using hk
   have z:c.A[k]? =some (c.A[k]):=aIm hk;have C:c.B[k]? =some (c.B[k]'(by lia)):=aIm (by lia);generalize c.A[k]=a at z;generalize c.B[k]'(by lia)=b at C;simp[cX];unfold nD;have F:=zC z;have G:=zC C;unfold nD at F G;rw[CH,F];simp only[aD];rw[CH,G];simp only[aD];refine⟨by lia,DH (w:=i+1) (l:=[a,b]) (aP (bH _ _)) ?_⟩
   have P:([a,b]:List Nat).contains (i+1)=xN c (i+1) k:=by
    unfold xN;rw[z,C];simp;by_cases Q:i+1=a <;> by_cases S:i+1=b <;> simp[Q,S] <;> grind
   rw[P];simp only[bX,aD]
   cases hh:xN c (i+1) k with
   | true=>exact n1 _ (m.push _) hh
   | false=>exact l1 _ (m.push _) hh
  ·intro g m;rw[List.map_id];show eD _ [some (aN c.A),some (aN c.B),some (.ref mh.length),some (nD (i+1)),some (.ref g.length)] (g++[MO.lst ((tI c (i+1)).map nD)]);have f:=bH g (MO.lst ((tI c (i+1)).map nD));have f1:=(fe.trans m).push (MO.lst ((tI c (i+1)).map nD));have e:=aZ (x:=MO.lst ((tI c (i+1)).map nD)) (m.lst y);generalize g++[MO.lst ((tI c (i+1)).map nD)]=M2 at f f1 e⊢;generalize g.length=r at f⊢;generalize n:tI c (i+1)=o at*;have none:gL (i+1) o=none->N [some (aN c.A),some (aN c.B),some (.ref mh.length),some (nD (i+1)),some (.ref r)] M2:=λh=>nx _ _ ⟨⟨_,_,rfl⟩,f1,by rw[tk,List.filterMap_append,List.filterMap_cons,n,h];simpa using e⟩;simp[eD];rw[rN f];simp only[V7,bX,aD,List.length_map]
   cases o with
   | nil=>simp;exact none rfl
   | cons x o=>
    simp only[List.length_cons];rw[if_pos (by simp)];have p:x::o≠[]:=by simp
    have h0:pP ((x::o).map nD) 0=some (nD ((x::o).headD 0)):=HC p;have H:pP ((x::o).map nD) (-1)=some (nD ((x::o).getLastD 0)):=HB p;rw[iO f,h0];simp only[aD];rw[iO f,H];simp only[aD];generalize I:(x::o).headD 0=lo at*;generalize J:(x::o).getLastD 0=hi' at*;unfold nD;rw[MA];simp only[bX,aD];by_cases h:lo<hi'
    ·rw[if_pos (by simp;lia)];refine⟨⟨rfl,_,e⟩,?_⟩;rw[iO f,show pP ((x::o).map nD) 0=some (nD lo) from h0];simp only[aD];rw[iO f,show pP ((x::o).map nD) (-1)=some (nD hi') from H];simp only[aD];refine⟨by lia,(pD e _).mpr ⟨by simp;lia,nx _ _ ⟨⟨_,_,rfl⟩,f1.set (aHw _) _,?_⟩⟩⟩;rw[cS _ e,tk,List.filterMap_append,List.filterMap_cons,n];have:gL (i+1) (x::o)=some ⟨i+1,lo,hi'⟩:=by unfold gL;rw[I,J,if_pos h]
     rw[this];simp[EH,nD]
    ·rw[if_neg (by simp;lia)];exact none (by unfold gL;rw[I,J,if_neg h])
 ·rintro t M ⟨⟨u,v,rfl⟩,fe,y⟩;simp[j1];exact aQ (q _ _ fe (by unfold spans;simpa[lM] using y))
def xG:OA:=λds mh Q=>∃c,ds=[aN c.A,aN c.B]/\Wc c/\∀M n,FE nT mh M->M[n]? =some (.lst ((mM c).map mL))->Q (.ref n) M
theorem aDw(ds:List D)(mh:MH)(R:DK)(ok:oG mh)(H:xG ds mh R):fC m8 (En mh R) (aK ["_law_above","_law_below","_law_needing","_law_pairs","_law_up","_law_down"] ds) mh:=by
 obtain⟨c,rfl,n,q⟩:=H;have sz:=aIf;have l2:=n.l2;have U:=n.l;have V:=cG c;have sl:(spans c).length=(aC c).length:=by simp[aC]
 simp[fC,aK];refine⟨c,by simp,n,λg n1 j I=>?_⟩;dsimp only;rw[aP I];simp only[aD];refine dR EH (·.w) nD (spans c) (aP I) (λs H N hN=>?_) ?_
 ·simp[cX,EH];exact hN
 show fV m8 _ [some (aN c.A),some (aN c.B),some (.ref g.length),none,none,none] (g++[MO.lst ((aC c).map nD)]);have r:=bH g (MO.lst ((aC c).map nD));have t:=j.push (MO.lst ((aC c).map nD));have J:=t.1;generalize g++[MO.lst ((aC c).map nD)]=M2 at r t J⊢;have Q:mh.length<=g.length:=j.1;generalize g.length=n2 at r Q⊢;simp[fV,j4,aN,aX];refine⟨by lia,?_⟩;have K:=aZ (x:=MO.lst []) r;have u:=bH M2 (MO.lst []);have L:=t.push (MO.lst []);generalize M2++[MO.lst []]=W at K u L⊢;generalize M2.length=n3 at u J⊢;refine bQ (λi v M=>(∃C E,v=[some (aN c.A),some (aN c.B),some (.ref n2),some (.ref n3),C,E])/\FE nT mh M/\M[n2]? =some (.lst ((aC c).map nD))/\M[n3]? =some (.lst ((((c.A.zip c.B).take i).filter (zZ c)).map mL))/\(n2≠n3\/True)) _ (λ_ _ _ _=>trivial) ?_ ?_ ⟨⟨_,_,rfl⟩,L,K,by simpa using u,.inr trivial⟩
 ·rintro i d v M N hi ⟨⟨C,E,rfl⟩,fe,f,e,_⟩ nx;obtain⟨x,y,O,P,rfl⟩:=iF hi;rw[List.getElem?_map]at O P;obtain⟨a,S,rfl⟩:=aI3.mp O;obtain⟨b,T,rfl⟩:=aI3.mp P;have hz:(c.A.zip c.B)[i]? =some (a,b):=by rw[List.getElem?_zip_eq_some];exact⟨S,T⟩
  have tk:=dQ hz;have F:zZ c (a,b)=false->N [some (aN c.A),some (aN c.B),some (.ref n2),some (.ref n3),some (nD a),some (nD b)] M:=λh=>nx _ _ ⟨⟨_,_,rfl⟩,fe,f,by rw[tk,List.filter_append];simpa[h] using e,.inr trivial⟩;have m:zZ c (a,b)=((a !=b) && (aC c).contains a && (aC c).contains b):=rfl;simp[jE];unfold nD;rw[L8];simp only[bX,aD];by_cases k:a=b
  ·subst k;rw[if_neg (by simp)];exact F (by rw[m];simp)
  ·rw[if_pos (by simp;lia)];refine DH (w:=a) (l:=aC c) (aP f) ?_;simp only[bX,aD]
   cases c1:(aC c).contains a with
   | false=>exact F (by rw[m,c1];simp)
   | true=>
    rw[if_pos rfl];refine DH (w:=b) (l:=aC c) (aP f) ?_;simp only[bX,aD]
    cases c2:(aC c).contains b with
    | false=>exact F (by rw[m,c2];simp)
    | true=>
     rw[if_pos rfl]
     have G:n3≠n2\/((c.A.zip c.B).take i).filter (zZ c)=[]:=by
      by_cases z:n3=n2
      ·right;subst z;rw[f]at e;have:=aJ7 (λo:Option MO=>match o with | some (.lst (d::_))=>(match d with | .int _=>true | _=>false) | _=>false) e
       cases hw:aC c with
       | nil=>rw[hw]at c1;cases c1
       | cons w ws=>
        rw[hw]at e
        cases hf:((c.A.zip c.B).take i).filter (zZ c) with
        | nil=>rfl
        | cons p ps=>rw[hf]at e;simp[mL,nD]at e
      ·exact .inl z
     have X:(((c.A.zip c.B).take i).filter (zZ c)).length<=12:=aIa (aJ2 ..) (by simp;lia);refine⟨⟨rfl,_,e⟩,by lia,(pD e _).mpr ⟨by simp;lia,?_⟩⟩
     have ne:n3≠n2:=by
      rcases G with h | h
      ·exact h
      ·intro z;subst z;rw[f,h]at e;simp at e;rw[e]at c1;cases c1
     refine nx _ _ ⟨⟨_,_,rfl⟩,fe.set (by lia) _,get_set f ne,?_,.inr trivial⟩;rw[cS _ e,tk,List.filter_append,List.filter_cons,if_pos (by rw[m,c1,c2];simp[k])];simp[mL,nD]
 ·rintro v M ⟨⟨C,E,rfl⟩,fe,f,e,_⟩;simp[j3];refine aQ (q _ _ fe ?_);rw[e,dZ,List.take_of_length_le (by simp)];rfl
def RO:OA:=λds mh Q=>∃c,ds=[aN c.A,aN c.B]/\Wc c/\∀M,FE nT mh M->Q (.bl !(xM c 8).isEmpty) M
theorem K6(l:List Nat)(w:Nat):((mM c).any λp=>p.2==w && l.contains p.1)=EL c l w:=by
 unfold EL;rw[Bool.eq_iff_iff,List.any_eq_true,List.any_eq_true];constructor
 ·rintro⟨p,a,h⟩;simp at h;refine⟨p.1,lP.mpr ?_,by simpa using h.2⟩;rw[<-h.1];exact a
 ·rintro⟨u,b,h⟩;exact⟨(u,w),lP.mp b,by simpa using h⟩
theorem aDu(ds:List D)(mh:MH)(R:DK)(ok:oG mh)(u:RO ds mh R):iC m8 xG (En mh R) (aK ["_law_above","_law_below","_law_left","_law_pairs","_law_turn"] ds) mh:=by
 obtain⟨c,rfl,v,q⟩:=u;have sz:=aIf;have K:=cG c;simp[iC,aK];refine⟨c,by simp,v,λg n1 n x=>?_⟩;dsimp only;rw[aP x];simp only[aD];refine dR EH (·.w) nD (spans c) (aP x) (λs u N hN=>?_) ?_
 ·simp[cX,EH];exact hN
 show iJ m8 xG _ [some (aN c.A),some (aN c.B),some (.ref g.length),none,none] (g++[MO.lst ((aC c).map nD)]);have o:=bH g (MO.lst ((aC c).map nD));have y:=n.push (MO.lst ((aC c).map nD));generalize g++[MO.lst ((aC c).map nD)]=M2 at o y⊢;generalize g.length=n2 at o⊢;simp[iJ];refine⟨c,by simp,v,λL n3 j C=>?_⟩;simp[mW];refine⟨by lia,?_⟩;refine bQ (λi t M=>∃r b,t=[some (aN c.A),some (aN c.B),some (.ref r),some (.ref n3),b]/\FE nT mh M/\M[n3]? =some (.lst ((mM c).map mL))/\M[r]? =some (.lst ((xM c i).map nD))) _ (λ_ _ _ _=>trivial) ?_ ?_ ⟨_,_,rfl,y.trans j,C,j.lst o⟩
 ·rintro i d t M N hi ⟨r,b,rfl,fe,m,e⟩ nx;obtain⟨hi,rfl⟩:=jK hi;simp[lZ];rw[aP e];simp only[aD];refine iW nD (EL c (xM c i)) id nD (λk =>FE nT M k) (xM c i) FE.refl (λk a=>aP (a.lst e)) ?_ ?_
  ·intro w O E b P Q F G;simp[cX];rw[aP (b.lst m)];simp only[aD];refine iW mL (λ_=>true) (λp=>p.2==w && (xM c i).contains p.1) D.bl (λk =>FE nT M k) (mM c) b (λk a=>aP (a.lst m)) ?_ ?_
   ·intro p H I f S T z U;simp[mL];unfold nD;rw[MC];simp only[bX,aD];by_cases h:p.2=w
    ·rw[if_pos (by simp;lia)];refine DH (w:=p.1) (l:=xM c i) (aP (f.lst e)) ?_;have:=z _ f rfl;simpa[h] using this
    ·rw[if_neg (by simp;lia)];have:=z _ f rfl;have J:(p.2==w)=false:=by simpa using h
     rw[J]at this;exact this
   ·intro I f;rw[List.filter_eq_self.mpr (λ_ _=>rfl)];rw[EY (bs:=(mM c).map λp=>p.2==w && (xM c i).contains p.1) (bH _ _)];rw[show ((mM c).map λp=>p.2==w && (xM c i).contains p.1).any id=EL c (xM c i) w by rw[List.any_map,<-K6];rfl];simp only[i6,aD]
    cases hb:EL c (xM c i) w with
    | true=>exact F _ (f.push _) hb
    | false=>exact G _ (f.push _) hb
  ·intro E b;rw[List.map_id];exact nx _ _ ⟨_,_,rfl,(fe.trans b).push _,aZ (b.lst m),bH _ _⟩
 ·rintro t M ⟨r,b,rfl,fe,m,e⟩;have e:M[r]? =some (.lst ((xM c 8).map nD)):=e;simp[mV];rw[rN e];simp only[V7,List.length_map];have:decide ((0:Int)<((xM c 8).length:Nat))= !(xM c 8).isEmpty:=by cases xM c 8 <;> simp <;> lia
  rw[this];exact aQ (q _ fe)
def E4:OA:=λds mh Q=>∃i,ds=[.int i]/\Q (.bl true) mh
theorem aDy(ds:List D)(mh:MH)(R:DK)(ok:oG mh)(a:E4 ds mh R):eM (En mh R) (aK ["_law_thing"] ds) mh:=by
 obtain⟨i,rfl,q⟩:=a;simp[eM,aK,QS,rH,bO];exact aQ q
theorem S0(h:hC c u w=false):¬((G5 c u).a<=(G5 c w).b/\(G5 c w).a<=(G5 c u).b):=by
 unfold hC meets at h;intro z;simp[z.1,z.2]at h
inductive Cn (c:aM):Nat->Nat->Nat->Prop
 | one {w:Nat}:w∈aC c->Cn c 1 w w
 | dn {n s u w:Nat}:Cn c n s u->u∈ups c w->Cn c (n+1) s w
variable{s e:Nat}
theorem Cn.pos(h:Cn c n s e):1<=n/\s∈aC c/\e∈aC c:=by
 induction h with
 | one h=>exact⟨aHw _,h,h⟩
 | dn h hu ih=>exact⟨by lia,ih.2.1,(qD hu).2.1⟩
theorem Cn.up{n s e v:Nat}(h:Cn c n s e)(hv:v∈ups c s):Cn c (n+1) v e:=by
 induction h with
 | one h=>exact .dn (.one (qD hv).1) hv
 | dn h hu ih=>exact .dn (ih hv) hu
theorem Cn.inv(h:Cn c n s e):n=1\/∃d m,n=m+1/\s∈ups c d/\Cn c m d e:=by
 induction h with
 | one h=>exact .inl rfl
 | dn h hu a=>
  right;rcases a with rfl | ⟨d,m,rfl,hd,b⟩
  ·cases h with
   | one h=>exact⟨_,1,rfl,hu,.one (qD hu).2.1⟩
   | dn h _=>have:=h.pos;lia
  ·exact⟨d,m+1,rfl,hd,.dn b hu⟩
theorem Cn.zN(E:eK c (aC c,R))(h:Cn c n s e):zN R s+n<=zN R e+1:=by
 induction h with
 | one h=>exact aHw _
 | dn h hu ih=>have:=W5 E hu;lia
theorem Cn.le(E:eK c (aC c,R))(h:Cn c n s e):n<=R.length:=by
 have:=h.zN E;have:=LF E h.pos.2.2
 lia
def Lnk(c:aM)(l:List Nat):Prop:=(∀w∈l,w∈aC c)/\∀p∈l.zip l.tail,p∈mM c
theorem KZ:((l++[u])++[w]).zip ((l++[u])++[w]).tail=((l++[u]).zip (l++[u]).tail)++[(u,w)]:=by
 induction l with
 | nil=>rfl
 | cons a l ih=>
  cases l with
  | nil=>rfl
  | cons b l=>simp at ih⊢;exact ih
theorem pL{c:aM}:∀{n w:Nat} {l:List Nat},w∈aC c->bV c n w=some l->(∃s,Cn c n s w)/\Lnk c l/\∃m,l=m++[w]
 | 0,_,_,_,h=>by cases h
 | 1,w,l,hw,h=>by
  cases h;exact⟨⟨w,.one hw⟩,⟨by simpa using hw,by simp⟩,[],rfl⟩
 | n+2,w,l,hw,h=>by
  unfold bV at h;obtain⟨u,a,h⟩:=aJj h;obtain⟨f,d,rfl⟩:=aI3.mp h;obtain⟨⟨s,e⟩,hk,m,rfl⟩:=pL (qD a).1 d;refine⟨⟨s,.dn e a⟩,⟨λv hv=>?_,λp b=>?_⟩,m++[u],rfl⟩
  ·rcases aI9.mp hv with h | h
   ·exact hk.1 v h
   ·simp at h;subst h;exact hw
  ·rw[KZ]at b;rcases aI9.mp b with h | h
   ·exact hk.2 p h
   ·simp at h;subst h;exact lP.mp a
theorem wO{c:aM}:∀{n w s:Nat},Cn c n s w->bV c n w≠none
 | 0,_,_,h=>by have:=h.pos;lia
 | 1,_,_,_=>by simp[bV]
 | n+2,w,s,h=>by
  cases h with
  | dn h a=>
   have:=wO h;intro z;unfold bV at z;rw[List.findSome?_eq_none_iff]at z;have z:=z _ a;rw[Option.map_eq_none_iff]at z;exact this z
theorem uN:((aC c).findSome? (bV c n)).isSome=true↔∃s e,Cn c n s e:=by
 constructor
 ·intro h;obtain⟨l,a⟩:=aKp.mp h;obtain⟨w,b,h⟩:=aJj a;obtain⟨⟨s,d⟩,_⟩:=pL b h;exact⟨s,w,d⟩
 ·rintro⟨s,e,h⟩
  cases hz:(aC c).findSome? (bV c n) with
  | some l=>rfl
  | none=>
   rw[List.findSome?_eq_none_iff]at hz;exact absurd (hz e h.pos.2.2) (wO h)
theorem IJ(h:(aC c).findSome? (bV c n)=some l):Lnk c l/\l.length=n:=by
 obtain⟨w,a,h⟩:=aJj h;exact⟨(pL a h).2.1,sD h⟩
structure QM(c:aM)(t:Nat)(P:List (Nat×Nat))(f:List Nat):Prop where
 len:f.length=9
 is:∀(w d:Nat),f[w]? =some d->d=1\/∃e,Cn c d w e
 rnd:∀n w e,Cn c n w e->n<=t+1->∃d,f[w]? =some d/\n<=d
 prs:∀p∈P,∀n e,Cn c n p.2 e->n<=t+1->∃d,f[p.1]? =some d/\n+1<=d
theorem w9(h:w∈aC c):w<9:=by have:=Q1 h;lia
theorem aHf(c:aM):QM c 0 [] (List.replicate 9 1):=by
 refine⟨by simp,λw d h=>?_,λn w e h a=>⟨1,by rw[List.getElem?_replicate,if_pos (w9 h.pos.2.1)],a⟩,λp b=>by cases b⟩;rw[List.getElem?_replicate]at h;split at h
 ·cases h;exact .inl rfl
 ·cases h
variable{f:List Nat}
theorem QM.step{t:Nat}{P:List (Nat×Nat)}(F:QM c t P f)(h:(u,w)∈mM c)(j:f[u]? =some a)(o:f[w]? =some b):QM c t (P++[(u,w)]) (f.set u (max a (b+1))):=by
 have k:=lP.mpr h;have l:u<f.length:=(aHv.mp j).1
 have mono:∀v d,f[v]? =some d->∃d',(f.set u (max a (b+1)))[v]? =some d' /\d<=d' :=λv d hd=>by
  by_cases e:u=v
  ·subst e;rw[j]at hd;cases hd;exact⟨_,List.getElem?_set_self l,Nat.le_max_left ..⟩
  ·exact⟨d,by rw[List.getElem?_set_ne e];exact hd,aHw _⟩
 refine⟨by simp[F.len],λv d hd=>?_,λn v e g i=>?_,λp r n e g i=>?_⟩
 ·by_cases e:u=v
  ·subst e;rw[List.getElem?_set_self l]at hd;cases hd;rcases Nat.le_total a (b+1) with h1 | h1
   ·right;rw[Nat.max_eq_right h1];rcases F.is w b o with rfl | ⟨e,he⟩
    ·exact⟨w,(Cn.one (qD k).2.1).up k⟩
    ·exact⟨e,he.up k⟩
   ·rw[Nat.max_eq_left h1];exact F.is u a j
  ·rw[List.getElem?_set_ne e]at hd;exact F.is v d hd
 ·obtain⟨d,h1,q⟩:=F.rnd n v e g i;obtain⟨d',m,s⟩:=mono v d h1;exact⟨d',m,by lia⟩
 ·rcases aI9.mp r with h | h
  ·obtain⟨d,h1,q⟩:=F.prs p h n e g i;obtain⟨d',m,s⟩:=mono _ d h1;exact⟨d',m,by lia⟩
  ·simp at h;subst h;obtain⟨d,h1,q⟩:=F.rnd n w e g i;rw[o]at h1;cases h1;refine⟨_,List.getElem?_set_self l,?_⟩;have:=Nat.le_max_right a (b+1)
   lia
theorem QM.next{t:Nat}(F:QM c t (mM c) f):QM c (t+1) [] f:=by
 refine⟨F.len,F.is,λn w e a h=>?_,λp b=>by cases b⟩;rcases a.inv with rfl | ⟨d,m,rfl,hd,g⟩
 ·exact F.rnd 1 w e a (by lia)
 ·exact F.prs (w,d) (lP.mp hd) m e g (by lia)
theorem LG(E:eK c (aC c,R))(k:Nat):gU c k<=R.length:=by
 have h:(((spans c).filter λs=>meets s ⟨0,k,k⟩).map λs=>zN R s.w).Nodup:=by
  have nd:=dI c;unfold aC at nd;rw[List.nodup_iff_pairwise_ne,List.pairwise_map]at nd;rw[List.nodup_iff_pairwise_ne,List.pairwise_map];have:=nd.filter λs=>meets s ⟨0,k,k⟩;refine List.Pairwise.imp_of_mem (λ{s t} a ht b z=>?_) this;obtain⟨s1,s2⟩:=aIy.mp a;obtain⟨d,e⟩:=aIy.mp ht;have:=IP E (aI1.mpr ⟨s,s1,rfl⟩) (aI1.mpr ⟨t,d,rfl⟩) b z;have f:=S0 this;rw[t9 s1,t9 d]at f;unfold meets at s2 e;simp at s2 e;exact f ⟨by lia,by lia⟩
 have:=gW h (m:=List.range R.length) λx g=>by
  obtain⟨s,a,rfl⟩:=aI1.mp g;have:=LF E (aI1.mpr ⟨s,(aIy.mp a).1,rfl⟩);simpa using this
 simpa[gU] using this
def IU:OA:=λds mh Q=>∃c k,ds=[aN c.A,aN c.B,nD k]/\Wc c/\∀M,FE nT mh M->Q (nD (gU c k)) M
theorem aDq(ds:List D)(mh:MH)(R:DK)(ok:oG mh)(f:IU ds mh R):iB m8 (En mh R) (aK ["_law_above","_law_below","_law_column"] ds) mh:=by
 obtain⟨c,k,rfl,i,q⟩:=f;simp[iB,aK];refine⟨c,by simp,i,λj n1 e d=>?_⟩;dsimp only;rw[aP d];simp only[aD];refine iW EH (λs=>meets s ⟨0,k,k⟩) id EH (λg =>g =j) (spans c) rfl (λg a=>by rw[a];exact aP d) ?_ ?_
 ·rintro s f M rfl N L n l;simp[cX,EH];rw[GC,show pP [nD s.w,nD s.a,nD s.b] 2=some (nD s.b) from rfl];simp only[aD,nD];rw[V6];simp only[bX,aD];by_cases d:s.a<=k
  ·rw[if_pos (by simp;lia)];rw[V6];simp only[bX,aD];by_cases h:k<=s.b
   ·rw[if_pos (by simp;lia)];exact n _ rfl (by simp[meets,d,h])
   ·rw[if_neg (by simp;lia)];exact l _ rfl (by simp[meets,d,h])
  ·rw[if_neg (by simp;lia)];exact l _ rfl (by simp[meets,d])
 ·rintro M rfl;rw[rN (bH _ _)];simp only[List.length_map,List.map_id];exact aQ (q _ (e.push _))
def IV:OA:=λds mh Q=>∃c m,ds=[aN c.A,aN c.B,nD m]/\Wc c/\∀M,FE nT mh M->Q (vC (cP c m c.A.length)) M
theorem aE2(ds:List D)(mh:MH)(R:DK)(ok:oG mh)(n:IV ds mh R):dG IU (En mh R) (aK ["_law_above","_law_below","_law_many","_law_column"] ds) mh:=by
 obtain⟨c,m,rfl,l,q⟩:=n;have sz:=aIf;have l2:=l.l2;simp[dG,aK,aN];refine⟨by lia,?_⟩;refine bQ (λi k M=>FE nT mh M/\(∃a,k=[some (aN c.A),some (aN c.B),some (nD m),a])/\∀j,j<i->gU c j≠m) _ (λ_ _ _ _=>trivial) ?_ ?_ ⟨FE.refl,⟨_,rfl⟩,λj h=>by lia⟩
 ·rintro i d k M N hi ⟨fe,⟨a,rfl⟩,f⟩ nx;obtain⟨hi,rfl⟩:=jK hi;simp[fT];refine⟨c,i,by simp[nD],l,λM2 b=>?_⟩;dsimp only;unfold nD;rw[MC];simp only[bX,aD];by_cases e:gU c i=m
  ·rw[if_pos (by simp;lia)];refine aQ ?_
   have:cP c m c.A.length=some i:=by
    unfold cP;rw[List.find?_range_eq_some];exact⟨by simpa using e,by simp;lia,λj g=>by simpa using f j g⟩
   have:=this▸q _ (fe.trans b);simpa[vC,nD] using this
  ·rw[if_neg (by simp;lia)];refine nx _ _ ⟨fe.trans b,⟨_,rfl⟩,λj g=>?_⟩;by_cases h:j=i
   ·rw[h];exact e
   ·exact f j (by lia)
 ·rintro k M ⟨fe,⟨a,rfl⟩,f⟩;simp[gG];refine aQ ?_
  have:cP c m c.A.length=none:=by
   unfold cP;rw[List.find?_range_eq_none];intro j g;simpa using f j (by simpa[lM] using g)
  have:=this▸q _ fe;exact this
def IY:OA:=λds mh Q=>∃c,ds=[aN c.A,aN c.B]/\Wc c/\∀M r f,FE nT mh M->QM c 8 [] f->M[r]? =some (.lst (f.map nD))->Q (.ref r) M
theorem aE7(ds:List D)(mh:MH)(R:DK)(ok:oG mh)(S:IY ds mh R):cM xG (En mh R) (aK ["_law_above","_law_below","_law_far","_law_turn","_law_up","_law_down"] ds) mh:=by
 obtain⟨c,rfl,I,q⟩:=S;have sz:=aIf;have l2:=I.l2;simp[cM,aK];refine⟨by lia,?_⟩;rw[E5];refine dR nD (λ_=>1) nD (List.range 9) trivial (λk hk N hN=>?_) ?_
 ·simp[cX];exact hN
 have T:((List.range 9).map λ_=>1).map nD=(List.replicate 9 1).map nD:=aJ7 (List.map nD) (by decide);rw[T];have h0:=bH mh (MO.lst ((List.replicate 9 1).map nD));have f0:FE nT mh (mh++[MO.lst ((List.replicate 9 1).map nD)]):=FE.refl.push _;generalize mh++[MO.lst ((List.replicate 9 1).map nD)]=Z at h0 f0⊢;simp[fG];refine⟨by lia,?_⟩;refine bQ (λi g M=>(∃t l m,g=[some (aN c.A),some (aN c.B),some (.ref mh.length),t,l,m])/\FE nT mh M/\∃f,M[mh.length]? =some (.lst (f.map nD))/\QM c i [] f) _ (λ_ _ _ _=>trivial) ?_ ?_ ⟨⟨_,_,_,rfl⟩,f0,_,h0,aHf c⟩
 ·rintro i d g M N hi ⟨⟨t,l,m,rfl⟩,fe,f,v,F⟩ nx;obtain⟨hi,rfl⟩:=jK hi;simp[eV];refine⟨c,by simp,I,λM2 n2 o r=>?_⟩;dsimp only;rw[aP r];simp only[aD];have s:=o.lst v
  have y :n2≠mh.length\/mM c=[]:=by
   by_cases z:n2=mh.length
   ·right;rw[z,s]at r
    cases ho:mM c with
    | nil=>rfl
    | cons p ps=>
     have C:=F.len
     cases f with
     | nil=>simp at C
     | cons x f=>rw[ho]at r;simp[mL,nD]at r
   ·exact .inl z
  refine bQ (λj g M=>(∃l m,g=[some (aN c.A),some (aN c.B),some (.ref mh.length),some (.int (i:Nat)),l,m])/\FE nT mh M/\M[n2]? =some (.lst ((mM c).map mL))/\∃f,M[mh.length]? =some (.lst (f.map nD))/\QM c i ((mM c).take j) f) _ (λ_ _ _ h=>aP h.2.2.1) ?_ ?_ ⟨⟨_,_,rfl⟩,fe.trans o,r,f,s,by simpa using F⟩
  ·rintro j d g U N3 J ⟨⟨l,m,rfl⟩,n,K,f,e,F⟩ E;rw[List.getElem?_map]at J;obtain⟨⟨u,w⟩,L,rfl⟩:=aI3.mp J;have pm:=aI2 L;have O:=qD (lP.mpr pm);have V:=w9 O.1;have v9:=w9 O.2.1;have C:=F.len
   have W:n2≠mh.length:=by
    rcases y with h | h
    ·exact h
    ·rw[h]at pm;cases pm
   have G:f[u]? =some (f[u]'(by lia)):=aIm (by lia);have H:f[w]? =some (f[w]'(by lia)):=aIm (by lia);generalize f[u]'(by lia)=a at G;generalize f[w]'(by lia)=b at H;simp[eU,mL];have P:=zC G;have Q:=zC H;have X:∀k:Nat,k<9->FP (f.map nD).length (k:Int)=some k:=λk hk=>by unfold FP;simp[C];lia
   unfold nD at P Q⊢;rw[iO e];unfold nD;rw[P];simp only[aD];rw[iO e];unfold nD;rw[Q];simp only[aD];rw[EZ];rw[L9]
   have Y:(if ((b:Nat):Int)+1 > (a:Nat) then ((b:Nat):Int)+1 else (a:Nat))=((max a (b+1):Nat):Int):=by
    split <;> lia
   rw[Y,EX e];rw[X u V];simp only[aD];refine E _ _ ⟨⟨_,_,rfl⟩,n.set (aHw _) _,get_set K (aIg W),f.set u (max a (b+1)),?_,by rw[dQ L];exact F.step pm G H⟩;rw[cS _ e,List.map_set];rfl
  ·rintro g U ⟨⟨l,m,rfl⟩,n,K,f,e,F⟩;rw[List.take_of_length_le (by simp)]at F;exact nx _ _ ⟨⟨_,_,_,rfl⟩,n,f,e,F.next⟩
 ·rintro g M ⟨⟨t,l,m,rfl⟩,fe,f,v,F⟩;simp[fF];exact aQ (q _ _ f fe F v)
theorem OW(l:List Nat):inN mh 0 (nD w) (l.map nD)=l.contains w:=in_nums l
theorem V3(mh:MH)(k:Nat):Thg mh 0 (nD k):=⟨rfl,by simp[eF,deep,nD]⟩
theorem V2(mh:MH)(p:Nat×Nat):Thg mh 0 (mL p):=⟨rfl,by simp[eF,deep,tB,mL,nD]⟩
theorem UR{p:Nat×Nat}{l:List (Nat×Nat)}(h:p∈l):inN mh 0 (mL p) (l.map mL)=true:=by
 unfold inN;rw[List.any_eq_true];refine⟨mL p,aI1.mpr ⟨p,h,rfl⟩,?_⟩;exact(qR (mL p) (mL p) rfl rfl).mpr rfl
def RT:OA:=λds mh Q=>∃c l,ds=[aN c.A,aN c.B,nD l.length,aN l]/\Wc c/\Lnk c l/\l.length<=12/\∀M,Q (.bl true) M
theorem aE1(ds:List D)(mh:MH)(R:DK)(ok:oG mh)(f:RT ds mh R):eN m8 E4 xG (En mh R) (aK ["_law_above","_law_below","_law_many","_law_thing","_law_needing","_law_pairs"] ds) mh:=by
 obtain⟨c,l,rfl,g,h,o,q⟩:=f;have sz:=aIf;simp[eN,aK];refine⟨c,by simp,g,λa n1 r i=>?_⟩;dsimp only;rw[aP i];simp only[aD];refine dR EH (·.w) nD (spans c) (aP i) (λs f N hN=>?_) ?_
 ·simp[cX,EH];exact hN
 show fD m8 E4 xG _ [some (aN c.A),some (aN c.B),some (nD l.length),some (aN l),some (.ref a.length),none] (a++[MO.lst ((aC c).map nD)]);have b:=bH a (MO.lst ((aC c).map nD));generalize a++[MO.lst ((aC c).map nD)]=M2 at b⊢;generalize a.length=n2 at b⊢;simp[fD,QS,rH,bO,i6,aN];refine⟨0,rfl,rfl,by simp[eF,deep],?_⟩;have t:hU (eF M2 0 (D.int (l.length:Nat))) (eF M2 0 (nD l.length))=true:=(qR _ _ rfl rfl).mpr rfl;rw[t];simp only[bX,aD];rw[if_neg (by decide)];simp only[aX,aD];refine dR nD (λ_=>true) D.bl l trivial (λk hk N hN=>?_) ?_
 ·simp[cX];exact⟨_,rfl,hN⟩
 rw[zT (bs:=l.map λ_=>true) (bH _ _)];have j:(l.map λ_=>true).all id=true:=by simp
 rw[j];simp only[aD];rw[if_pos trivial];have m:=aZ (x:=MO.lst ((l.map λ_=>true).map .bl)) b;generalize M2++[MO.lst ((l.map λ_=>true).map .bl)]=M3 at m⊢;simp[jG];refine⟨c,by simp[aN],g,λu E e v=>?_⟩;have y:=e.lst m;simp[jF,aX];refine dR nD (λ_=>true) D.bl l trivial (λk hk N hN=>?_) ?_
 ·simp[cX];refine⟨0,_,aP y,V3 _ _,λd hd=>by obtain⟨w,_,rfl⟩:=aI1.mp hd;exact V3 _ _,?_⟩;rw[OW];have:(aC c).contains k=true:=by simpa using h.1 k hk
  rw[this];exact hN
 rw[zT (bs:=l.map λ_=>true) (bH _ _),j];simp only[bX,aD];rw[if_pos trivial];have n:=aZ (x:=MO.lst ((l.map λ_=>true).map .bl)) v;generalize u++[MO.lst ((l.map λ_=>true).map .bl)]=M6 at n⊢;rw[yX];refine⟨by lia,?_⟩;rw[<-List.map_tail,zip_map];refine dR mL (λ_=>true) D.bl (l.zip l.tail) trivial (λp z N hN=>?_) ?_
 ·simp[cX];refine⟨0,_,aP n,V2 _ _,λd hd=>by obtain⟨w,_,rfl⟩:=aI1.mp hd;exact V2 _ _,?_⟩;rw[UR (h.2 p z)];exact hN
 rw[zT (bs:=(l.zip l.tail).map λ_=>true) (bH _ _)];have C:((l.zip l.tail).map λ_=>true).all id=true:=by simp
 rw[C];exact aQ (q _)
theorem wV(f:Int->Int->Bool):∀(ms:List Int) (m:Int),bestOf f m ms∈m::ms
 | [],m=>by simp[bestOf]
 | x::r,m=>by
  have:bestOf f m (x::r)=bestOf f (if f x m then x else m) r:=rfl;rw[this];have:=wV f r (if f x m then x else m);rcases aI5.mp this with h | h
  ·rw[h];split <;> simp
  ·exact aI0 _ (aI0 _ h)
theorem BJ:∀(ms:List Int) (m:Int),∀x∈m::ms,x<=bestOf (λa b=>decide (a > b)) m ms
 | [],m,x,h=>by simp at h;subst h;simp[bestOf]
 | y::r,m,x,h=>by
  have e:bestOf (λa b=>decide (a > b)) m (y::r)=bestOf (λa b=>decide (a > b)) (if decide (y > m) then y else m) r:=rfl;rw[e];have t:=BJ r (if decide (y > m) then y else m) _ aHx;rcases aI5.mp h with rfl | h
  ·refine Int.le_trans ?_ t;split <;> simp_all <;> lia
  ·rcases aI5.mp h with rfl | h
   ·refine Int.le_trans ?_ t;split <;> simp_all <;> lia
   ·exact BJ r _ x (aI0 _ h)
theorem maxD_mem{i:Int}{ms:List Int}(h:ms≠[]):maxD i ms∈ms:=by
 cases ms with
 | nil=>exact absurd rfl h
 | cons m r=>exact wV _ r m
theorem TQ{i x:Int}{ms:List Int}(h:x∈ms):x<=maxD i ms:=by
 cases ms with
 | nil=>cases h
 | cons m r=>exact BJ r m x h
theorem PB{t:Nat}{P:List (Nat×Nat)}(F:QM c t P f){w d:Nat}(a:w∈aC c)(h:f[w]? =some d):∃e,Cn c d w e:=by
 rcases F.is w d h with rfl | h
 ·exact⟨w,.one a⟩
 ·exact h
theorem CW(a:Wc c){m:Nat}(b:m=0)(h:aC c=[]):cP c m c.A.length=some 0:=by
 subst b;have e:spans c=[]:=by unfold aC at h;simpa using h
 unfold cP;rw[List.find?_range_eq_some];refine⟨by simp[gU,e],by have:=a.l1;simp;lia,λj d=>by lia⟩
def RS:OA:=λds mh Q=>∃c,ds=[aN c.A,aN c.B,nD (rowsOf c).length,d7 c (rowsOf c).length c.A.length]/\Wc c/\iZ c/\∀M,Q (.bl true) M
theorem aE0(ds:List D)(mh:MH)(R:DK)(ok:oG mh)(t:RS ds mh R):cH IV m8 IY E4 RT (En mh R) (aK ["_law_above","_law_below","_law_many","_law_thing","_law_needing","_law_far"] ds) mh:=by
 obtain⟨c,rfl,b,y,q⟩:=t;have sz:=aIf;have K:=cG c;have E:=zU y;have u:=E.RX.2;have u:(rowsOf c).length<=8:=u
 have o:aC c=[]->(rowsOf c).length=0:=λh=>by
  have:=vX E.ne
  have B:(aC c,rowsOf c).2.flatten=[]:=by
   cases hz:(aC c,rowsOf c).2.flatten with
   | nil=>rfl
   | cons a l=>
    have:=(E.mem a).mpr (by rw[hz];exact aHx);rw[show (aC c,rowsOf c).1=aC c from rfl,h]at this;cases this
  rw[B]at this;simpa using this
 unfold d7;have ne1:Str.ofString "thick"≠Str.ofString "all":=by decide
 have ne2:Str.ofString "chain"≠Str.ofString "all":=by decide
 have ne3:Str.ofString "chain"≠Str.ofString "thick":=by decide
 cases et:cP c (rowsOf c).length c.A.length with
 | some k=>
  simp[cH,aK,QS,rH,bO,i6,dF,dE,dD];rw[if_neg ne1];rw[GC];simp only[aD];refine⟨_,rfl,?_⟩;simp only[bX,aD];rw[if_pos trivial];refine⟨c,_,rfl,b,λM2 _=>?_⟩;rw[et];simp only[vC,nD];rw[MC];simp;exact aQ (q _)
 | none=>
  cases ec:(aC c).findSome? (bV c (rowsOf c).length) with
  | some l=>
   obtain⟨C,G⟩:=IJ ec;simp[cH,aK,QS,rH,bO,i6,dF,dE,dD];rw[if_neg ne2,if_neg ne3];simp[iL];have es:hU (cL mh (D.str (Str.ofString "chain"))) (cL mh (D.str (Str.ofString "chain")))=true:=(qR _ _ rfl rfl).mpr rfl;refine⟨rfl,rfl,by simp[cL,deep],?_⟩;rw[es];simp only[bX,aD];rw[if_neg (by decide)];refine⟨c,_,rfl,b,λM2 _=>?_⟩;rw[et];simp[vC,iS,iK];rw[GC];simp only[aD];refine⟨c,l,by rw[G],b,C,by lia,λg=>aQ (q _)⟩
  | none=>
   have j:aC c≠[]:=λh=>by
    have:=CW b (o h) h;rw[et]at this;cases this
   simp[cH,aK,QS,rH,bO,i6,dF,dE,dD];refine⟨c,_,by simp;rfl,b,λM2 _=>?_⟩;rw[et];simp[vC,iS];refine⟨c,by simp,b,λg n3 H v=>?_⟩;dsimp only;rw[aP v];simp only[aD];refine dR EH (·.w) nD (spans c) (aP v) (λs t N hN=>?_) ?_
   ·simp[cX,EH];exact hN
   have p:(g++[MO.lst (((spans c).map (·.w)).map nD)])[g.length]? =some (.lst ((aC c).map nD)):=bH _ _;generalize g++[MO.lst (((spans c).map (·.w)).map nD)]=L at p⊢;generalize g.length=M at p⊢;refine⟨c,by simp,b,λO P f r F I=>?_⟩;have x:=r.lst p;simp;rw[aP x];simp only[aD]
   have m:∀w∈aC c,f[w]? =some (f.getD w 0):=λw j=>by
    rw[List.getD_eq_getElem?_getD,List.getElem?_eq_getElem (by rw[F.len];exact w9 j)];rfl
   refine dR nD (λw=>f.getD w 0) nD (aC c) (aP x) (λw j N hN=>?_) ?_
   ·simp[cX];unfold nD;rw[iO I];have:=zC (m w j);unfold nD at this⊢;rw[this];exact hN
   refine⟨((aC c).map λw=>f.getD w 0).map λk=>((k:Nat):Int),0,?_,rfl,?_⟩
   ·rw[AO (bH _ _)];simp[nD,Function.comp_def]
   dsimp only;unfold nD;rw[MA]
   have lt:maxD 0 (((aC c).map λw=>f.getD w 0).map λk=>((k:Nat):Int))<((rowsOf c).length:Nat):=by
    have J:=maxD_mem (i:=0) (ms:=((aC c).map λw=>f.getD w 0).map λk=>((k:Nat):Int)) (by simpa using j);obtain⟨d,hd,e⟩:=aI1.mp J;obtain⟨w,n,rfl⟩:=aI1.mp hd;obtain⟨Q,he⟩:=PB F n (m w n);have le:=he.le E
    have ne:f.getD w 0≠(rowsOf c).length:=λz=>by
     rw[z]at he;have:=uN.mpr ⟨_,_,he⟩;rw[ec]at this;cases this
    lia
   rw[show decide (maxD 0 (((aC c).map λw=>f.getD w 0).map λk=>((k:Nat):Int))<((rowsOf c).length:Nat))=true by simpa using lt];exact aQ (q _)
theorem aD0(h:(xM c 8).isEmpty=true):iZ c:=by
 unfold iZ
 cases e:xM c 8 with
 | nil=>rfl
 | cons a l=>rw[e]at h;cases h
theorem aDz(ds:List D)(mh:MH)(R:DK)(ok:oG mh)(hs:xH ds mh R):GS RW RV RO RK m8 IY IU IV RS (En mh R) (aK ["_law_script","_law_k","_law_bag_here","_law_above","_law_below","_law_many","_law_tracks","_law_reason","_law_kind","_law_needing","_law_far","_law_thick_here"] ds) mh:=by
 obtain⟨ns,rfl,B,q⟩:=hs;have sz:=aIf;simp[GS,aK];refine⟨by split <;> lia,by split <;> lia,?_⟩;refine bQ (λi ρ _=>∃a b c d e f g h i j k,ρ=[some (.fl (ns.map .int)),a,b,c,d,e,f,g,h,i,j,k]) _ (λ_ _ _ _=>trivial) ?_ ?_ ⟨_,_,_,_,_,_,_,_,_,_,_,rfl⟩
 ·rintro i d ρ C N hi ⟨a,b,c,d0,e,f,g,h,i0,j,k,rfl⟩ nx;obtain⟨hi,rfl⟩:=jK hi
  have hi9:i<12:=by
   revert hi;split <;> intro hi <;> lia
  simp[B4];refine⟨ns,_,rfl,B,by lia,by lia,λmh2 _ b2=>?_⟩;simp[uQ];refine⟨C.length,rfl,b2,λc M o be=>?_⟩;simp[uP];refine⟨c,by simp,o,λM2 fe2=>?_⟩;simp only[i6,aD,Bool.not_not]
  cases hr:(xM c 8).isEmpty with
  | false=>exact nx _ _ ⟨_,_,_,_,_,_,_,_,_,_,_,rfl⟩
  | true=>
   have H:=aD0 hr;have E:=zU H;have r8:(rowsOf c).length<=8:=E.RX.2;have wl:=cG c;have l1:=o.l1;have l2:=o.l2;rw[if_neg (by decide)];refine⟨c,by simp,o,H,λM3=>?_⟩;unfold K1;simp;refine⟨c,by simp,o,λV n4 fe4 h4=>?_⟩;dsimp only;rw[aP h4];simp only[aD];refine dR EH (·.w) nD (spans c) (aP h4) (λs hs N hN=>?_) ?_
   ·simp[cX,EH];exact hN
   have W:(V++[MO.lst (((spans c).map (·.w)).map nD)])[V.length]? =some (.lst ((aC c).map nD)):=bH _ _;generalize V++[MO.lst (((spans c).map (·.w)).map nD)]=M5 at W⊢;generalize V.length=n5 at W⊢;rw[aP W];simp only[aD];refine D0 (λi t M=>FE nT M5 M/\∃L:List Nat,t=L.map nD/\L.length=i/\(∀d∈L,∃w e,Cn c d w e)/\∀w∈(aC c).take i,∃d∈L,∀n e,Cn c n w e->n<=d) _ (λ_ _ _ h=>aP (h.1.lst W)) ?_ ?_ ⟨FE.refl,[],rfl,rfl,by simp,by simp⟩
   ·rintro i d t M N2 hi ⟨fe,L,rfl,x,Y,Z⟩ u;rw[List.getElem?_map]at hi;obtain⟨w,p,rfl⟩:=aI3.mp hi;have wm:=aI2 p;simp[cX];refine⟨c,by simp,o,λM6 r6 f I F h6=>?_⟩
    have fw:f[w]? =some (f.getD w 0):=by
     rw[List.getD_eq_getElem?_getD,List.getElem?_eq_getElem (by rw[F.len];exact w9 wm)];rfl
    dsimp only;unfold nD;rw[iO h6];have:=zC fw;unfold nD at this⊢;rw[this];simp only[aD];refine u _ _ ⟨fe.trans I,L++[f.getD w 0],by simp[nD],by simp[x],λd hd=>?_,λv hv=>?_⟩
    ·rcases aI9.mp hd with h | h
     ·exact Y d h
     ·simp at h;subst h;obtain⟨e,he⟩:=PB F wm fw;exact⟨w,e,by simpa using he⟩
    ·rw[dQ p]at hv;rcases aI9.mp hv with h | h
     ·obtain⟨d,h1,J⟩:=Z v h;exact⟨d,aJx _ h1,J⟩
     ·simp at h;subst h;refine⟨f.getD v 0,by simp,λn e K=>?_⟩;obtain⟨d,h1,J⟩:=F.rnd n v e K (by have:=K.le E;lia);rw[fw]at h1;cases h1;exact J
   rintro t M6 ⟨I,L,rfl,x,Y,Z⟩;rw[List.length_map,List.take_length]at Z;rw[List.length_map]at x;refine⟨L.map λk=>((k:Nat):Int),0,by rw[AO (bH _ _)];simp[nD,Function.comp_def],rfl,?_⟩;generalize O:maxD 0 (L.map λk=>((k:Nat):Int))=F
   have fle:F<=(rowsOf c).length:=by
    by_cases p:L=[]
    ·rw[<-O,p];simp[maxD]
    ·have P:=maxD_mem (i:=0) (ms:=L.map λk=>((k:Nat):Int)) (by simpa using p);rw[O]at P;obtain⟨d,hd,e⟩:=aI1.mp P;obtain⟨w,e2,he⟩:=Y d hd;have:=he.le E
     lia
   have fge:cP c (rowsOf c).length c.A.length=none->(F>=(rowsOf c).length↔((aC c).findSome? (bV c (rowsOf c).length)).isSome=true):=λy=>by
    rw[uN];constructor
    ·intro h;by_cases p:L=[]
     ·have h0:F=0:=by rw[<-O,p];rfl
      have w0:aC c=[]:=by
       rw[p]at x
       cases hx:aC c with
       | nil=>rfl
       | cons a l=>rw[hx]at x;simp at x
      have:=CW o (m:=(rowsOf c).length) (by lia) w0;rw[y]at this;cases this
     ·have P:=maxD_mem (i:=0) (ms:=L.map λk=>((k:Nat):Int)) (by simpa using p);rw[O]at P;obtain⟨d,hd,e⟩:=aI1.mp P;obtain⟨w,e2,he⟩:=Y d hd;have:=he.le E;have:d=(rowsOf c).length:=by lia
      subst this;exact⟨w,e2,he⟩
    ·rintro⟨s,e,K⟩;obtain⟨d,hd,J⟩:=Z s K.pos.2.1;have:=J _ _ K;have ge:=TQ (i:=0) (ms:=L.map λk=>((k:Nat):Int)) (aI1.mpr ⟨d,hd,rfl⟩);rw[O]at ge
     lia
   generalize M6++[MO.lst (L.map nD)]=M7;simp only[aN,MB,List.length_map];refine⟨_,rfl,by lia,by lia,?_⟩;simp only[Int.toNat_natCast];rw[E5];refine D0 (λi t M=>∃T:List Nat,t=T.map nD/\T.length=i/\∀d∈T,d<=(rowsOf c).length) _ (λ_ _ _ _=>trivial) ?_ ?_ ⟨[],rfl,rfl,by simp⟩
   ·rintro i d t M N2 hi ⟨T,rfl,hT,pT⟩ u;rw[List.getElem?_map]at hi;obtain⟨k,hk,rfl⟩:=aI3.mp hi;simp[cX];refine⟨c,k,by simp[aN],o,λM8 _=>u _ _ ⟨T++[gU c k],by simp,by simp[hT],λd hd=>?_⟩⟩;rcases aI9.mp hd with h | h
    ·exact pT d h
    ·simp at h;subst h;exact LG E k
   rintro t M8 ⟨T,rfl,hT,pT⟩;simp at hT
   cases T with
   | nil=>simp at hT;lia
   | cons S T=>
    refine⟨_,(S:Nat),T.map λk=>((k:Nat):Int),rfl,by rw[aP (bH _ _)];simp[nD,Function.comp_def],?_⟩;generalize hG:bestOf (λa b=>decide (a > b)) (S:Nat) (T.map λk=>((k:Nat):Int))=G
    have gle:G<=(rowsOf c).length:=by
     have:=wV (λa b=>decide (a > b)) (T.map λk=>((k:Nat):Int)) (S:Nat);rw[hG]at this;rcases aI5.mp this with h | h
     ·have:=pT S (by simp);lia
     ·obtain⟨d,hd,e⟩:=aI1.mp h;have:=pT d (by simp[hd]);lia
    rw[L9];generalize hX:(if G > F then G else F)=X;have xle:X<=(rowsOf c).length:=by rw[<-hX];split <;> lia
    generalize M8++[MO.lst (List.map nD (S::T))]=M9;unfold nD;rw[MA];simp only[bX,aD];rw[if_neg (by simp;lia)];have es:∀{M:MH} {z:Str},hU (cL M (D.str z)) (cL M (D.str z))=true:=λ{M z}=>(qR (.str z) (.str z) rfl rfl).mpr rfl;refine⟨c,_,rfl,o,λM10 _=>?_⟩
    cases y:cP c (rowsOf c).length c.A.length with
    | some k=>
     simp only[vC,nD,iS,Bool.false_eq_true,if_false];have U:∀{M:MH} {Q:DK},Q (.str (Str.ofString "thick")) M->gV (d7 c (rowsOf c).length c.A.length) (.int 0) M Q:=λh=>by unfold d7;rw[y];exact(CH _ _).mpr h
     refine⟨c,rfl,o,H,λM9=>?_⟩;simp only[aD];rw[if_pos trivial];refine U ⟨rfl,rfl,by simp[cL,deep],?_⟩;rw[es];simp only[bX,aD];rw[if_neg (by decide)];exact nx _ _ ⟨_,_,_,_,_,_,_,_,_,_,_,rfl⟩
    | none=>
     simp only[vC,iS,if_true];rw[aC2];simp only[bX,aD];have fg:=fge y;by_cases r:F>=(rowsOf c).length
     ·rw[if_pos (by simpa using r)];obtain⟨l,B⟩:=aKp.mp (fg.mp r);have U:∀{M:MH} {Q:DK},Q (.str (Str.ofString "chain")) M->gV (d7 c (rowsOf c).length c.A.length) (.int 0) M Q:=λh=>by unfold d7;rw[y,B];exact(CH _ _).mpr h
      refine⟨c,rfl,o,H,λM9=>?_⟩;simp only[aD];rw[if_pos trivial];refine U ⟨rfl,rfl,by simp[cL,deep],?_⟩;rw[es];simp only[bX,aD];rw[if_neg (by decide)];exact nx _ _ ⟨_,_,_,_,_,_,_,_,_,_,_,rfl⟩
     ·rw[if_neg (by simpa using r)]
      have B:(aC c).findSome? (bV c (rowsOf c).length)=none:=by
       cases hz:(aC c).findSome? (bV c (rowsOf c).length) with
       | none=>rfl
       | some l=>exact absurd (fg.mpr (by rw[hz];rfl)) r
      have U:∀{M:MH} {Q:DK},Q (.str (Str.ofString "all")) M->gV (d7 c (rowsOf c).length c.A.length) (.int 0) M Q:=λh=>by unfold d7;rw[y,B];exact(CH _ _).mpr h
      refine⟨c,rfl,o,H,λM9=>?_⟩;simp only[aD];rw[if_pos trivial];refine U ⟨rfl,rfl,by simp[cL,deep],?_⟩;rw[es];simp only[bX,aD];rw[if_neg (by decide)];exact nx _ _ ⟨_,_,_,_,_,_,_,_,_,_,_,rfl⟩
 ·rintro ρ C ⟨a,b,c,d0,e,f,g,h,i,j,k,rfl⟩;simp[GR];exact aQ (q _)
variable{P:List Value->Prop}
theorem aH7(us:List Value)(b:us.length=0)(h:P []):P us:=by
 cases us with
 | nil=>exact h
 | cons a us=>cases b
theorem aD7(us:List Value)(b:us.length=1)(h:∀c,P [c]):P us:=by
 cases us with
 | nil=>cases b
 | cons a us=>exact aH7 (P:=λus=>P (a::us)) us (aLv b) (h a)
theorem aD6(us:List Value)(b:us.length=2)(h:∀c d,P [c,d]):P us:=by
 cases us with
 | nil=>cases b
 | cons a us=>exact aD7 (P:=λus=>P (a::us)) us (aLv b) (h a)
theorem aD5(us:List Value)(b:us.length=3)(h:∀c d e,P [c,d,e]):P us:=by
 cases us with
 | nil=>cases b
 | cons a us=>exact aD6 (P:=λus=>P (a::us)) us (aLv b) (h a)
theorem aH6(us:List Value)(b:us.length=4)(h:∀c d e f,P [c,d,e,f]):P us:=by
 cases us with
 | nil=>cases b
 | cons a us=>exact aD5 (P:=λus=>P (a::us)) us (aLv b) (h a)
variable{x:Str}{st:Stmt}{ps:List Str}
theorem VJ(h:∀kV doc pm an cdv ct g,bindArgs (PySem.W.fnOf x x (eQ st) (cU st) (aF st) .none kV doc pm an cdv ct) ⟨[g],[]⟩=pure (ps.zip [g]))(i:ps.length=1:=by rfl):bW x st ps:=λa b c d e f us j=>aD7 (P:=λus=>bindArgs _ ⟨us,[]⟩=pure (List.zip _ us)) us (j.trans i) (h a b c d e f)
theorem tT(h:∀kV doc pm an cdv ct g i,bindArgs (PySem.W.fnOf x x (eQ st) (cU st) (aF st) .none kV doc pm an cdv ct) ⟨[g,i],[]⟩=pure (ps.zip [g,i]))(j:ps.length=2:=by rfl):bW x st ps:=λa b c d e f us k=>aD6 (P:=λus=>bindArgs _ ⟨us,[]⟩=pure (List.zip _ us)) us (k.trans j) (h a b c d e f)
theorem QD(h:∀kV doc pm an cdv ct g i j,bindArgs (PySem.W.fnOf x x (eQ st) (cU st) (aF st) .none kV doc pm an cdv ct) ⟨[g,i,j],[]⟩=pure (ps.zip [g,i,j]))(k:ps.length=3:=by rfl):bW x st ps:=λa b c d e f us l=>aD5 (P:=λus=>bindArgs _ ⟨us,[]⟩=pure (List.zip _ us)) us (l.trans k) (h a b c d e f)
theorem aAr(h:∀kV doc pm an cdv ct g i j k,bindArgs (PySem.W.fnOf x x (eQ st) (cU st) (aF st) .none kV doc pm an cdv ct) ⟨[g,i,j,k],[]⟩=pure (ps.zip [g,i,j,k]))(l:ps.length=4:=by rfl):bW x st ps:=λa b c d e f us m=>aH6 (P:=λus=>bindArgs _ ⟨us,[]⟩=pure (List.zip _ us)) us (m.trans l) (h a b c d e f)
theorem D7:bW "spans_of" gH ["above","below"]:=tT λ_ _ _ _ _ _ _ _=>rfl
theorem BK:bW "orders_of" fH ["above","below","spans"]:=QD λ_ _ _ _ _ _ _ _ _=>rfl
theorem GB:bW "ring_in" iN ["uppers"]:=VJ λ_ _ _ _ _ _ _=>rfl
theorem VL:bW "meet" qH ["one","other"]:=tT λ_ _ _ _ _ _ _ _=>rfl
theorem D8:bW "fillings" gI ["spans","wires"]:=tT λ_ _ _ _ _ _ _ _=>rfl
theorem xV:bW "free_wires" eH ["uppers","laid"]:=tT λ_ _ _ _ _ _ _ _=>rfl
theorem sF:bW "fewest_tracks" c6 ["spans","uppers"]:=tT λ_ _ _ _ _ _ _ _=>rfl
theorem tU:bW "thick_column" dJ ["spans","many","wide"]:=QD λ_ _ _ _ _ _ _ _ _=>rfl
theorem tF:bW "chain_to" gJ ["uppers","wire","many"]:=QD λ_ _ _ _ _ _ _ _ _=>rfl
theorem xU:bW "reason_for" eG ["spans","uppers","many","wide"]:=aAr λ_ _ _ _ _ _ _ _ _ _=>rfl
theorem QE:bW "wired" m7 ["above","below"]:=tT λ_ _ _ _ _ _ _ _=>rfl
theorem D9:bW "_law_bag" gK ["_law_script","_law_at"]:=tT λ_ _ _ _ _ _ _ _=>rfl
theorem BL:bW "_law_take" fI ["_law_bag_here","_law_many"]:=tT λ_ _ _ _ _ _ _ _=>rfl
theorem sG:bW "_law_is_whole" c7 ["_law_thing"]:=VJ λ_ _ _ _ _ _ _=>rfl
theorem tX:bW "_law_columns" dO ["_law_bag_here"]:=VJ λ_ _ _ _ _ _ _=>rfl
theorem tV:bW "_law_spanned" dM ["_law_above","_law_below"]:=tT λ_ _ _ _ _ _ _ _=>rfl
theorem tW:bW "_law_ordered" dN ["_law_above","_law_below"]:=tT λ_ _ _ _ _ _ _ _=>rfl
theorem xX:bW "_law_rings" eJ ["_law_above","_law_below"]:=tT λ_ _ _ _ _ _ _ _=>rfl
theorem xW:bW "_law_thick" eI ["_law_above","_law_below","_law_column"]:=QD λ_ _ _ _ _ _ _ _ _=>rfl
theorem oK:bW "_law_first_thick" bZ ["_law_above","_law_below","_law_many"]:=QD λ_ _ _ _ _ _ _ _ _=>rfl
theorem mN:bW "_law_chain_lengths" bP ["_law_above","_law_below"]:=tT λ_ _ _ _ _ _ _ _=>rfl
theorem sH:bW "_law_is_chain" c8 ["_law_above","_law_below","_law_many","_law_thing"]:=aAr λ_ _ _ _ _ _ _ _ _ _=>rfl
theorem qZ:bW "_law_is_reason" cQ ["_law_above","_law_below","_law_many","_law_thing"]:=aAr λ_ _ _ _ _ _ _ _ _ _=>rfl
theorem aAs:bW "law" uY ["_law_script"]:=VJ λ_ _ _ _ _ _ _=>rfl
structure Al(w:World)(K:aLw)(mg:aLz):Prop where
 F1:eT K "spans_of" gH
 DY:eT K "orders_of" fH
 KC:eT K "ring_in" iN
 aA8:eT K "meet" qH
 F2:eT K "fillings" gI
 A9:eT K "free_wires" eH
 tQ:eT K "fewest_tracks" c6
 wD:eT K "thick_column" dJ
 wF:eT K "chain_to" gJ
 A8:eT K "reason_for" eG
 U3:eT K "wired" m7
 F4:eT K "_law_bag" gK
 DZ:eT K "_law_take" fI
 tR:eT K "_law_is_whole" c7
 wI:eT K "_law_columns" dO
 wG:eT K "_law_spanned" dM
 wH:eT K "_law_ordered" dN
 BB:eT K "_law_rings" eJ
 BA:eT K "_law_thick" eI
 pK:eT K "_law_first_thick" bZ
 nO:eT K "_law_chain_lengths" bP
 tS:eT K "_law_is_chain" c8
 sA:eT K "_law_is_reason" cQ
 aEe:eT K "law" uY
 nu:NoU K
section
variable {P:Program}{w:World}{K:aLw}{mg:aLz}{base h:Heap}(KX:K.In h)(G:h.Ns mainGlobals mg)(B:Bl mg)(A:Al w K mg)
include KX G B A
theorem vZ :Fn P w K mg base 1 "spans_of" ["above","below"] (RM):=
 d5 (wB:=k9) (k:=0) A.F1 KX G D7 sR (by with_reducible exact FJ B) (λds mh R h=>by obtain⟨_,rfl,_⟩:=h;rfl) aDs
theorem sY :Fn P w K mg base 1 "orders_of" ["above","below","spans"] (RQ):=
 d5 (wB:=jA) (k:=0) A.DY KX G BK qJ (by with_reducible exact C6 B) (λds mh R h=>by obtain⟨_,_,rfl,_⟩:=h;rfl) aDx
theorem yU :Fn P w K mg base 1 "ring_in" ["uppers"] (RN):=
 d5 (wB:=nV) (k:=0) A.KC KX G GB u4 (by with_reducible exact JV B) (λds mh R h=>by obtain⟨_,_,rfl,_⟩:=h;rfl) aDt
theorem A5 :Fn P w K mg base 1 "meet" ["one","other"] (yG):=
 d5 (wB:=zH) (k:=0) A.aA8 KX G VL G6 (by with_reducible exact ZQ B) (λds mh R h=>by obtain⟨_,_,rfl,_⟩:=h;rfl) Z9
theorem v5 :Fn P w K mg base 2 "fillings" ["spans","wires"] (IX):=
 d5 (wB:=lD (yG)) (k:=1) A.F2 KX G D8 sS (by with_reducible exact FK B ((A5 KX G B A).mono (by lia))) (λds mh R h=>by obtain⟨_,_,_,_,rfl,_⟩:=h;rfl) aE4
theorem qU :Fn P w K mg base 1 "free_wires" ["uppers","laid"] (IW):=
 d5 (wB:=iA) (k:=0) A.A9 KX G xV oZ (by with_reducible exact AR B) (λds mh R h=>by obtain⟨_,_,_,rfl,_⟩:=h;rfl) aE3
theorem mG :Fn P w K mg base 3 "fewest_tracks" ["spans","uppers"] (RU):=
 d5 (wB:=eL (IX) (IW)) (k:=2) A.tQ KX G sF kI (by with_reducible exact tK B ((v5 KX G B A).mono (by lia)) ((qU KX G B A).mono (by lia)) A.nu) (λds mh R h=>by obtain⟨_,_,_,rfl,_⟩:=h;rfl) aE5
theorem nM :Fn P w K mg base 2 "thick_column" ["spans","many","wide"] (RL):=
 d5 (wB:=eY (yG)) (k:=1) A.wD KX G tU mB (by with_reducible exact vL B ((A5 KX G B A).mono (by lia))) (λds mh R h=>by obtain⟨_,_,_,_,rfl,_⟩:=h;rfl) aDp
theorem lS :∀n:Nat,Fn P w K mg base (n+1) "chain_to" ["uppers","wire","many"] (sCh n)
 | 0=>(O9 A.wF KX G tF).imp λds mh R h=>by obtain⟨_,_,_,_,rfl,h,_⟩:=h;lia
 | n+1=>aA5 (wB:=lE (sCh n)) (k:=n+1) (by lia) A.wF KX G tF sT (by with_reducible exact FL B (lS n)) (λds mh R h=>by obtain⟨_,_,_,_,rfl,_⟩:=h;rfl) (aHd n)
theorem qT :Fn P w K mg base 10 "reason_for" ["spans","uppers","many","wide"] (RP):=
 d5 (wB:=hZ (RL) (sCh 8)) (k:=9) A.A8 KX G xU oY (by with_reducible exact AQ B ((nM KX G B A).mono (by lia)) ((lS KX G B A 8).mono (by lia))) (λds mh R h=>by obtain⟨_,_,_,_,_,rfl,_⟩:=h;rfl) aDv
theorem HW :Fn P w K mg base 11 "wired" ["above","below"] (RK):=
 d5 (wB:=tY (RM) (RQ) (RN) (RU) (RP)) (k:=10) A.U3 KX G QE CG (by with_reducible exact UN B ((vZ KX G B A).mono (by lia)) ((sY KX G B A).mono (by lia)) ((yU KX G B A).mono (by lia)) ((mG KX G B A).mono (by lia)) ((qT KX G B A).mono (by lia))) (λds mh R h=>by obtain⟨_,rfl,_⟩:=h;rfl) aDo
theorem v7 :Fn P w K mg base 1 "_law_bag" ["_law_script","_law_at"] (RW):=
 d5 (wB:=lH) (k:=0) A.F4 KX G D9 sU (by with_reducible exact FN B) (λds mh R h=>by obtain⟨_,_,rfl,_⟩:=h;rfl) aE8
theorem sZ :Fn P w K mg base 1 "_law_take" ["_law_bag_here","_law_many"] (yF):=
 d5 (wB:=jC) (k:=0) A.DZ KX G BL qK (by with_reducible exact C7 B) (λds mh R h=>by obtain⟨_,_,rfl,_⟩:=h;rfl) Z8
theorem eP :Fn P w K mg base 1 "_law_is_whole" ["_law_thing"] (E4):=
 d5 (wB:=eM) (k:=0) A.tR KX G sG kJ (by with_reducible exact tM B) (λds mh R h=>by obtain⟨_,rfl,_⟩:=h;rfl) aDy
theorem nN :Fn P w K mg base 2 "_law_columns" ["_law_bag_here"] (RV):=
 d5 (wB:=fE (yF)) (k:=1) A.wI KX G tX mE (by with_reducible exact vO B ((sZ KX G B A).mono (by lia))) (λds mh R h=>by obtain⟨_,rfl,_⟩:=h;rfl) aE6
theorem bG :Fn P w K mg base 1 "_law_spanned" ["_law_above","_law_below"] (m8):=
 d5 (wB:=fB) (k:=0) A.wG KX G tV mC (by with_reducible exact vM B) (λds mh R h=>by obtain⟨_,rfl,_⟩:=h;rfl) aDr
theorem dC :Fn P w K mg base 2 "_law_ordered" ["_law_above","_law_below"] (xG):=
 d5 (wB:=fC (m8)) (k:=1) A.wH KX G tW mD (by with_reducible exact vN B ((bG KX G B A).mono (by lia))) (λds mh R h=>by obtain⟨_,rfl,_⟩:=h;rfl) aDw
theorem qV :Fn P w K mg base 3 "_law_rings" ["_law_above","_law_below"] (RO):=
 d5 (wB:=iC (m8) (xG)) (k:=2) A.BB KX G xX o4 (by with_reducible exact AU B ((bG KX G B A).mono (by lia)) ((dC KX G B A).mono (by lia))) (λds mh R h=>by obtain⟨_,rfl,_⟩:=h;rfl) aDu
theorem iD :Fn P w K mg base 2 "_law_thick" ["_law_above","_law_below","_law_column"] (IU):=
 d5 (wB:=iB (m8)) (k:=1) A.BA KX G xW o3 (by with_reducible exact AS B ((bG KX G B A).mono (by lia))) (λds mh R h=>by obtain⟨_,_,rfl,_⟩:=h;rfl) aDq
theorem dH :Fn P w K mg base 3 "_law_first_thick" ["_law_above","_law_below","_law_many"] (IV):=
 d5 (wB:=dG (IU)) (k:=2) A.pK KX G oK g7 (by with_reducible exact pF B ((iD KX G B A).mono (by lia))) (λds mh R h=>by obtain⟨_,_,rfl,_⟩:=h;rfl) aE2
theorem cT :Fn P w K mg base 3 "_law_chain_lengths" ["_law_above","_law_below"] (IY):=
 d5 (wB:=cM (xG)) (k:=2) A.nO KX G mN fU (by with_reducible exact nJ B ((dC KX G B A).mono (by lia))) (λds mh R h=>by obtain⟨_,rfl,_⟩:=h;rfl) aE7
theorem mH :Fn P w K mg base 3 "_law_is_chain" ["_law_above","_law_below","_law_many","_law_thing"] (RT):=
 d5 (wB:=eN (m8) (E4) (xG)) (k:=2) A.tS KX G sH kK (by with_reducible exact tN B ((bG KX G B A).mono (by lia)) ((eP KX G B A).mono (by lia)) ((dC KX G B A).mono (by lia))) (λds mh R h=>by obtain⟨_,_,rfl,_⟩:=h;rfl) aE1
theorem kP :Fn P w K mg base 4 "_law_is_reason" ["_law_above","_law_below","_law_many","_law_thing"] (RS):=
 d5 (wB:=cH (IV) (m8) (IY) (E4) (RT)) (k:=3) A.sA KX G qZ jJ (by with_reducible exact rS B ((dH KX G B A).mono (by lia)) ((bG KX G B A).mono (by lia)) ((cT KX G B A).mono (by lia)) ((eP KX G B A).mono (by lia)) ((mH KX G B A).mono (by lia))) (λds mh R h=>by obtain⟨_,rfl,_⟩:=h;rfl) aE0
theorem UL{b:Addr}  (a:mg "law"=some (.ref b)):
  ∃fd:FuncData,(∀(s:Shared) (u:Value),BindsTo s fd ⟨[u],[]⟩ [("_law_script",u)])/\∀base:Heap,kX P w K mg base EF 12 b fd ["_law_script"] (QT K xH):=
 ZN (wB:=GS (RW) (RV) (RO) (RK) (m8) (IY) (IU) (IV) (RS)) (k:=11) KX G a A.aEe LZ aAs (λbase=>by with_reducible exact aDh B ((v7 KX G B A).mono (by lia)) ((nN KX G B A).mono (by lia)) ((qV KX G B A).mono (by lia)) ((HW KX G B A).mono (by lia)) ((bG KX G B A).mono (by lia)) ((cT KX G B A).mono (by lia)) ((iD KX G B A).mono (by lia)) ((dH KX G B A).mono (by lia)) ((kP KX G B A).mono (by lia))) aDz
theorem aF9{l:PySem.W.OpenLaw}{b:Addr}  (a:mg "law"=some (.ref b)):
  ∃fd:FuncData,(∀(s:Shared) (u:Value),BindsTo s fd ⟨[u],[]⟩ [("_law_script",u)])/\∀base:Heap,K.In base->base.Ns mainGlobals mg->kX l.prog w K mg base EF 12 b fd ["_law_script"] (QT K xH):=
 let ⟨fd,h1,h2⟩:=UL KX G B A a
 ⟨fd,h1,λbase _ _=>h2 base⟩
end
end K68
open PySem PySem.W PyProof.Rows
set_option maxRecDepth 100000 in
set_option maxHeartbeats 0 in
theorem PySem.Challenge.cw_maskwright_k68_reasons_of_tracks_holds : PySem.Challenge.rw_maskwright_k68_reasons_of_tracks.Holds := by
  w_on; refine D3.aFb (q := D3.kQ PySem.Challenge.pw_maskwright_k68_reasons_of_tracks [1, 2, 4, 5, 6, 7, 8, 9, 10, 11, 12, 13, 14, 16, 17, 18, 19, 20, 21, 22, 23, 24, 25, 26, 27, 28, 29, 30]) (loose := []) (K := K68.kk) (as := [3, 50, 51, 55, 56, 60, 61, 67, 68, 72, 73, 77, 78, 84, 85, 89, 90, 96, 97, 103, 104, 108, 109, 115, 116, 122, 123, 129, 130, 134, 141, 142, 146, 147, 151, 152, 156, 157, 161, 162, 166, 167, 171, 176, 177, 183, 184, 188, 189, 193, 194]) (by kernel_rfl) (fun _ => rfl) K68.kl (by rfl) (by rfl) (by rfl) (by decide +kernel) ⟨rfl, rfl, rfl, rfl, rfl, by decide +kernel⟩ ?hw ?_; (case hw => w_witness2)
  k_fill
  refine D3.walkD (l := PySem.Challenge.rw_maskwright_k68_reasons_of_tracks) (k := 12) (x := "_law_script") rfl rfl ⟨rfl, by decide, by decide⟩ (fun _ _ Y => Y) ?F
  case F =>
    intro w mg fa h KX G hmg
    refine' K68.aF9 KX G (D3.bl_mk KX G ?_ ?_ ?_ ?_ ?_ ?_ ?_ ?_ ?_ ?_ ?_ ?_ ?_ ?_ ?_ ?_ ?_ ?_ ?_) ⟨(D3.aFh ?_ ?_ ?_ ?_), (D3.aFh ?_ ?_ ?_ ?_), (D3.aFh ?_ ?_ ?_ ?_), (D3.aFh ?_ ?_ ?_ ?_), (D3.aFh ?_ ?_ ?_ ?_), (D3.aFh ?_ ?_ ?_ ?_), (D3.aFh ?_ ?_ ?_ ?_), (D3.aFh ?_ ?_ ?_ ?_), (D3.aFh ?_ ?_ ?_ ?_), (D3.aFh ?_ ?_ ?_ ?_), (D3.aFh ?_ ?_ ?_ ?_), (D3.aFh ?_ ?_ ?_ ?_), (D3.aFh ?_ ?_ ?_ ?_), (D3.aFh ?_ ?_ ?_ ?_), (D3.aFh ?_ ?_ ?_ ?_), (D3.aFh ?_ ?_ ?_ ?_), (D3.aFh ?_ ?_ ?_ ?_), (D3.aFh ?_ ?_ ?_ ?_), (D3.aFh ?_ ?_ ?_ ?_), (D3.aFh ?_ ?_ ?_ ?_), (D3.aFh ?_ ?_ ?_ ?_), (D3.aFh ?_ ?_ ?_ ?_), (D3.aFh ?_ ?_ ?_ ?_), (D3.aFh ?_ ?_ ?_ ?_), (D3.YS ?nu)⟩ hmg
    (case nu => rfl)
    all_goals try k_is
