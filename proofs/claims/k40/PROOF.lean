import PyProof.Rows.All
import Wide.All
import OpenK.AllK
import Wide.FinOn
import Lean
import PyProof.EqAt
import PyProof.EqKinds
import PyProof.TupleCall
import PyProof.NeKinds
import PySem.Challenge.RW_maskwright_k40_one_renamed
set_option Elab.async false
set_option linter.all false
set_option maxRecDepth 100000
set_option maxHeartbeats 4000000
abbrev aNm:=PySem.W.Frag
set_option compiler.extract_closed false
abbrev aJn:= @PySem.wpAny_bind
abbrev aJo:= @PySem.wpAny_pure
abbrev aJp:= @PySem.Heap.get?_push_of_some
abbrev aJq:= @Nat.le_refl
abbrev aJr:= @List.getElem?_eq_some_iff
abbrev aJs:= @List.mem_cons_self
abbrev aJt:= @List.mem_cons_of_mem
abbrev aJu:= @List.mem_of_getElem?
abbrev aJv:= @PySem.Heap.get?_push_size
abbrev aJw:= @PyProof.Rows.wpS_bind
abbrev aJx:= @List.mem_append
abbrev aJy:= @PySem.Heap.lt_size
abbrev aJz:= @PyProof.Rows.wpS_pure
abbrev aK0:= @List.mem_map
abbrev aK1:= @List.mem_cons
abbrev aK2:= @Nat.ne_of_lt
abbrev aK3:= @Classical.byContradiction
abbrev aK4:= @PySem.sizeLine_eq
abbrev aK5:= @Option.some.inj
abbrev aK6:= @Nat.lt_of_lt_of_le
abbrev aK7:= @PySem.W.mg_none_of
abbrev aK8:= @PySem.wpAny_call_entry
abbrev aK9:= @PySem.wpAny_callSpecial?_slot
abbrev aKa:= @PySem.wpAny_setField_rec
abbrev aKb:= @List.pairwise_append
abbrev aKc:= @Int.eq_ofNat_of_zero_le
abbrev aKd:= @PySem.wpAny_holding
abbrev aKe:= @Nat.le_trans
abbrev aKf:= @PySem.wpAny_newObj_type
abbrev aKg:= @List.map_congr_left
abbrev aKh:= @List.mem_append_right
abbrev aKi:= @List.mem_iff_getElem?
abbrev aKj:= @PySem.Heap.SameBut.update
abbrev aKk:= @PySem.wpAny_field
abbrev aKl:= @List.mem_map_of_mem
abbrev aKm:= @PyProof.Rows.slot_tuple_getitem
abbrev aKn:= @PySem.wpAny_setState_of
abbrev aKo:= @congrArg
abbrev aKp:= @List.mem_of_mem_take
abbrev aKq:= @PySem.wpAny_rule
abbrev aKr:= @Option.map_eq_some_iff
abbrev aKs:= @PySem.wpAny_seqItems
abbrev aKt:= @Nat.lt_succ_self
abbrev aKu:= @List.getElem?_eq_getElem
abbrev aKv:= @PySem.mem_of_lookup
abbrev aKw:= @Nat.lt_succ_of_lt
abbrev aKx:= @Array.getElem?_eq_some_iff
abbrev aKy:= @bind_congr
abbrev aKz:= @Nat.zero_le
abbrev aL0:= @PyProof.Rows.callWith_type1
abbrev aL1:= @PySem.Heap.get?_update_other
abbrev aL2:= @PyProof.Rows.wpS_forRange
abbrev aL3:= @decide_eq_false
abbrev aL4:= @Ne.symm
abbrev aL5:= @List.perm_append_comm
abbrev aL6:= @PySem.wpAny_forIn_list
abbrev aL7:= @List.pairwise_cons
abbrev aL8:= @Nat.ne_of_gt
abbrev aL9:= @PySem.wpAny_mono
abbrev aLa:= @PySem.wpAny_attempt
abbrev aLb:= @Int.emod_lt_of_pos
abbrev aLc:= @PySem.F.slot_tuple_iterator_next
abbrev aLd:= @PyProof.Rows.wpS_mono
abbrev aLe:= @PySem.Heap.get?_update_self
abbrev aLf:= @List.take_append_drop
abbrev aLg:= @List.Perm.append_left
abbrev aLh:= @PySem.W.Looks.of_pure
abbrev aLi:= @PySem.F.slot_enumerate_next
abbrev aLj:= @List.getElem?_eq_none_iff
abbrev aLk:= @List.mem_filter
abbrev aLl:= @PySem.wpAny_passesOwn
abbrev aLm:= @PySem.wpAny_specialOf
abbrev aLn:= @List.mem_append_left
abbrev aLo:= @PySem.wpAny_setEntries_of
abbrev aLp:= @PySem.wpAny_isInstance
abbrev aLq:= @List.nodup_range
abbrev aLr:= @PySem.Calls.spliced_cons
abbrev aLs:= @PySem.wpAny_Call_Name_kw
abbrev aLt:= @PySem.F.called_set
abbrev aLu:= @List.Perm.append_right
abbrev aLv:= @PySem.codeAny_builtin
abbrev aLw:= @Int.emod_nonneg
abbrev aLx:= @Nat.lt_irrefl
abbrev aLy:= @PySem.wpAny_truthy_bool
abbrev aLz:= @PySem.F.slot_tuple_hash
abbrev aM0:= @List.mem_iff_getElem
abbrev aM1:= @PySem.wpAny_newTuple
abbrev aM2:= @List.mem_of_mem_drop
abbrev aM3:= @PySem.Heap.size_push
abbrev aM4:= @List.getElem?_of_mem
abbrev aM5:= @Nat.le_of_lt
abbrev aM6:= @Nat.le_of_not_lt
abbrev aM7:= @List.pairwise_iff_getElem
abbrev aM8:= @PySem.Calls.call_function_entry
abbrev aM9:= @PyProof.Rows.F.entry_set_update_loop
abbrev aMa:= @List.getElem_of_mem
abbrev aMb:= @List.perm_singleton
abbrev aMc:= @PySem.wpAny_standAt
abbrev aMd:= @PySem.F.args_tuple_add_2
abbrev aMe:= @List.nodup_cons
abbrev aMf:= @PySem.F.slot_zip_next
abbrev aMg:= @List.Perm.of_eq
abbrev aMh:= @Nat.lt_or_eq_of_le
abbrev aMi:= @List.Perm.cons_inv
abbrev aMj:= @PySem.F.entry_tuple_add
abbrev aMk:= @List.length_eq_zero_iff
abbrev aMl:= @ite_congr
abbrev aMm:= @PySem.codeAny_mono
abbrev aMn:= @PySem.F.slot_tuple_add
abbrev aMo:= @PySem.wpAny_typeOf
abbrev aMp:= @PySem.Calls.callWith_builtin
abbrev aMq:= @PySem.wpAny_pyIter_list
abbrev aMr:= @PySem.wpAny_pyIter_slot
abbrev aMs:= @List.pairwise_lt_range
abbrev aMt:= @PySem.F.slot_dict_get
abbrev aMu:= @List.countP_le_length
abbrev aMv:= @PySem.wpAny_askSetting
abbrev aMw:= @PyProof.Rows.wpS_modify
abbrev aMx:= @PySem.plainId_quiet
abbrev aMy:= @PySem.Calls.evalArgs_plain
abbrev aMz:= @Nat.le_succ
abbrev aN0:= @PySem.wpAny_execs_nil
abbrev aN1:= @PySem.wpAny_ite_split
abbrev aN2:= @PySem.wpAny_updateSeq
abbrev aN3:= @PySem.F.slot_dict_setdefault
abbrev aN4:= @Bool.false_ne_true
abbrev aN5:= @PySem.tupleKind_room_in1
abbrev aN6:= @PySem.wpAny_pyIter_tuple
abbrev aN7:= @PySem.wpAny_fieldsOf
abbrev aN8:= @List.map_inj_right
abbrev aN9:= @PySem.wpAny_tupleItemsOf
abbrev aNa:= @List.mem_singleton
abbrev aNb:= @List.take_sublist
abbrev aNc:= @PySem.wpAny_of_eq
abbrev aNd:= @Nat.lt_trichotomy
abbrev aNe:= @PySem.wpAny_mkInt
abbrev aNf:= @PySem.W.mg_of
abbrev aNg:= @List.getElem_inj
abbrev aNh:= @List.getElem_mem
abbrev aNi:= @List.ext_getElem
abbrev aNj:= @Nat.mod_lt
abbrev aNk:= @Nat.succ.inj
abbrev aNl:= @Nat.min_eq_left
abbrev aNn:=PySem.Value->PySem.Shared->Prop
abbrev aNo:=PyProof.Rows.Keyed->PyProof.Rows.Keyed->Bool
abbrev aNp:=PySem.Str->Option PySem.Value
abbrev aNq:=Array PyProof.Rows.Keyed
namespace L2
open PySem PySem.Spec PyProof.Rows
abbrev Key:=Sum Int Str
def yO:Key->Value->Bool
 | .inl k,v=>Value.isInt k v
 | .inr x,v=>Value.isStrOf x v
def aIx(w:World):Key->Int
 | .inl k=>hashInt k
 | .inr x=>hashStr w x
theorem bF:∀{k:Key} {v:Value},yO k v=true->(∃i t,k=Sum.inl i/\v=Value.int i t)\/(∃x t,k=Sum.inr x/\v=Value.str x t)
 | .inl i,v,h=>by
  obtain⟨t,e⟩:=Value.isInt_shape (k:=i) (v:=v) h;exact .inl ⟨i,t,rfl,e⟩
 | .inr x,v,h=>by
  obtain⟨t,e⟩:=Value.isStrOf_shape (x:=x) (v:=v) h;exact .inr ⟨x,t,rfl,e⟩
theorem LP(i:Int)(t:Tok):yO (.inl i) (.int i t)=true:=by simp[yO,Value.isInt]
theorem LN(x:Str)(t:Tok):yO (.inr x) (.str x t)=true:=by simp[yO,Value.isStrOf]
theorem aB2(a b:Int):decide ((Sum.inl a:Key)=Sum.inl b)=(a==b):=by
 by_cases e:a=b
 ·subst e;simp
 ·have h:¬(Sum.inl a:Key)=Sum.inl b:=λq=>e (Sum.inl.inj q);rw[decide_eq_false h];exact(beq_eq_false_iff_ne.mpr e).symm
theorem aAz(a b:Str):decide ((Sum.inr a:Key)=Sum.inr b)=decide (a=b):=by
 by_cases e:a=b
 ·subst e;simp
 ·have h:¬(Sum.inr a:Key)=Sum.inr b:=λq=>e (Sum.inr.inj q);rw[decide_eq_false h,decide_eq_false e]
theorem aB1(a:Int)(b:Str):decide ((Sum.inl a:Key)=Sum.inr b)=false:=aL3 (λq=>nomatch q)
theorem aB0(a:Str)(b:Int):decide ((Sum.inr a:Key)=Sum.inl b)=false:=aL3 (λq=>nomatch q)
def aM(prog:Program)(w:World):PySem.KeyKind prog w Key where
 is:=yO
 hash:=aIx w
 inj:=λv a b ha hb=>by
  rcases bF ha with ⟨i,t,rfl,rfl⟩ | ⟨x,t,rfl,rfl⟩
  ·rcases bF hb with ⟨j,u,rfl,e⟩ | ⟨y,u,rfl,e⟩
   ·injection e with c _;rw[c]
   ·exact nomatch e
  ·rcases bF hb with ⟨j,u,rfl,e⟩ | ⟨y,u,rfl,e⟩
   ·exact nomatch e
   ·injection e with c _;rw[c]
 byValue:=λk v h=>by
  rcases bF h with ⟨i,t,rfl,rfl⟩ | ⟨x,t,rfl,rfl⟩ <;> rfl
 pyHash:=λd h=>by
  rcases bF d with ⟨i,t,rfl,rfl⟩ | ⟨x,t,rfl,rfl⟩
  ·exact wpAny_pyHash_int h
  ·exact wpAny_pyHash_str h
 eqBool:=λf d h=>by
  rcases bF f with ⟨i,t,rfl,rfl⟩ | ⟨x,t,rfl,rfl⟩
  ·rcases bF d with ⟨j,u,rfl,rfl⟩ | ⟨y,u,rfl,rfl⟩
   ·rw[aB2]at h;exact wpAny_eqBool_int h
   ·rw[aB1]at h;exact SeqAt.EqAt.int_str i t y u _ _ _ _ h
  ·rcases bF d with ⟨j,u,rfl,rfl⟩ | ⟨y,u,rfl,rfl⟩
   ·rw[aB0]at h;exact SeqAt.EqAt.str_int x t j u _ _ _ _ h
   ·rw[aAz]at h;exact wpAny_eqBool_str h
 «strs»:=λk x t v h=>by
  rcases bF h with ⟨i,u,rfl,e⟩ | ⟨y,u,rfl,e⟩
  ·exact nomatch e
  ·injection e with c _;subst c;cases v <;> rfl
theorem DM(prog:Program)(w:World)(i:Int)(t:Tok):(aM prog w).is (.inl i) (.int i t)=true:=LP i t
theorem DL(prog:Program)(w:World)(x:Str)(t:Tok):(aM prog w).is (.inr x) (.str x t)=true:=LN x t
inductive V where
 | bY | bl (b:Bool) | int (i:Int) | str (x:Str) | byt (b:Array UInt8) | flt (b:UInt64) | ref (a:Addr) | ty (n:String)
 deriving DecidableEq
def RelV:V->Value->Prop
 | .bY,u=>u=Value.none
 | .bl b,u=>u=Value.bool b
 | .int i,u=>∃t,u=Value.int i t
 | .str x,u=>∃t,u=Value.str x t
 | .byt b,u=>∃t,u=Value.bytes b t
 | .flt b,u=>∃t,u=Value.float b t
 | .ref a,u=>u=Value.ref a
 | .ty n,u=>u=Value.type n
abbrev Vals:List V->List Value->Prop:=Paired RelV
variable{us:List Value}
theorem Vals.length{xs:List V}(r:Vals xs us):xs.length=us.length:=Paired.length r
theorem Vals.get:∀{xs:List V} {us:List Value} {i:Nat} {x:V},Vals xs us->xs[i]? =some x->∃u,us[i]? =some u/\RelV x u
 | _,_,_,_,.nil,e=>by simp at e
 | _,_,0,_,.cons r _,e=>by simp at e;subst e;exact⟨_,rfl,r⟩
 | _,_,i+1,x,.cons _ t,e=>by
  obtain⟨u,a,b⟩:=Vals.get (i:=i) (x:=x) t (by simpa using e);exact⟨u,by simpa using a,b⟩
theorem Vals.set{x:V}{u:Value}(r:RelV x u):∀{xs:List V} {us:List Value} (i:Nat),Vals xs us->Vals (xs.set i x) (us.set i u)
 | _,_,_,.nil=>.nil
 | _,_,0,.cons _ t=>.cons r t
 | _,_,i+1,.cons q t=>.cons q (Vals.set r i t)
theorem Vals.append:∀{xs a:List V} {us b:List Value},Vals xs us->Vals a b->Vals (xs++a) (us++b)
 | _,_,_,_,.nil,s=>s
 | _,_,_,_,.cons r t,s=>.cons r (Vals.append t s)
theorem Vals.take:∀{xs:List V} {us:List Value} (n:Nat),Vals xs us->Vals (xs.take n) (us.take n)
 | _,_,0,_=>.nil
 | _,_,_+1,.nil=>.nil
 | _,_,n+1,.cons r t=>.cons r (Vals.take n t)
theorem Vals.drop:∀{xs:List V} {us:List Value} (n:Nat),Vals xs us->Vals (xs.drop n) (us.drop n)
 | _,_,0,r=>r
 | _,_,_+1,.nil=>.nil
 | _,_,n+1,.cons _ t=>Vals.drop n t
theorem Vals.none_of:∀{xs:List V} {us:List Value} {i:Nat},Vals xs us->xs[i]? =none->us[i]? =none:=λ{xs us i} r e=>by
 have a:=r.length;have b:xs.length<=i:=aLj.mp e;exact aLj.mpr (by lia)
def tR:Option V->Option Value->Prop
 | some v,some u=>RelV v u
 | none,none=>True
 | _,_=>False
def KV{κ:Type}:List (κ×V)->List (κ×Value)->Prop:=Paired λ(p:κ×V) (q:κ×Value)=>p.1=q.1/\RelV p.2 q.2
def kV:Key->V
 | .inl i=>.int i
 | .inr x=>.str x
inductive HO where
 | lst (xs:List V)
 | tup (xs:List V)
 | dK (kvs:List (Key×V)) | dT (kvs:List (List Key×V))
 | set (S:Int->Bool) (n:Nat)
 | ins (C dx:Addr) (fs:List (Str×V))
 | own (x:Addr)
 | xd (fs:List (Str×V))
 | met (f x:Addr)
 | rng (lo hi:Int)
 | frz (o:Obj) (u:HO)
 | tbl (ps:Array Value)
 | ext (φ:World->Heap->Prop)
abbrev Hp:=Addr->Option HO
def upd(H:Hp)(a:Addr)(o:HO):Hp:=λb=>if b=a then some o else H b
variable{H:Hp}{a:Addr}
theorem bV{o:HO}:upd H a o a=some o:=by unfold upd;rw[if_pos rfl]
variable{b:Addr}
theorem aV{o:HO}(h:b≠a):upd H a o b=H b:=by unfold upd;rw[if_neg h]
theorem aEu{o u:HO}(h:H a=some o)(h' :H b=some u)(d:o≠u):a≠b:=by
 intro e;subst e;rw[h]at h';exact d (aK5 h')
theorem bK{o:HO}(h:H a=some o)(h' :H b=none):a≠b:=by
 intro e;subst e;rw[h]at h';cases h'
theorem zR(h:Heap)(items:Array Value):∀o,(h.push {cls:= .type "tuple",data:= .seq items}).get? h.objs.size=some o->o.dict=none:=λo e=>by rw[Heap.get?_push_size _ rfl]at e;cases e;rfl
section
variable (P:Program)(w:World)
def cL(H:Hp)(h:Heap)(a:Addr):HO->Prop
 | .lst xs=>xs.length<=sizeLine/\∃(aJ:List Value) (n:Nat),Vals xs aJ/\h.get? a=some {cls:= .type "list",data:= .seq aJ.toArray n}
 | .tup xs=>xs.length<=sizeLine/\∃aJ:List Value,Vals xs aJ/\IsTup h a aJ.toArray/\∀o,h.get? a=some o->o.dict=none
 | .dK kvs=>kvs.length<=sizeLine/\(a==sysModules)=false/\∃vs,KV kvs vs/\h.DictOf (aM P w) a vs
 | .dT kvs=>kvs.length<=sizeLine/\(a==sysModules)=false/\∃xs:List (List Key×Addr×Value),
   Paired (λ(p:List Key×V) (q:List Key×Addr×Value)=>p.1=q.1/\H q.2.1=some (.tup (p.1.map kV))/\RelV p.2 q.2.2) kvs xs/\
   ∃o es ep,h.get? a=some o/\o.ExactDict/\o.data= .dict es ep/\es.toList=xs.map (entryOfKey (tupleKind (aM P w)))/\(xs.map (·.1)).Nodup
 | .set S n=>h.SetOf (intKind P w) a S n
 | .ins C dx fs=>H dx=some (.own a)/\fs.length<=1000/\dx≠a/\h.get? a=some (PySem.W.instObj C dx)/\
   ∃b,h.Ns1 dx b/\(∀f,tR (fs.lookup f) (b f))/\PySem.Within b (fs.map (·.1))
 | .own _=>∃o,h.get? a=some o
 | .xd fs=>∃b,h.Ns1 a b/\∀f,tR (fs.lookup f) (b f)
 | .rng lo hi=>∃t u v,h.get? a=some {cls:= .type "range",data:= .fields #[.int lo t,.int hi u,.int 1 v]}
 | .frz o u=>h.get? a=some o/\cL H h a u
 | .tbl ps=>h.get? a=some {cls:= .none,data:= .fields ps}
 | .met f x=>h.get? a=some (PySem.W.methodObj (.ref f) (.ref x))
 | .ext φ=>φ w h/\(∃o,h.get? a=some o)/\∀c d:Heap,φ w c->(∀o,c.get? a=some o->d.get? a=some o)->φ w d
def qW(H:Hp)(h:Heap):Prop:=∀a o,H a=some o->cL P w H h a o
end
section
variable {P:Program}{w:World}{H H' :Hp}{h h' :Heap}{a:Addr}{o:HO}
theorem cL.lt(x:cL P w H h a o):a<h.objs.size:=by
 cases o with
 | lst xs=>obtain⟨_,_,_,_,e⟩:=x;exact aJy e
 | tup xs=>obtain⟨_,_,_,p,_⟩:=x;exact p.lt
 | dK kvs=>obtain⟨_,_,_,_,o,_,_,e,_⟩:=x;exact aJy e
 | dT kvs=>obtain⟨_,_,_,_,o,_,_,e,_⟩:=x;exact aJy e
 | set S n=>obtain⟨o,_,_,_,e,_⟩:=x;exact aJy e
 | ins C dx fs=>obtain⟨_,_,_,e,_⟩:=x;exact aJy e
 | own y=>obtain⟨_,e⟩:=x;exact aJy e
 | xd fs=>obtain⟨_,⟨_,_,_,e,_⟩,_⟩:=x;exact aJy e
 | rng lo hi=>obtain⟨_,_,_,e⟩:=x;exact aJy e
 | frz ob u=>obtain⟨e,_⟩:=x;exact aJy e
 | tbl ps=>exact aJy (show h.get? a=some _ from x)
 | met f y=>exact aJy (show h.get? a=some _ from x)
 | ext φ=>obtain⟨_,⟨_,e⟩,_⟩:=x;exact aJy e
theorem Paired.aA1{d e:Type}{F G:d->e->Prop}:∀{l₁:List d} {c:List e},Paired F l₁ c->(∀a b,F a b->G a b)->Paired G l₁ c
 | _,_,.nil,_=>.nil
 | _,_,.cons r t,f=>.cons (f _ _ r) (Paired.aA1 t f)
theorem cL.FR(x:cL P w H h a o)(k:∀b u,(b=a\/H b=some (.own a))->h.get? b=some u->h'.get? b=some u)
  (ho:∀b,H b=some (.own a)->H' b=some (.own a)) (ht:∀b xs,H b=some (.tup xs)->H' b=some (.tup xs)):cL P w H' h' a o:=by
 induction o with
 | lst xs=>obtain⟨z,aJ,n,r,e⟩:=x;exact⟨z,aJ,n,r,k _ _ (.inl rfl) e⟩
 | tup xs=>obtain⟨z,aJ,r,⟨ob,e,c⟩,nd⟩:=x;exact⟨z,aJ,r,⟨ob,k _ _ (.inl rfl) e,c⟩,λo' i =>by rw[k _ _ (.inl rfl) e]at i;cases i;exact nd _ e⟩
 | dK kvs=>obtain⟨z,y,vs,r,ob,es,ep,e,c⟩:=x;exact⟨z,y,vs,r,ob,es,ep,k _ _ (.inl rfl) e,c⟩
 | dT kvs=>
  obtain⟨z,y,xs,r,ob,es,ep,e,c⟩:=x;exact⟨z,y,xs,Paired.aA1 r λp q z=>⟨z.1,ht _ _ z.2.1,z.2.2⟩,ob,es,ep,k _ _ (.inl rfl) e,c⟩
 | set S n=>obtain⟨ob,es,ep,t,e,c⟩:=x;exact⟨ob,es,ep,t,k _ _ (.inl rfl) e,c⟩
 | ins C dx fs=>
  obtain⟨d,z,ne,e,g,⟨od,es,ep,j,c⟩,r⟩:=x;exact⟨ho _ d,z,ne,k _ _ (.inl rfl) e,g,⟨od,es,ep,k _ _ (.inr d) j,c⟩,r⟩
 | own y=>obtain⟨ob,e⟩:=x;exact⟨ob,k _ _ (.inl rfl) e⟩
 | xd fs=>obtain⟨g,⟨od,es,ep,e,c⟩,r⟩:=x;exact⟨g,⟨od,es,ep,k _ _ (.inl rfl) e,c⟩,r⟩
 | rng lo hi=>obtain⟨t,u,v,e⟩:=x;exact⟨t,u,v,k _ _ (.inl rfl) e⟩
 | frz ob u ih=>obtain⟨e,q⟩:=x;exact⟨k _ _ (.inl rfl) e,ih q⟩
 | tbl ps=>
  have e:h.get? a=some {cls:= .none,data:= .fields ps}:=x;show h'.get? a=some {cls:= .none,data:= .fields ps};exact k a _ (.inl rfl) e
 | met f y=>
  have e:h.get? a=some (PySem.W.methodObj (.ref f) (.ref y)):=x;show h'.get? a=some (PySem.W.methodObj (.ref f) (.ref y));exact k a _ (.inl rfl) e
 | ext φ=>obtain⟨p,⟨o,e⟩,st⟩:=x;exact⟨st _ _ p λo q=>k _ _ (.inl rfl) q,⟨o,k _ _ (.inl rfl) e⟩,st⟩
theorem qW.lt(x:qW P w H h)(e:H a=some o):a<h.objs.size:=(x a o e).lt
theorem qW.fresh(x:qW P w H h)(e:h.objs.size<=a):H a=none:=by
 cases q:H a with
 | none=>rfl
 | some u=>exact absurd (aK6 (x.lt q) e) (aLx _)
theorem qW.kept(x:qW P w H h)(k:∀b u,h.get? b=some u->h'.get? b=some u):qW P w H h' :=λa o e=>
 (x a o e).FR (λb u _ q=>k b u q) (λ_ q=>q) λ_ _ q=>q
theorem qW.laid(x:qW P w H h)(k:∀b u,h.get? b=some u->h'.get? b=some u)(f:h.objs.size<=a)(new:cL P w (upd H a o) h' a o):qW P w (upd H a o) h' :=λb u e=>by
 have d:=x.fresh f;by_cases hb:b=a
 ·subst hb;rw[bV]at e;cases e;exact new
 ·rw[aV hb]at e;exact(x b u e).FR (λc v _ q=>k c v q) (λc q=>by rw[aV (bK q d)];exact q) λc xs q=>by rw[aV (bK q d)];exact q
end
def Rd(H:Hp)(a:Addr)(u:HO):Prop:=H a=some u\/∃o,H a=some (.frz o u)
variable{P:Program}{w:World}{h:Heap}
theorem Rd.ok{u:HO}(r:Rd H a u)(x:qW P w H h):cL P w H h a u:=by
 rcases r with r | ⟨o,r⟩
 ·exact x a u r
 ·obtain⟨_,q⟩:=x a _ r;exact q
def RQ:Option HO->Prop
 | some (.lst _)=>True
 | some (.dK _)=>True
 | some (.dT _)=>True
 | some (.set _ _)=>True
 | some (.ins _ _ _)=>True
 | some (.ext _)=>True
 | _=>False
section
variable {P:Program}{w:World}{H:Hp}{h h' :Heap}{x e:Addr}{o' :HO}
theorem qW.write(ok:qW P w H h)(g:RQ (H x))(he:e=x\/H e=some (.own x))(k:∀b u,b≠e->h.get? b=some u->h'.get? b=some u)(i:∃u,h'.get? e=some u)
  (new:cL P w (upd H x o') h' x o'):qW P w (upd H x o') h' :=λb u q=>by
 have d:∀c y,H c=some (.own y)->c≠x:=λc y r z=>by subst z;rw[r]at g;exact g
 have f:∀c xs,H c=some (.tup xs)->c≠x:=λc xs r z=>by subst z;rw[r]at g;exact g
 by_cases hb:b=x
 ·subst hb;rw[bV]at q;cases q;exact new
 ·rw[aV hb]at q;by_cases a:b=e
  ·have q' :H b=some (.own x):=by
    rcases he with z | z
    ·exact absurd (a.trans z) hb
    ·rw[a];exact z
   rw[q]at q';cases q';obtain⟨v,j⟩:=i;exact⟨v,by rw[a];exact j⟩
  ·refine(ok b u q).FR (λc v hc r=>k c v ?_ r) (λc r=>by rw[aV (d c b r)];exact r) λc xs r=>by rw[aV (f c xs r)];exact r
   rcases hc with rfl | hc
   ·exact a
   ·rintro rfl;rcases he with z | z
    ·exact d c b hc z
    ·rw[hc]at z;cases z;exact hb rfl
end
structure Un(fs ex:List Addr)(H H' :Hp)(h h' :Heap):Prop where
 keep:∀b o,h.get? b=some o->H b=none->b∉fs->b∉ex->h'.get? b=some o
 slot:∀b o,h.get? b=some o->H b=none->b∈fs->b∉ex->∃sl,h'.get? b=some {o with slots:=sl}
 free:∀b o,h.get? b=some o->H b=none->b∉ex->H' b=none
 there:∀b o,h.get? b=some o->b∉ex->∃o',h'.get? b=some o'
 CM:∀b xs,H b=some (.tup xs)->H' b=some (.tup xs)
 A9:∀b o u,H b=some (.frz o u)->H' b=some (.frz o u)
 CN:∀b ps,H b=some (.tbl ps)->∃more,H' b=some (.tbl (ps++more))
section
variable {fs fs' ex ex' :List Addr}{H H1 H2:Hp}{h h1 h2 h' :Heap}{a x e:Addr}{o:HO}
theorem Un.any(u:Un fs ex H H1 h h1){ob:Obj}(q:h.get? b=some ob)(n:H b=none)(hx:b∉ex):∃sl,h1.get? b=some {ob with slots:=sl}:=by
 by_cases hb:b∈fs
 ·exact u.slot b ob q n hb hx
 ·exact⟨ob.slots,u.keep b ob q n hb hx⟩
theorem Un.kept(k:∀b u,h.get? b=some u->h'.get? b=some u):Un fs ex H H h h' :=
 ⟨λb ob q _ _ _=>k b ob q,λb ob q _ _ _=>⟨ob.slots,k b ob q⟩,λ_ _ _ n _=>n,λb ob q _=>⟨ob,k b ob q⟩,λ_ _ q=>q,λ_ _ _ q=>q,λ_ ps q=>⟨#[],by rw[q];simp⟩⟩
theorem Un.refl:Un fs ex H H h h:=Un.kept λ_ _ q=>q
theorem Un.laid(k:∀b u,h.get? b=some u->h'.get? b=some u)(d:h.objs.size<=a)(c:H a=none):Un fs ex H (upd H a o) h h' where
 keep:=λb u q _ _ _=>k b u q
 slot:=λb u q _ _ _=>⟨u.slots,k b u q⟩
 free:=λb u q n _=>by rw[aV (Nat.ne_of_lt (Nat.lt_of_lt_of_le (Heap.lt_size q) d))];exact n
 there:=λb u q _=>⟨u,k b u q⟩
 CM:=λb xs q=>by rw[aV (bK q c)];exact q
 A9:=λb u xs q=>by rw[aV (bK q c)];exact q
 CN:=λb ps q=>⟨#[],by rw[aV (bK q c),q];simp⟩
theorem Un.write(c:RQ (H x))(he:e=x\/H e=some (.own x))(k:∀b u,b≠e->h.get? b=some u->h'.get? b=some u)(d:∃u,h'.get? e=some u):Un fs ex H (upd H x o) h h' :=by
 have hx:∀b,H b=none->b≠x:=λb n z=>by subst z;rw[n]at c;exact c
 have hb:∀b,H b=none->b≠e:=λb n z=>by
  subst z;rcases he with r | r
  ·exact hx b n r
  ·rw[n]at r;cases r
 have hm:∀b u,H b=some u->¬RQ (some u)->b≠x:=λb u q nm z=>by subst z;rw[q]at c;exact nm c
 refine⟨λb u q n _ _=>k b u (hb b n) q,λb u q n _ _=>⟨u.slots,k b u (hb b n) q⟩,λb u q n _=>by rw[aV (hx b n)];exact n,λb u q _=>?_,
  λb xs q=>by rw[aV (hm b _ q λz=>z)];exact q,λb u xs q=>by rw[aV (hm b _ q λz=>z)];exact q,λb ps q=>⟨#[],by rw[aV (hm b _ q λz=>z),q];simp⟩⟩
 by_cases a:b=e
 ·subst a;exact d
 ·exact⟨u,k b u a q⟩
end
def trk(h:Heap)(H:Hp):List Addr:=(List.range h.objs.size).filter λa=>(H a).isSome
def A4(h:Heap)(H:Hp):Heap:=PySem.W.hideAll h (trk h H)
theorem L0(h:Heap)(H:Hp):(A4 h H).objs.size=h.objs.size:=PySem.W.hideAll_size _ _
variable{o:Obj}
theorem QN(e:h.get? b=some o)(n:H b=none):(A4 h H).get? b=some o:=
 PySem.W.hideAll_get _ e λhm=>by
  have q:(H b).isSome=true:=(aLk.mp hm).2;rw[n]at q;simp at q
theorem UK(e:(A4 h H).get? b=some o):h.get? b=some o/\H b=none:=by
 have a :h.get? b=some o:=PySem.W.of_hideAll (trk h H) e;refine⟨a,?_⟩
 cases q:H b with
 | none=>rfl
 | some x=>
  have hm:b∈trk h H:=aLk.mpr ⟨List.mem_range.mpr (aJy a),by simp[q]⟩;have z:(A4 h H).get? b=none:=PySem.W.hideAll_none (trk h H) hm;rw[z]at e;cases e
structure Mod(K:aNm)(mg:aNp)(base:Heap):Prop where
 kin:K.In base
 glob:base.Ns mainGlobals mg
 blt:∃mb,base.Ns builtinsNs mb/\∀x:Str,x≠ "__name__"->mb x=bootBuiltins x
 nolimit:base.NoLimit
structure Cx where
 prog:Program
 w:World
 K:aNm
 mg:aNp
 base:Heap
 A:Around
 N:List Str
 s₀:Shared
 H₀:Hp
 env:Env
 outer:List Env
 stack:List Env
 ex:List Addr
 fn:Str->Bool
 calm:Bool
 pn:List (Addr×Obj)
 xe:aNn
def QZ(l:List Env):List Addr:=l.filterMap (·.frame)
abbrev Cx.fs(X:Cx):List Addr:=QZ X.outer
def Vis(sc:Scope)(x:Str):Prop:=sc.names.lookup x=some .local\/sc.names.lookup x=some .cell\/sc.names.lookup x=some .free
def Loc(sc:Scope)(x:Str):Prop:=sc.names.lookup x=some .local\/sc.names.lookup x=some .cell
def Look(env:Env)(h:Heap)(m:aNp)(x:Str)(u:Value):Prop:=
 (env.kindOf x=some .local/\m x=some u)\/((env.kindOf x=some .cell\/env.kindOf x=some .free)/\∃c,env.cells.lookup x=some c/\h.IsCell c (some u))
structure Cx.Ok(X:Cx):Prop where
 mod:Mod X.K X.mg X.base
 kind:X.env.scope.kind= .function
 glob:X.env.globals=mainGlobals
 blt:X.env.builtins=builtinsNs
 above:X.s₀.heap.objs.size<=X.env.locals
 inj:∀x y c,X.env.cells.lookup x=some c->X.env.cells.lookup y=some c->x=y
 has:∀x,(X.env.kindOf x=some .cell\/X.env.kindOf x=some .free)->∃c,X.env.cells.lookup x=some c
 cab:∀x c,X.fn x=true->X.env.cells.lookup x=some c->X.s₀.heap.objs.size<=c
 hd:X.calm=true->X.A.handled=none
 frames:X.A.frames=some X.stack
 stk:X.stack=X.outer\/(X.stack=X.env::X.outer/\X.env.frame=some X.env.locals)
 exf:∀b∈X.ex,b≠X.env.locals/\∀x c,X.env.cells.lookup x=some c->c≠b
 bs:∀b o,X.base.get? b=some o->X.s₀.heap.get? b=some o/\X.H₀ b=none
 WK:X.base.objs.size<=X.s₀.heap.objs.size
 OV:∀b o,X.base.get? b=some o->b∉X.ex
 Q6:∀b∈X.ex,b∉X.fs
 vY:X.s₀.heap.FunFrames X.base X.outer
 frf:∀b∈X.fs,X.H₀ b=none
structure Inv(X:Cx)(pins:List (Addr×Obj))(σ:List (Option V))(H:Hp)(s:Shared):Prop where
 ok:X.Ok
 os:s.os=X.s₀.os
 bare:AllBare s.gens
 base:Un X.fs X.ex X.H₀ H X.s₀.heap s.heap
 loc:∃m,s.heap.Ns X.env.locals m/\∀(i:Nat) (x:Str) (v:V),X.N[i]? =some x->σ[i]? =some (some v)->Vis X.env.scope x->∃u,RelV v u/\Look X.env s.heap m x u
 cell:∀x c,X.env.cells.lookup x=some c->∃v,s.heap.IsCell c v
 free:H X.env.locals=none
 m4:∀x c,X.env.cells.lookup x=some c->H c=none
 pin:∀p∈X.pn++pins,s.heap.get? p.1=some p.2/\H p.1=none/\p.1≠X.env.locals/\p.1∉X.fs/\∀v,p.2.data≠ .cell v
 b9:qW X.prog X.w H s.heap
 len:σ.length=X.N.length
section
variable {X:Cx}{pins:List (Addr×Obj)}{σ:List (Option V)}{H H' :Hp}{s:Shared}{h' :Heap}
theorem Cx.Ok.aIm(ok:X.Ok)(e:X.base.get? b=some o):b∉X.fs:=λhb=>by
 have:=(ok.vY.mem hb).1;rw[e]at this;cases this
theorem Inv.bs(I:Inv X pins σ H s):∀b o,X.base.get? b=some o->s.heap.get? b=some o/\H b=none:=λb o e=>
 ⟨I.base.keep b o (I.ok.bs b o e).1 (I.ok.bs b o e).2 (I.ok.aIm e) (I.ok.OV b o e),I.base.free b o (I.ok.bs b o e).1 (I.ok.bs b o e).2 (I.ok.OV b o e)⟩
theorem Inv.bk(I:Inv X pins σ H s):∀b o,X.base.get? b=some o->s.heap.get? b=some o:=λb o e=>(I.bs b o e).1
theorem Inv.mod(I:Inv X pins σ H s):Mod X.K X.mg X.base:=I.ok.mod
theorem Inv.kIn(I:Inv X pins σ H s):X.K.In s.heap:=I.ok.mod.kin.keeps I.bk
theorem Inv.fr(I:Inv X pins σ H s):∃m,Fr X.base X.env.locals s.heap m:=
 let ⟨m,hn,_⟩:=I.loc
 ⟨m,hn,I.bk,aKe I.ok.WK I.ok.above⟩
theorem Inv.lt(I:Inv X pins σ H s):X.env.locals<s.heap.objs.size:=let ⟨_,hn,_⟩:=I.loc;hn.lt
theorem Inv.sz(I:Inv X pins σ H s):X.s₀.heap.objs.size<=s.heap.objs.size:=aKe I.ok.above (aM5 I.lt)
theorem Inv.aIl(I:Inv X pins σ H s)(h:s.heap.objs.size<=a):a∉X.fs:=λhb=>by
 obtain⟨_,o,ho,_⟩:=I.ok.vY.mem hb;exact absurd (aK6 (aJy ho) (aKe I.sz h)) (aLx _)
theorem Inv.cne(I:Inv X pins σ H s):∀x c,X.env.cells.lookup x=some c->c≠X.env.locals:=λx c e z=>by
 obtain⟨v,o,ho,hd⟩:=I.cell x c e;obtain⟨m,⟨o',es,ep,a,b,_⟩,_⟩:=I.loc;rw[z,a]at ho;cases ho;rw[b]at hd;cases hd
theorem Inv.vY(I:Inv X pins σ H s):s.heap.FunFrames X.base X.outer:=by
 have all:∀(l:List Env),(∀b∈QZ l,b∈X.fs)->X.s₀.heap.FunFrames X.base l->s.heap.FunFrames X.base l:=by
  intro l
  induction l with
  | nil=>intro _ _;trivial
  | cons env r ih=>
   intro hs d;obtain⟨f,⟨L,o,a,g,ho,hd⟩,h⟩:=d;have c:L∈X.fs:=hs L (by unfold QZ;rw[List.filterMap_cons,a];exact aJs);obtain⟨sl,e⟩:=I.base.slot L o ho (I.ok.frf L c) c λz=>I.ok.Q6 L z c;exact⟨f,⟨L,_,a,g,e,hd⟩,ih (λb hb=>hs b (by unfold QZ;rw[List.filterMap_cons,a];exact aJt _ hb)) h⟩
 exact all X.outer (λ_ hb=>hb) I.ok.vY
theorem Inv.stack(I:Inv X pins σ H s):s.heap.FunFrames X.base X.stack:=by
 rcases I.ok.stk with e | ⟨e,a⟩
 ·rw[e];exact I.vY
 ·rw[e];obtain⟨m,b,_⟩:=I.loc;refine .cons (by rw[I.ok.kind];decide) a b ?_ I.vY;exact Heap.get?_none_of_le (aKe I.ok.WK I.ok.above)
theorem Inv.FO(I:Inv X pins σ H s):∀b∈QZ X.stack,b∈X.env.locals::X.fs:=λb hb=>by
 rcases I.ok.stk with e | ⟨e,a⟩
 ·rw[e]at hb;exact aJt _ hb
 ·rw[e]at hb;unfold QZ at hb;rw[List.filterMap_cons,a]at hb;exact hb
theorem Inv.II(I:Inv X pins σ H s):∀b∈QZ X.stack,H b=none:=λb hb=>by
 rcases aK1.mp (I.FO b hb) with e | hb
 ·rw[e];exact I.free
 ·obtain⟨_,o,ho,_⟩:=I.ok.vY.mem hb;exact I.base.free b o ho (I.ok.frf b hb) λz=>I.ok.Q6 b z hb
variable{g':Array GenState}{t':Nat}{ch:List Addr}
theorem Inv.step{d' :Drawn}(I:Inv X pins σ H s)
  (a:∀b∈ch,(b∈X.ex\/X.s₀.heap.objs.size<=b)/\b≠X.env.locals/\(∀x c,X.env.cells.lookup x=some c->c≠b)/\∀p∈X.pn++pins,p.1≠b)
  (keep:∀b o,b≠X.env.locals->b∉X.fs->b∉ch->s.heap.get? b=some o->H b=none->h'.get? b=some o)
  (slot:∀b o,b≠X.env.locals->b∈X.fs->b∉ch->s.heap.get? b=some o->H b=none->∃sl,h'.get? b=some {o with slots:=sl}) (free:∀b o,b∉ch->s.heap.get? b=some o->H b=none->H' b=none)
  (there:∀b o,b∉ch->s.heap.get? b=some o->∃o',h'.get? b=some o')
  (CM:∀b xs,H b=some (.tup xs)->H' b=some (.tup xs)) (A9:∀b o u,H b=some (.frz o u)->H' b=some (.frz o u)) (CN:∀b ps,H b=some (.tbl ps)->∃more,H' b=some (.tbl (ps++more)))
  (ns:∀m,s.heap.Ns X.env.locals m->h'.Ns X.env.locals m) (b9:qW X.prog X.w H' h') (hg:AllBare g'):
  Inv X pins σ H' {s with heap:=h',gens:=g',drawn:=d',toks:=t'}:=by
 have t:∀b o,X.s₀.heap.get? b=some o->b≠X.env.locals:=λb o e=>aK2 (aK6 (aJy e) I.ok.above)
 have h:∀b o,X.s₀.heap.get? b=some o->b∉X.ex->b∉ch:=λb o e hx hb=>by
  rcases(a b hb).1 with z | z
  ·exact hx z
  ·exact absurd (aK6 (aJy e) z) (aLx _)
 have f:∀x c,X.env.cells.lookup x=some c->∀v,s.heap.IsCell c v->h'.IsCell c v:=λx c e v A=>by
  obtain⟨o,ho,hd⟩:=A;have g:c∉ch:=λz=>(a c z).2.2.1 x c e rfl;by_cases C:c∈X.fs
  ·obtain⟨sl,q⟩:=slot c o (I.cne x c e) C g ho (I.m4 x c e);exact⟨_,q,hd⟩
  ·exact⟨o,keep c o (I.cne x c e) C g ho (I.m4 x c e),hd⟩
 refine⟨I.ok,I.os,hg,⟨λb o e n hb hx=>?_,λb o e n hb hx=>?_,λb o e n hx=>?_,λb o e hx=>?_,λb xs e=>CM b xs (I.base.CM b xs e),λb o xs e=>A9 b o xs (I.base.A9 b o xs e),λb ps e=>?_⟩,?_,λx c e=>?_,?_,λx c e=>?_,λp D=>?_,b9,I.len⟩
 ·exact keep b o (t b o e) hb (h b o e hx) (I.base.keep b o e n hb hx) (I.base.free b o e n hx)
 ·obtain⟨sl,j⟩:=I.base.slot b o e n hb hx;obtain⟨B,y⟩:=slot b _ (t b o e) hb (h b o e hx) j (I.base.free b o e n hx);exact⟨B,y⟩
 ·obtain⟨o',j⟩:=I.base.there b o e hx;exact free b o' (h b o e hx) j (I.base.free b o e n hx)
 ·obtain⟨o',j⟩:=I.base.there b o e hx;exact there b o' (h b o e hx) j
 ·obtain⟨m1,j⟩:=I.base.CN b ps e;obtain⟨F,y⟩:=CN b _ j;exact⟨m1++F,by rw[y,Array.append_assoc]⟩
 ·obtain⟨m,G,J⟩:=I.loc;refine⟨m,ns m G,λi x v j y K=>?_⟩;obtain⟨u,r,l⟩:=J i x v j y K;refine⟨u,r,?_⟩;rcases l with l | ⟨k,c,e,z⟩
  ·exact .inl l
  ·exact .inr ⟨k,c,e,f x c e _ z⟩
 ·obtain⟨v,z⟩:=I.cell x c e;exact⟨v,f x c e v z⟩
 ·obtain⟨m,⟨o,_,_,ho,_⟩,_⟩:=I.loc;exact free _ o (λz=>(a _ z).2.1 rfl) ho I.free
 ·obtain⟨v,o,ho,hd⟩:=I.cell x c e;exact free c o (λz=>(a c z).2.2.1 x c e rfl) ho (I.m4 x c e)
 ·obtain⟨e,n,ne,E,d⟩:=I.pin p D;have g:p.1∉ch:=λz=>(a p.1 z).2.2.2 p D rfl;exact⟨keep p.1 p.2 ne E g e n,free p.1 p.2 g e n,ne,E,d⟩
theorem Inv.un(I:Inv X pins σ H s)(u:Un X.fs [] H H' s.heap h')(b9:qW X.prog X.w H' h'):Inv X pins σ H' {s with heap:=h',toks:=t'}:=by
 obtain⟨m,⟨o,es,ep,ho,r⟩,_⟩:=id I.loc;obtain⟨sl,f⟩:=u.any ho I.free (by simp)
 exact I.step (g' :=s.gens) (d' :=s.drawn) (ch:=[]) (λ_ z=>nomatch z) (λb o _ hb _ e n=>u.keep b o e n hb (by simp)) (λb o _ hb _ e n=>u.slot b o e n hb (by simp)) (λb o _ e n=>u.free b o e n (by simp)) (λb o _ e=>u.there b o e (by simp)) u.CM u.A9 u.CN (λh hm=>by
  obtain⟨o',c,d,a,g⟩:=hm;rw[ho]at a;cases a
  exact⟨_,c,d,f,g⟩) b9 I.bare
theorem Inv.call{d' :Drawn}(I:Inv X pins σ H s)(u:Un (QZ X.stack) ch H H' s.heap h')(b9:qW X.prog X.w H' h')(hg:AllBare g')
  (d:∀b∈ch,(b∈X.ex\/X.s₀.heap.objs.size<=b)/\b≠X.env.locals/\(∀x c,X.env.cells.lookup x=some c->c≠b)/\∀p∈X.pn++pins,p.1≠b):
  Inv X pins σ H' {s with heap:=h',gens:=g',drawn:=d',toks:=t'}:=by
 obtain⟨m,⟨o,es,ep,ho,r⟩,_⟩:=id I.loc;obtain⟨sl,g⟩:=u.any ho I.free λz=>(d _ z).2.1 rfl
 exact I.step (ch:=ch) d (λb o g hb a e n=>u.keep b o e n (λz=>(aK1.mp (I.FO b z)).elim g hb) a) (λb o _ _ a e n=>u.any e n a) (λb o a e n=>u.free b o e n a) (λb o a e=>u.there b o e a) u.CM u.A9 u.CN (λk hm=>by
  obtain⟨o',h,i,f,j⟩:=hm;rw[ho]at f;cases f
  exact⟨_,h,i,g,j⟩) b9 hg
theorem Inv.turned{it:Addr}(I:Inv X pins σ H s)(k:∀b o,b≠it->s.heap.get? b=some o->h'.get? b=some o)(g:H it=none)(f:it≠X.env.locals)
  (h:it∈X.ex\/X.s₀.heap.objs.size<=it) (i:∀x c,X.env.cells.lookup x=some c->c≠it) (j:∀p∈X.pn++pins,p.1≠it):Inv X pins σ H {s with heap:=h',toks:=t'}:=by
 have d:∀b u,H b=some u->b≠it:=λb u e z=>by rw[z,g]at e;cases e
 refine I.step (g' :=s.gens) (d' :=s.drawn) (ch:=[it]) (λb hb=>?_) (λb o _ _ a e _=>k b o (λz=>a (by simp[z])) e) (λb o _ _ a e _=>⟨o.slots,k b o (λz=>a (by simp[z])) e⟩) (λ_ _ _ _ n=>n)
  (λb o a e=>⟨o,k b o (λz=>a (by simp[z])) e⟩) (λ_ _ e=>e) (λ_ _ _ e=>e) (λb ps e=>⟨#[],by rw[e];simp⟩) (λm hm=>?_) (λb u e=>?_) I.bare
 ·have e:b=it:=by simpa using hb
  subst e;exact⟨h,f,i,j⟩
 ·obtain⟨o,es,ep,ho,r⟩:=hm;exact⟨o,es,ep,k _ o (aL4 f) ho,r⟩
 ·refine(I.b9 b u e).FR (λc v a q=>k c v ?_ q) (λ_ q=>q) λ_ _ q=>q;rcases a with z | z
  ·rw[z];exact d b u e
  ·exact d c _ z
theorem Inv.tok(I:Inv X pins σ H s)(t:Nat):Inv X pins σ H {s with toks:=t}:=I.un (h' :=s.heap) (t' :=t) Un.refl I.b9
theorem Inv.kept(I:Inv X pins σ H s)(k:∀b u,s.heap.get? b=some u->h'.get? b=some u):Inv X pins σ H {s with heap:=h',toks:=t'}:=I.un (Un.kept k) (I.b9.kept k)
theorem Inv.laid{o:HO}(I:Inv X pins σ H s)(k:∀b u,s.heap.get? b=some u->h'.get? b=some u)(c:s.heap.objs.size<=a)(new:cL X.prog X.w (upd H a o) h' a o):
  Inv X pins σ (upd H a o) {s with heap:=h',toks:=t'}:=I.un (Un.laid k c (I.b9.fresh c)) (I.b9.laid k c new)
theorem Inv.write{x e:Addr}{o:HO}(I:Inv X pins σ H s)(c:RQ (H x))(he:e=x\/H e=some (.own x))(k:∀b u,b≠e->s.heap.get? b=some u->h'.get? b=some u)(a:∃u,h'.get? e=some u)
  (new:cL X.prog X.w (upd H x o) h' x o):Inv X pins σ (upd H x o) {s with heap:=h',toks:=t'}:=I.un (Un.write c he k a) (I.b9.write c he k a new)
theorem Inv.weak{a :List (Option V)}(I:Inv X pins σ H s)(b:a.length=σ.length)(w:∀(i:Nat) v,a[i]? =some (some v)->σ[i]? =some (some v)):Inv X pins a H s:=
 ⟨I.ok,I.os,I.bare,I.base,let ⟨m,hn,hl'⟩:=I.loc;⟨m,hn,λi x v c d e=>hl' i x v c (w i v d) e⟩,I.cell,I.free,I.m4,I.pin,I.b9,b.trans I.len⟩
theorem Inv.IQ{a :List (Addr×Obj)}(I:Inv X pins σ H s)(h:∀p∈a,s.heap.get? p.1=some p.2/\H p.1=none/\p.1≠X.env.locals/\p.1∉X.fs/\∀v,p.2.data≠ .cell v):Inv X a σ H s:=
 ⟨I.ok,I.os,I.bare,I.base,I.loc,I.cell,I.free,I.m4,λp b=>(aJx.mp b).elim (λz=>I.pin p (aLn _ z)) (h p),I.b9,I.len⟩
theorem DG{N:List Str}(hN:N.Nodup){i j:Nat}{x:Str}(a:N[i]? =some x)(b:N[j]? =some x):i=j:=by
 obtain⟨e,c⟩:=aJr.mp a;obtain⟨f,d⟩:=aJr.mp b;exact(aNg hN).mp (c.trans d.symm)
variable{Q:Unit->Shared->Prop}
theorem x9{M:Model}{A:Around}{E:aNn}{i:Nat}{x:Str}{v:V}{u:Value}(I:Inv X pins σ H s)(hN:X.N.Nodup)(hi:X.N[i]? =some x)(hx:Loc X.env.scope x)(r:RelV v u)
  (h:∀R,Inv X pins (σ.set i (some v)) H R ->(∃a,Heap.SameBut a s.heap R.heap/\(a=X.env.locals\/X.env.cells.lookup x=some a))->Q () R) (hf:X.fn x=true\/X.env.scope.names.lookup x=some .local:=by first | exact .inl rfl | exact .inr rfl | assumption):wpAny M A (storeName X.env x u) Q E s:=by
 obtain⟨m,S,hl⟩:=id I.loc;have F:(X.env.scope.kind== .class || (X.env.scope.kind== .module && X.env.locals !=X.env.globals))=false:=by rw[I.ok.kind];rfl
 have B:i<σ.length:=by rw[I.len];exact(aJr.mp hi).1
 have cne:=I.cne
 have f:∀{a:Addr} {h' :Heap},(∃o,s.heap.get? a=some o/\H a=none)->Heap.SameBut a s.heap h' ->qW X.prog X.w H h' :=λ{a h'} ha hs b ob e=>by
  obtain⟨_,_,l⟩:=ha;refine(I.b9 b ob e).FR (λc O hc q=>(hs.2 c ?_).trans q) (λ_ q=>q) λ_ _ q=>q;rintro rfl;rcases hc with rfl | hc
  ·rw[l]at e;cases e
  ·rw[l]at hc;cases hc
 rcases hx with hk | hk
 ·refine wpAny_storeName_local hk S (λh' T hs=>?_) F;obtain⟨oL,_,_,U,_⟩:=id S;refine h _ ⟨I.ok,I.os,I.bare,⟨λb o e n hb hx=>?_,λb o e n hb hx=>?_,I.base.free,λb o e hx=>?_,I.base.CM,I.base.A9,I.base.CN⟩,⟨_,T,λj y W g t Y=>?_⟩,λy c e=>?_,I.free,I.m4,λp Z=>?_,f ⟨oL,U,I.free⟩ hs,by simpa using I.len⟩ ⟨_,hs,.inl rfl⟩
  ·exact(hs.2 b (aK2 (aK6 (aJy e) I.ok.above))).trans (I.base.keep b o e n hb hx)
  ·obtain⟨sl,g⟩:=I.base.slot b o e n hb hx;exact⟨sl,(hs.2 b (aK2 (aK6 (aJy e) I.ok.above))).trans g⟩
  ·obtain⟨o',g⟩:=I.base.there b o e hx;exact⟨o',(hs.2 b (aK2 (aK6 (aJy e) I.ok.above))).trans g⟩
  ·by_cases C:j=i
   ·subst C;rw[hi]at g;cases g;rw[List.getElem?_set_self B]at t;cases t;exact⟨u,r,.inl ⟨hk,by simp⟩⟩
   ·rw[List.getElem?_set_ne (Ne.symm C)]at t;obtain⟨u',r',q⟩:=hl j y W g t Y;refine⟨u',r',?_⟩
    rcases q with ⟨k,e⟩ | ⟨k,c,e,z⟩
    ·refine .inl ⟨k,?_⟩;have:y≠x:=λe=>C (DG hN g (e▸hi));simp[this,e]
    ·exact .inr ⟨k,c,e,z.sameBut hs (cne y c e)⟩
  ·obtain⟨O,z⟩:=I.cell y c e;exact⟨O,z.sameBut hs (cne y c e)⟩
  ·obtain⟨e,n,ne,nf,d⟩:=I.pin p Z;exact⟨(hs.2 p.1 ne).trans e,n,ne,nf,d⟩
 ·have D:X.fn x=true:=by
   rcases hf with z | z
   ·exact z
   ·rw[z]at hk;cases hk
  obtain⟨c,hc⟩:=I.ok.has x (.inl hk);obtain⟨O,z⟩:=I.cell x c hc;refine wpAny_storeName_cell I.ok.kind hk hc z (λh' G hs=>?_);obtain⟨oc,J,K⟩:=id z;refine h {s with heap:=h'} ⟨I.ok,I.os,I.bare,⟨λb o e n hb hx=>?_,λb o e n hb hx=>?_,I.base.free,λb o e hx=>?_,I.base.CM,I.base.A9,I.base.CN⟩,⟨m,S.sameBut hs (aL4 (cne x c hc)),λj y W g t Y=>?_⟩,λy P e=>?_,I.free,I.m4,λp Z=>?_,f ⟨oc,J,I.m4 x c hc⟩ hs,by simpa using I.len⟩ ⟨c,hs,.inr hc⟩
  ·exact(hs.2 b (aK2 (aK6 (aJy e) (I.ok.cab x c D hc)))).trans (I.base.keep b o e n hb hx)
  ·obtain⟨sl,g⟩:=I.base.slot b o e n hb hx;exact⟨sl,(hs.2 b (aK2 (aK6 (aJy e) (I.ok.cab x c D hc)))).trans g⟩
  ·obtain⟨o',g⟩:=I.base.there b o e hx;exact⟨o',(hs.2 b (aK2 (aK6 (aJy e) (I.ok.cab x c D hc)))).trans g⟩
  ·by_cases C:j=i
   ·subst C;rw[hi]at g;cases g;rw[List.getElem?_set_self B]at t;cases t;exact⟨u,r,.inr ⟨.inl hk,c,hc,G⟩⟩
   ·rw[List.getElem?_set_ne (Ne.symm C)]at t;obtain⟨u',r',q⟩:=hl j y W g t Y;refine⟨u',r',?_⟩;rcases q with q | ⟨k,P,e,z'⟩
    ·exact .inl q
    ·refine .inr ⟨k,P,e,z'.sameBut hs ?_⟩;rintro rfl;exact C (DG hN g (I.ok.inj _ _ _ e hc▸hi))
  ·by_cases L:P =c
   ·subst L;exact⟨_,G⟩
   ·obtain⟨w2,z2⟩:=I.cell y P e;exact⟨w2,z2.sameBut hs L⟩
  ·obtain⟨e,n,ne,nf,d⟩:=I.pin p Z;refine⟨(hs.2 p.1 ?_).trans e,n,ne,nf,d⟩;intro q;rw[q,J]at e;have q' :oc=p.2:=aK5 e;exact d O (by rw[<-q'];exact K)
theorem pS{M:Model}{A:Around}{E:aNn}{i:Nat}{x:Str}{v:V}{u:Value}(I:Inv X pins σ H s)(hN:X.N.Nodup)(hi:X.N[i]? =some x)(hx:Loc X.env.scope x)(r:RelV v u)
  (h:∀a,Inv X pins (σ.set i (some v)) H a ->Q () a) (b:X.fn x=true\/X.env.scope.names.lookup x=some .local:=by first | exact .inl rfl | exact .inr rfl | assumption):wpAny M A (storeName X.env x u) Q E s:=
 x9 I hN hi hx r (λa c _=>h a c) b
theorem Inv.aFv{a :Shared}(I:Inv X pins σ H s)(ho:a.os=s.os)(u:Un (QZ X.stack) ch H H' s.heap a.heap)(b9:qW X.prog X.w H' a.heap)(hg:AllBare a.gens)
  (d:∀b∈ch,(b∈X.ex\/X.s₀.heap.objs.size<=b)/\b≠X.env.locals/\(∀x c,X.env.cells.lookup x=some c->c≠b)/\∀p∈X.pn++pins,p.1≠b):Inv X pins σ H' a :=by
 obtain⟨h',g',d',t',o'⟩:=a;have e:o' =s.os:=ho;subst e;exact I.call (g' :=g') (t' :=t') (d' :=d') u b9 hg d
end
abbrev XK:=Value->Option Addr->Hp->Prop
abbrev St:=List (Option V)
abbrev VK:=V->Hp->Prop
abbrev TE:=St->Hp->VK->Prop
abbrev TT:=St->Hp->(Bool->Hp->Prop)->Prop
abbrev TA:=St->Hp->(List V->Hp->Prop)->Prop
structure Ends where
 nx:St->Hp->Prop
 rt:VK
 bk:St->Hp->Prop:=λ_ _=>False
 ct:St->Hp->Prop:=λ_ _=>False
abbrev TS:=Ends->St->Hp->Prop
def EP(X:Cx)(pins:List (Addr×Obj))(σ:St)(Q:VK)(u:Value)(a :Shared):Prop:=∃v H',Inv X pins σ H' a /\RelV v u/\Q v H'
def TP(X:Cx)(pins:List (Addr×Obj))(σ:St)(Q:Bool->Hp->Prop)(b:Bool)(a :Shared):Prop:=∃H',Inv X pins σ H' a /\Q b H'
def AP(X:Cx)(pins:List (Addr×Obj))(σ:St)(Q:List V->Hp->Prop)(us:List Value)(a :Shared):Prop:=∃vs H',Inv X pins σ H' a /\Vals vs us/\Q vs H'
def SP(X:Cx)(pins:List (Addr×Obj))(D:Ends)(f:Flow)(b :Shared):Prop:=
 match f with
 | .next=>∃a H',Inv X pins a H' b /\D.nx a H'
 | .brk=>∃a H',Inv X pins a H' b /\D.bk a H'
 | .cont=>∃a H',Inv X pins a H' b /\D.ct a H'
 | .ret u=>∃v a H',Inv X pins a H' b /\RelV v u/\D.rt v H'
def PE(X:Cx)(e:Expr)(t:TE):Prop:=
 ∀(pins:List (Addr×Obj)) (s:Shared) (σ:St) (H:Hp) (Q:VK),Inv X pins σ H s->t σ H Q->wpAny (model X.prog X.w) X.A (eval e X.env) (EP X pins σ Q) X.xe s
def PT(X:Cx)(e:Expr)(t:TT):Prop:=
 ∀(pins:List (Addr×Obj)) (s:Shared) (σ:St) (H:Hp) (Q:Bool->Hp->Prop),Inv X pins σ H s->t σ H Q->wpAny (model X.prog X.w) X.A (isTrue e X.env (eval e X.env)) (TP X pins σ Q) X.xe s
def PW(X:Cx)(e:Expr)(t:TT):Prop:=
 ∀(a:Sem Value) (pins:List (Addr×Obj)) (s:Shared) (σ:St) (H:Hp) (Q:Bool->Hp->Prop),Inv X pins σ H s->t σ H Q->wpAny (model X.prog X.w) X.A (isTrue e X.env a) (TP X pins σ Q) X.xe s
variable{e:Expr}
theorem PW.pt{X:Cx}{t:TT}(h:PW X e t):PT X e t:=h _
def PA(X:Cx)(es:List Expr)(t:TA):Prop:=
 ∀(pos:Pos) (pins:List (Addr×Obj)) (s:Shared) (σ:St) (H:Hp) (Q:List V->Hp->Prop),Inv X pins σ H s->t σ H Q->wpAny (model X.prog X.w) X.A (spliced (backTo pos (starEach es X.env))) (AP X pins σ Q) X.xe s
def PS(X:Cx)(st:Stmt)(t:TS):Prop:=
 ∀(pins:List (Addr×Obj)) (s:Shared) (σ:St) (H:Hp) (D:Ends),Inv X pins σ H s->t D σ H->wpAny (model X.prog X.w) X.A (exec st X.env) (SP X pins D) X.xe s
def B2(X:Cx)(st:List Stmt)(t:TS):Prop:=
 ∀(pins:List (Addr×Obj)) (s:Shared) (σ:St) (H:Hp) (D:Ends),Inv X pins σ H s->t D σ H->wpAny (model X.prog X.w) X.A (execs st X.env) (SP X pins D) X.xe s
variable{A:Around}{E:aNn}{s:Shared}
theorem c8{b:Type}{t:Sem b}{Q c :b->Shared->Prop}{M:Model}(h:wpAny M A t Q E s)(d:∀a s,Q a s->c a s):wpAny M A t c E s:=aL9 h d λ_ _ x=>x
section
variable {X:Cx}
def aH9(i:Nat):TE:=λσ H Q=>∃v,σ[i]? =some (some v)/\Q v H
def tC(v:V):TE:=λ_ H Q=>Q v H
variable{x:Str}{pos:Pos}
theorem ZE{i:Nat}(hN:X.N[i]? =some x)(f:Vis X.env.scope x)(hd:(x==("__debug__":Str))=false:=by decide)(b:(x==("__classdict__":Str))=false:=by decide):PE X (.Name x pos) (aH9 i):=by
 intro pins s σ H Q I h;obtain⟨v,e,h⟩:=h;obtain⟨m,g,j⟩:=I.loc;obtain⟨u,r,l⟩:=j i x v hN e f
 have fin:EP X pins σ Q u s:=⟨v,H,I,r,h⟩
 rcases l with ⟨hk,hm⟩ | ⟨hk,c,d,a⟩
 ·exact wpAny_Name (wpAny_loadName_local I.ok.kind hk g hm fin) hd
 ·rcases hk with hk | hk
  ·exact wpAny_Name (wpAny_loadName_cell I.ok.kind hk d a fin) hd
  ·exact wpAny_Name (wpAny_loadName_free I.ok.kind hk d a fin b) hd
theorem ZL{i j pos}:PE X (.Constant (.int i) j pos) (tC (.int i)):=λ_ _ _ H _ I h=>wpAny_Constant_int ⟨.int i,H,I.tok _,⟨_,rfl⟩,h⟩
theorem aEd{b j pos}:PE X (.Constant (.bool b) j pos) (tC (.bl b)):=λ_ _ _ H _ I h=>Constant_bool ⟨.bl b,H,I,rfl,h⟩
theorem ZJ{j pos}:PE X (.Constant .none j pos) (tC .bY):=λ_ _ _ H _ I h=>Constant_none ⟨.bY,H,I,rfl,h⟩
theorem ZG{x j pos}:PE X (.Constant (.str x) j pos) (tC (.str x)):=λ_ _ _ H _ I h=>Calls.Constant_str ⟨.str x,H,I.tok _,⟨_,rfl⟩,h⟩
def Gl(X:Cx)(x:Str):Prop:=X.env.kindOf x=some .globalImplicit
variable{pins:List (Addr×Obj)}{u:Value}
theorem JE{σ:St}{Q:aNn}(I:Inv X pins σ H s)(hg:Gl X x)(hm:X.mg x=some u)(h:Q u s)
  (hd:(x==("__debug__":Str))=false:=by decide):wpAny (model X.prog X.w) X.A (eval (.Name x pos) X.env) Q E s:=
 Calls.Name_function_global I.ok.kind hg (Calls.loadGlobal_global (by rw[I.ok.glob];exact I.mod.glob.keeps I.bk) hm h) hd
theorem pB{σ:St}{Q:aNn}(I:Inv X pins σ H s)(hg:Gl X x)(hm:X.mg x=none)(a:bootBuiltins x=some u)(h:Q u s)
  (b:x≠ "__name__":=by decide) (hd:(x==("__debug__":Str))=false:=by decide):wpAny (model X.prog X.w) X.A (eval (.Name x pos) X.env) Q E s:=by
 obtain⟨mb,c,d⟩:=I.mod.blt;exact Calls.Name_function_global I.ok.kind hg (Calls.loadGlobal_builtin (by rw[I.ok.glob];exact I.mod.glob.keeps I.bk) hm (by rw[I.ok.blt];exact c.keeps I.bk) ((d x b).trans a) h) hd
theorem T9{v:V}(hg:Gl X x)(hm:X.mg x=some u)(r:RelV v u)(hd:(x==("__debug__":Str))=false:=by decide):PE X (.Name x pos) (tC v):=
 λ_ _ _ H _ I h=>JE I hg hm ⟨v,H,I,r,h⟩ hd
theorem UC{v:V}(hg:Gl X x)(hm:X.mg x=none)(a:bootBuiltins x=some u)(r:RelV v u)(b:x≠ "__name__":=by decide)(hd:(x==("__debug__":Str))=false:=by decide):PE X (.Name x pos) (tC v):=
 λ_ _ _ H _ I h=>pB I hg hm a ⟨v,H,I,r,h⟩ b hd
variable {a b:Expr}{ta tb:TE}{pos:Pos}
theorem OX(b:Expr){op:CmpOp}(h:op≠ .In)(a:op≠ .NotIn):behindInMarks op b=false:=by
 have c:(op==CmpOp.In)=false:=by cases op <;> first | rfl | exact absurd rfl h
 have d:(op==CmpOp.NotIn)=false:=by cases op <;> first | rfl | exact absurd rfl a
 cases b <;> simp[behindInMarks,c,d]
variable {tA tB' :TT}{rest:List Expr}
def aHl(t u:TT):TT:=λσ H Q=>t σ H λc a=>if c=true then u σ a Q else Q false a
def tOr(t u:TT):TT:=λσ H Q=>t σ H λc a=>if c=true then Q true a else u σ a Q
def aHe(t:TT):TT:=λσ H Q=>t σ H λc a=>Q (!c) a
theorem TK(ha:PT X a tA):PW X (.BoolOp .And [a] pos) tA:=by
 intro b pins s σ H Q I h;refine isTrue_and (c8 (ha pins s σ H Q I h) λc s1 e=>?_)
 cases c with
 | true=>exact isTrue_and_nil e
 | false=>exact e
theorem Y2(ha:PT X a tA):PW X (.BoolOp .Or [a] pos) tA:=by
 intro b pins s σ H Q I h;refine isTrue_or (c8 (ha pins s σ H Q I h) λc s1 e=>?_)
 cases c with
 | false=>exact isTrue_or_nil e
 | true=>exact e
theorem Y3(ha:PT X a tA)(hb:PW X (.BoolOp .And (b::rest) pos) tB'):PW X (.BoolOp .And (a::b::rest) pos) (aHl tA tB'):=by
 intro i pins s σ H Q I h;refine isTrue_and (c8 (ha pins s σ H _ I h) λc s1 d=>?_);obtain⟨e,f,g⟩:=d
 cases c with
 | true=>exact hb i pins s1 σ e Q f g
 | false=>exact⟨e,f,g⟩
theorem aE3(ha:PT X a tA)(hb:PW X (.BoolOp .Or (b::rest) pos) tB'):PW X (.BoolOp .Or (a::b::rest) pos) (tOr tA tB'):=by
 intro i pins s σ H Q I h;refine isTrue_or (c8 (ha pins s σ H _ I h) λc s1 d=>?_);obtain⟨e,f,g⟩:=d
 cases c with
 | true=>exact⟨e,f,g⟩
 | false=>exact hb i pins s1 σ e Q f g
theorem Y4(ha:PT X a tA):PT X (.UnaryOp .Not a pos) (aHe tA):=by
 intro pins s σ H Q I h;exact isTrue_not (ha pins s σ H (λc b=>Q (!c) b) I h)
def aDk(ta tb:TE):TE:=λσ H Q=>ta σ H λx a=>∃c,x= .bl c/\if c=true then tb σ a Q else Q (.bl false) a
def aDe(ta:TE):TE:=λσ H Q=>ta σ H λx a=>∃c,x= .bl c/\Q (.bl (!c)) a
theorem ZH{op}{t:TE}(h:PE X a t):PE X (.BoolOp op [a] pos) t:=λpins s σ H Q I b=>BoolOp_one (h pins s σ H Q I b)
theorem ZM(ha:PE X a ta)(hb:PE X (.BoolOp .And (b::rest) pos) tb):PE X (.BoolOp .And (a::b::rest) pos) (aDk ta tb):=by
 intro pins s σ H Q I h;refine BoolOp_and (c8 (ha pins s σ H _ I h) λv s1 e=>?_);obtain⟨x,f,g,i,d⟩:=e;obtain⟨c,rfl,d⟩:=d;cases i;refine aLy ?_
 cases c with
 | true=>exact hb pins s1 σ f Q g d
 | false=>exact⟨.bl false,f,g,rfl,d⟩
theorem ZI(ha:PE X a ta):PE X (.UnaryOp .Not a pos) (aDe ta):=by
 intro pins s σ H Q I h;refine UnaryOp_ (c8 (ha pins s σ H _ I h) λv s1 b=>?_);obtain⟨x,e,f,g,d⟩:=b;obtain⟨c,rfl,d⟩:=d;cases g;exact not_of (aLy ⟨.bl (!c),e,f,rfl,d⟩)
def tIf(t:TT)(ta tb:TE):TE:=λσ H Q=>t σ H λc a=>if c=true then ta σ a Q else tb σ a Q
theorem OJ{c:Expr}(j:PT X c tA)(ha:PE X a ta)(hb:PE X b tb):PE X (.IfExp c a b pos) (tIf tA ta tb):=by
 intro pins s σ H Q I h;refine wpAny_IfExp (c8 (j pins s σ H _ I h) λd s1 e=>?_);obtain⟨f,g,i⟩:=e
 cases d with
 | true=>exact ha pins s1 σ f Q g i
 | false=>exact hb pins s1 σ f Q g i
end
def qU(K:aNm)(H:Hp)(a:Addr)(xs:List V):Prop:=
 Rd H a (.lst xs)\/
  ∃(o:Obj) (aJ:Array Value) (n:Nat),K.lookup a=some o/\o.cls= .type "list"/\o.dict=none/\o.data= .seq aJ n/\aJ.size<=sizeLine/\Vals xs aJ.toList
def tQ(K:aNm)(H:Hp)(a:Addr)(xs:List V):Prop:=
 Rd H a (.tup xs)\/
  ∃(o:Obj) (aJ:Array Value) (n:Nat),K.lookup a=some o/\o.cls= .type "tuple"/\o.dict=none/\o.data= .seq aJ n/\aJ.size<=sizeLine/\Vals xs aJ.toList
def aJe:Value->Option V
 | .none=>some .bY
 | .bool b=>some (.bl b)
 | .int i _=>some (.int i)
 | .str x _=>some (.str x)
 | .bytes b _=>some (.byt b)
 | .float b _=>some (.flt b)
 | .ref a=>some (.ref a)
 | .type n=>some (.ty n)
 | _=>none
variable{u:Value}
theorem RelV.abs{x:V}(r:RelV x u):aJe u=some x:=by
 cases x with
 | bY=>cases r;rfl
 | bl _=>cases r;rfl
 | int _=>obtain⟨t,rfl⟩:=r;rfl
 | str _=>obtain⟨t,rfl⟩:=r;rfl
 | byt _=>obtain⟨t,rfl⟩:=r;rfl
 | flt _=>obtain⟨t,rfl⟩:=r;rfl
 | ref _=>cases r;rfl
 | ty _=>cases r;rfl
theorem RelV.inj{x y:V}(r:RelV x u)(q:RelV y u):x=y:=aK5 (r.abs.symm.trans q.abs)
theorem Vals.inj:∀{xs a:List V} {us:List Value},Vals xs us->Vals a us->xs=a
 | _,_,_,.nil,.nil=>rfl
 | _,_,_,.cons r t,.cons r' t' =>by rw[r.inj r',Vals.inj t t']
section
variable {X:Cx}{pins:List (Addr×Obj)}{σ:St}{H:Hp}{s:Shared}{a:Addr}{xs ys:List V}
theorem qU.of{K:aNm}(h:H a=some (.lst xs)):qU K H a xs:= .inl (.inl h)
theorem Inv.list(I:Inv X pins σ H s)(h:qU X.K H a xs):∃aJ:List Value,Vals xs aJ/\PlainL s.heap a aJ.toArray/\xs.length<=sizeLine:=by
 rcases h with h | ⟨o,aJ,n,b,c,hd,hs,hz,r⟩
 ·obtain⟨z,aJ,n,r,e⟩:=h.ok I.b9;exact⟨aJ,r,⟨_,n,e,rfl,rfl,rfl⟩,z⟩
 ·refine⟨aJ.toList,r,⟨o,n,I.kIn a o b,c,hd,by simpa using hs⟩,?_⟩;have e:=r.length;simp only[Array.length_toList]at e
  lia
theorem Inv.tuple(I:Inv X pins σ H s)(h:tQ X.K H a xs):∃aJ:List Value,Vals xs aJ/\IsTup s.heap a aJ.toArray/\xs.length<=sizeLine:=by
 rcases h with h | ⟨o,aJ,n,b,c,_,hs,hz,r⟩
 ·obtain⟨z,aJ,r,p,_⟩:=h.ok I.b9;exact⟨aJ,r,p,z⟩
 ·refine⟨aJ.toList,r,⟨o,I.kIn a o b,c,n,by simpa using hs⟩,?_⟩;have e:=r.length;simp only[Array.length_toList]at e
  lia
theorem Inv.YB(I:Inv X pins σ H s)(h:tQ X.K H a xs):∃ob,s.heap.get? a=some ob/\ob.cls= .type "tuple"/\ob.dict=none:=by
 rcases h with h | ⟨o,aJ,n,b,d,hd,hs,hz,r⟩
 ·obtain⟨z,aJ,r,⟨o,e,c,_⟩,nd⟩:=h.ok I.b9;exact⟨o,e,c,nd o e⟩
 ·exact⟨o,I.kIn a o b,d,hd⟩
theorem Inv.DX(I:Inv X pins σ H s)(h:qU X.K H a xs)(h' :qU X.K H a ys):xs=ys:=by
 obtain⟨aJ,r,⟨o,n,e,_,_,d⟩,_⟩:=I.list h;obtain⟨its',c,⟨o',g,b,_,_,d'⟩,_⟩:=I.list h';rw[e]at b;cases b;rw[d]at d';injection d' with f _;have:aJ=its' :=by simpa using aKo Array.toList f
 subst this;exact r.inj c
theorem Inv.x8(I:Inv X pins σ H s)(h:tQ X.K H a xs)(h' :tQ X.K H a ys):xs=ys:=by
 obtain⟨aJ,r,⟨o,e,_,n,d⟩,_⟩:=I.tuple h;obtain⟨its',c,⟨o',b,_,g,d'⟩,_⟩:=I.tuple h';rw[e]at b;cases b;rw[d]at d';injection d' with f _;have:aJ=its' :=by simpa using aKo Array.toList f
 subst this;exact r.inj c
end
abbrev Cx.w8(X:Cx)(E:aNn):Cx:={X with xe:=E}
abbrev Cx.UL(X:Cx):Cx:=X.w8 λ_ _=>False
theorem Cx.Ok.w8{X:Cx}(ok:X.Ok)(E:aNn):(X.w8 E).Ok:=
 ⟨ok.mod,ok.kind,ok.glob,ok.blt,ok.above,ok.inj,ok.has,ok.cab,ok.hd,ok.frames,ok.stk,ok.exf,ok.bs,ok.WK,ok.OV,ok.Q6,ok.vY,ok.frf⟩
theorem Cx.Ok.mI{X:Cx}(ok:(X.w8 E).Ok):X.Ok:=
 ⟨ok.mod,ok.kind,ok.glob,ok.blt,ok.above,ok.inj,ok.has,ok.cab,ok.hd,ok.frames,ok.stk,ok.exf,ok.bs,ok.WK,ok.OV,ok.Q6,ok.vY,ok.frf⟩
section
variable {X:Cx}{pins:List (Addr×Obj)}{σ:St}{H:Hp}{s:Shared}{E:aNn}
theorem Inv.w8(I:Inv X pins σ H s)(E:aNn):Inv (X.w8 E) pins σ H s:=⟨I.ok.w8 E,I.os,I.bare,I.base,I.loc,I.cell,I.free,I.m4,I.pin,I.b9,I.len⟩
theorem Inv.mI(I:Inv (X.w8 E) pins σ H s):Inv X pins σ H s:=⟨I.ok.mI,I.os,I.bare,I.base,I.loc,I.cell,I.free,I.m4,I.pin,I.b9,I.len⟩
theorem SP.mI{D:Ends}{f:Flow}{b :Shared}(h:SP (X.w8 E) pins D f b):SP X pins D f b :=by
 cases f with
 | next=>obtain⟨a,H',I,q⟩:=h;exact⟨a,H',I.mI,q⟩
 | brk=>obtain⟨a,H',I,q⟩:=h;exact⟨a,H',I.mI,q⟩
 | cont=>obtain⟨a,H',I,q⟩:=h;exact⟨a,H',I.mI,q⟩
 | ret u=>obtain⟨v,a,H',I,r,q⟩:=h;exact⟨v,a,H',I.mI,r,q⟩
theorem B2.UL{st:List Stmt}{t:TS}(h:B2 X.UL st t):B2 X st t:=λpins s σ H D I a=>
 aL9 (h pins s σ H D (I.w8 _) a) (λ_ _ q=>q.mI) λ_ _ z=>False.elim z
end
section
variable {X:Cx}{st:Stmt}{rest:List Stmt}{t u:TS}{e:Expr}{te:TE}{pos:Pos}
def aDf:TS:=λD σ H=>D.nx σ H
def aHb(t u:TS):TS:=λD σ H=>t {D with nx:=u D} σ H
theorem TZ:B2 X [] aDf:=λ_ _ σ H _ I h=>aN0 ⟨σ,H,I,h⟩
theorem OB(b:PS X st t)(c:B2 X rest u):B2 X (st::rest) (aHb t u):=by
 intro pins s σ H D I h;refine wpAny_execs_cons (c8 (b pins s σ H {D with nx:=u D} I h) λf s1 q=>?_)
 cases f with
 | next=>
  obtain⟨a,H',d,q⟩:=q;exact c pins s1 a H' D d q
 | ret v=>exact q
 | brk=>exact q
 | cont=>exact q
theorem TY(a:PS X st t):B2 X [st] t:=by
 intro pins s σ H D I h;refine wpAny_execs_cons (c8 (a pins s σ H D I h) λf s1 q=>?_)
 cases f with
 | next=>exact aN0 q
 | ret v=>exact q
 | brk=>exact q
 | cont=>exact q
def YK:TS:=λD σ H=>D.bk σ H
theorem OF:PS X (.Break pos) YK:=λ_ _ σ H _ I h=>wpAny_Break ⟨σ,H,I,h⟩
theorem Inv.quiet{pins:List (Addr×Obj)}{σ:St}(I:Inv X pins σ H s):interactive X.env=false:=by simp[interactive,I.ok.kind]
def aDh(te:TE):TS:=λD σ H=>te σ H λ_ a=>D.nx σ a
theorem T1(he:PE X e te)(hs:swapsWith e none pos.line X.env=pure false:=by rfl):PS X (.Expr e pos) (aDh te):=by
 intro pins s σ H D I h;exact wpAny_Expr_any (c8 (he pins s σ H _ I h) λv s1 a=>by obtain⟨x,b,c,f,d⟩:=a;exact⟨σ,b,c,d⟩) I.quiet hs
def aHc(te:TE):TS:=λD σ H=>te σ H D.rt
theorem Y6(he:PE X e te):PS X (.Return (some e) pos) (aHc te):=by
 intro pins s σ H D I h;exact wpAny_Return_some (c8 (he pins s σ H _ I h) λv s1 a=>by obtain⟨x,b,c,d,f⟩:=a;exact⟨x,σ,b,c,d,f⟩)
def aHi(c:TT)(t u:TS):TS:=λD σ H=>c σ H λb a=>if b=true then t D σ a else u D σ a
theorem aE5{c:Expr}{a b:List Stmt}{f:TT}(k:PT X c f)(ha:B2 X a t)(hb:B2 X b u):PS X (.If c a b pos) (aHi f t u):=by
 intro pins s σ H D I h;refine wpAny_If (c8 (k pins s σ H _ I h) λd s1 e=>?_);obtain⟨g,i,j⟩:=e
 cases d with
 | true=>exact ha pins s1 σ g D i j
 | false=>exact hb pins s1 σ g D i j
end
abbrev TG:=V->St->Hp->(St->Hp->Prop)->Prop
abbrev FA:=List V->St->Hp->(St->Hp->Prop)->Prop
def PG(X:Cx)(a:Expr)(t:TG):Prop:=
 ∀(pins:List (Addr×Obj)) (s:Shared) (σ:St) (H:Hp) (v:V) (u:Value) (Q:St->Hp->Prop),Inv X pins σ H s->RelV v u->t v σ H Q->
  wpAny (model X.prog X.w) X.A (assign a X.env u) (λ_ c =>∃b H',Inv X pins b H' c /\Q b H') X.xe s
def WV(X:Cx)(b:List Expr)(t:FA):Prop:=
 ∀(pins:List (Addr×Obj)) (s:Shared) (σ:St) (H:Hp) (vs:List V) (us:List Value) (Q:St->Hp->Prop),Inv X pins σ H s->Vals vs us->t vs σ H Q->
  wpAny (model X.prog X.w) X.A (assignInOrder ((assignEach b X.env).map (·.2)) us) (λ_ c =>∃a H',Inv X pins a H' c /\Q a H') X.xe s
abbrev aCi:=V->V->V->Hp->(Hp->Prop)->Prop
def aG2(X:Cx)(t:aCi):Prop:=
 ∀(pins:List (Addr×Obj)) (s:Shared) (σ:St) (H:Hp) (o i v:V) (a b u:Value) (Q:Hp->Prop),Inv X pins σ H s->RelV o a->RelV i b->RelV v u->t o i v H Q->
  wpAny (model X.prog X.w) X.A (setItem a b u) (λ_ c =>∃H',Inv X pins σ H' c /\Q H') X.xe s
section
variable {X:Cx}{pos:Pos}
def sW(i:Nat):TG:=λv σ H Q=>Q (σ.set i (some v)) H
theorem T7{i:Nat}{x:Str}(hN:X.N.Nodup)(hi:X.N[i]? =some x)(hx:Loc X.env.scope x)(a:X.fn x=true\/X.env.scope.names.lookup x=some .local:=by first | exact .inl rfl | exact .inr rfl | assumption):PG X (.Name x pos) (sW i):=by
 intro pins s σ H v u Q I r h;exact wpAny_assign_Name (pS I hN hi hx r (λc b =>⟨_,H,b,h⟩) a)
def QY:FA:=λvs σ H Q=>vs=[]/\Q σ H
def EA(t:TG)(u:FA):FA:=λvs σ H Q=>∃v r,vs=v::r/\t v σ H λa H' =>u r a H' Q
theorem T6:WV X [] QY:=by
 intro pins s σ H vs us Q I r h;obtain⟨e,h⟩:=h;subst e;cases r;exact assignInOrder_nil ⟨σ,H,I,h⟩
theorem OH{es:List Expr}{t:TG}{u:FA}(c:PG X e t)(d:WV X es u)
  (hs:(assignEach (e::es) X.env).map (·.2)=assign e X.env::(assignEach es X.env).map (·.2):=by rfl):WV X (e::es) (EA t u):=by
 intro pins s σ H vs us Q I r h;obtain⟨v,l,f,h⟩:=h;subst f
 cases r with
 | cons r g=>
  rw[hs];refine assignInOrder_cons (c8 (c pins s σ H _ _ _ I r h) λ_ s1 a=>?_);obtain⟨b,i,j,k⟩:=a;exact d pins s1 b i _ _ Q j g k
def aBq(K:aNm)(n:Nat)(t:FA):TG:=λv σ H Q=>∃a xs,v= .ref a/\tQ K H a xs/\xs.length=n/\t xs σ H Q
theorem ZA{es:List Expr}{k:Nat}{t:FA}{n:Nat}(g:X.calm=true)(h:WV X es t)
  (i:(assignEach es X.env).length=n:=by rfl) (c:(assignEach es X.env).findIdx? (·.1)=none:=by rfl):PG X (.Tuple es k pos) (aBq X.K n t):=by
 intro pins s σ H v u Q I r d;obtain⟨a,xs,j,l,m,d⟩:=d;subst j;cases r;obtain⟨aJ,f,ht,hz⟩:=I.tuple l;refine assign_Tuple_tuple (I.ok.hd g) ht (by simp[i,<-m,f.length]) c λh' hx=>?_;have p:Inv X pins σ H {s with heap:=h'}:=I.kept (t' :=s.toks) λb o e=>hx b o (aK2 (aJy e)) e;exact h pins _ σ H xs _ Q p (by simpa using f) d
def aJ1(to a:TE)(t:aCi):TG:=λv σ H Q=>to σ H λo b=>a σ b λi c=>t o i v c λd=>Q σ d
theorem ZC{o i:Expr}{to f:TE}{t:aCi}(ho:PE X o to)(hi:PE X i f)(hs:aG2 X t)
  (ha:∀v,assign (.Subscript o i pos) X.env v=(do
   let a<-holding [v] (eval o X.env)
   let b<-holding [v,a] (eval i X.env)
   standAt pos
   holding [v,a,b] (setItem a b v)
   release [v,a,b] []):=by intro _;rfl):PG X (.Subscript o i pos) (aJ1 to f t):=by
 intro pins s σ H v u Q I r h;rw[ha];refine aJn (aKd (c8 (ho pins s σ H _ I h) λa s1 c=>?_));obtain⟨x,g,j,k,l⟩:=c;refine aJn (aKd (c8 (hi pins s1 σ g _ j l) λb s2 d=>?_));obtain⟨y,m,n,p,q⟩:=d;refine aJn (aMc (aJn (aKd (c8 (hs pins s2 σ m x y v a b u _ n k p r q) λ_ B e=>?_))));obtain⟨w,z,A⟩:=e;exact wpAny_release ⟨σ,w,z,A⟩
def SY(te:TE)(g:TG):TS:=λD σ H=>te σ H λx a=>g x σ a D.nx
theorem F0{tg e:Expr}{te:TE}{g:TG}(he:PE X e te)(hg:PG X tg g)(hs:swapsWithSole [tg] e pos.line X.env=pure false:=by rfl)(a:swappedStores [tg] e X.env=pure none:=by rfl)
  (b:(assignEach [tg] X.env).map (·.2)=[assign tg X.env]:=by rfl):PS X (.Assign [tg] e pos) (SY te g):=by
 intro pins s σ H D I h;refine wpAny_Assign_stores (c8 (he pins s σ H _ I h) λv s1 ⟨x,c,d,f,i⟩=>?_) hs a;rw[b];exact c8 (hg pins s1 σ c x v _ d f i) λ_ s2 q=>q
theorem Y5{i:Nat}{x:Str}{te:TE}{a :Pos}(hN:X.N.Nodup)(hi:X.N[i]? =some x)(hx:Loc X.env.scope x)(he:PE X e te)(hs:swapsWith e (some (.Name x a)) pos.line X.env=pure false:=by rfl)(b:X.fn x=true\/X.env.scope.names.lookup x=some .local:=by first | exact .inl rfl | exact .inr rfl | assumption):
  PS X (.Assign [.Name x a] e pos) (SY te (sW i)):=by
 intro pins s σ H D I h;refine wpAny_Assign_Name (c8 (he pins s σ H _ I h) λv s1 ⟨y,c,d,f,g⟩=>?_) hs;exact pS d hN hi hx f (λs2 j=>⟨_,c,j,g⟩) b
def aHd(i j:Nat)(a:TA):TS:=λD σ H=>a σ H λvs b=>∃v w,vs=[v,w]/\D.nx ((σ.set i (some v)).set j (some w)) b
theorem Y7{i j:Nat}{x y:Str}{a b:Expr}{r:TA}{px g pt:Pos}{kt k2 pt2}(B:X.calm=true)(hN:X.N.Nodup)(hi:X.N[i]? =some x)(C:X.N[j]? =some y)(k:i≠j)
  (hx:X.env.scope.names.lookup x=some .local) (t:X.env.scope.names.lookup y=some .local) (ha:PA X [a,b] r)
  (E:swappedStores [.Tuple [.Name x px,.Name y g] kt pt] (.Tuple [a,b] k2 pt2) X.env=pure (some [x,y]))
  (hs:swapsWithSole [.Tuple [.Name x px,.Name y g] kt pt] (.Tuple [a,b] k2 pt2) pos.line X.env=pure false:=by rfl):
  PS X (.Assign [.Tuple [.Name x px,.Name y g] kt pt] (.Tuple [a,b] k2 pt2) pos) (aHd i j r):=by
 intro pins s σ H D I h;rw[exec_Assign_arm];refine aJn (aMc ?_);rw[hs];refine aJn (aJo ?_);rw[if_neg (by decide)];refine aJn (Tuple_ (c8 (ha _ pins s σ H _ I h) λus s1 f=>?_));obtain⟨vs,u,F,G,l⟩:=f;obtain⟨v,w,J,l⟩:=l;subst J
 obtain⟨c,d,rfl,K,m⟩:∃c d,us=[c,d]/\RelV v c/\RelV w d:=by
  cases G with
  | cons p q=>
   cases q with
   | cons L q' =>
    cases q';exact⟨_,_,rfl,p,L⟩
 refine aKf ?_ (by show 2<=sizeLine;decide);have M:Inv X pins σ u {s1 with heap:=s1.heap.push {cls:= .type "tuple",data:= .seq [c,d].toArray}}:=F.kept (t' :=s1.toks) λb o e=>aJp _ e;rw[E];refine aJn (aJo ?_);show wpAny (model X.prog X.w) X.A (do rule "assign.swapped-stores";let items<-unpackItems (.ref s1.heap.objs.size) 2 none;assignInOrder [λv=>bindName X.env y v,λv=>bindName X.env x v] items.reverse;pure Flow.next) _ _ _;refine aJn (aKq (aJn (unpackItems_tuple (items:= #[c,d]) (I.ok.hd B) (IsTup.new s1.heap _) λh' n =>?_)));have O:=M.kept (h' :=h') (t' :=s1.toks) λb o e=>n b o (aK2 (aJy e)) e;show wpAny _ _ (assignInOrder [λv=>bindName X.env y v,λv=>bindName X.env x v] [d,c] >>=λ_=>pure Flow.next) _ _ _;refine aJn (assignInOrder_cons (wpAny_bindName (pS O hN C (.inl t) m (λs2 P=>?_) (.inr t))));refine assignInOrder_cons (wpAny_bindName (pS P hN hi (.inl hx) K (λQ z=>assignInOrder_nil (aJo ?_)) (.inr hx)));rw[List.set_comm _ _ (Ne.symm k)]at z;exact⟨_,u,z,l⟩
end
section
variable {X:Cx}{pos:Pos}
def YG(c:TT)(tb:TS):TS:=λD σ H=>∃W:Nat->St->Hp->Prop,(∃m,W m σ H)/\∀m σ H,W m σ H->
 c σ H λb d=>if b=true then ∃N:St->Hp->Prop,(∀a H',N a H' ->∃e,e<m/\W e a H')/\tb {D with nx:=N,ct:=N,bk:=D.nx} σ d else D.nx σ d
theorem OD{c:Expr}{body:List Stmt}{r:TT}{tb:TS}(t:PassesOwn (model X.prog X.w) X.A X.env X.xe)(z:PT X c r)(hb:B2 X body tb):PS X (.While c body [] pos) (YG r tb):=by
 intro pins s σ H D I h;obtain⟨W,⟨m0,B⟩,e⟩:=h;refine wpAny_While (codeAny_whileLoop (λn C =>∃g H',Inv X pins g H' C /\W n g H') ?_ m0 ⟨σ,H,I,B⟩);rintro n s1 ⟨d,u,E,F⟩;refine aLl t (c8 (z pins s1 d u _ E (e n d u F)) λb s2 i=>?_);obtain⟨x,y,k⟩:=i
 cases b with
 | true=>
  obtain⟨N,hN,k⟩:=k;rw[if_pos rfl];refine aLl t (c8 (hb pins s2 d x _ y k) λf G l=>?_)
  cases f with
  | next=>
   obtain⟨a,j,m,o⟩:=l;obtain⟨p,hm,q⟩:=hN a j o;exact⟨p,hm,a,j,m,q⟩
  | cont=>
   obtain⟨a,j,m,o⟩:=l;obtain⟨p,hm,q⟩:=hN a j o;exact⟨p,hm,a,j,m,q⟩
  | brk=>exact l
  | ret v=>exact l
 | false=>
  rw[if_neg Bool.false_ne_true];exact aN0 ⟨d,x,y,k⟩
end
structure It where
 go:Nat->Hp->Prop
 yld:Nat->Hp->V->Hp->Prop
 stop:Nat->Hp->Prop
def wZ(X:Cx)(pins:List (Addr×Obj))(H:Hp)(b:Addr):Prop:=
 H b=none/\b≠X.env.locals/\b∉X.fs/\(b∈X.ex\/X.s₀.heap.objs.size<=b)/\(∀x c,X.env.cells.lookup x=some c->c≠b)/\∀p∈X.pn++pins,p.1≠b
variable{pins:List (Addr×Obj)}{σ:St}
theorem Inv.Q1{X:Cx}{H H' :Hp}(I:Inv X pins σ H s)(hb:s.heap.objs.size<=b)(a:H' b=none):wZ X pins H' b:=by
 refine⟨a,aL8 (aK6 I.lt hb),I.aIl hb,.inr (aKe I.sz hb),λx c e z=>?_,λp d z=>?_⟩
 ·obtain⟨v,q⟩:=I.cell x c e;exact absurd (aK6 q.lt (by rw[z];exact hb)) (aLx _)
 ·exact absurd (aK6 (aJy (I.pin p d).1) (by rw[z];exact hb)) (aLx _)
structure Turn(P:Program)(w:World)(K:aNm)(tg:Expr)(J:It)(fp:List Addr)(it:Addr)(tn:Nat->Heap->Prop):Prop where
 mem:it∈fp
 obj:∀i h,tn i h->∀b∈fp,∃o,h.get? b=some o/\∀v,o.data≠ .cell v
 keep:∀i h h',tn i h->(∀b∈fp,∀o,h.get? b=some o->h'.get? b=some o)->tn i h'
 item:∀(X:Cx),X.prog=P->X.w=w->X.K=K->X.calm=true->∀(i:Nat) (pins:List (Addr×Obj)) (s:Shared) (σ:St) (H:Hp) (E:aNn),Inv X pins σ H s->(∀b∈fp,wZ X pins H b)->tn i s.heap->J.go i H->
  wpAny (model P w) X.A (pyNext (.ref it)) (λr s1=>∃u,r=some u/\
   wpAny (model P w) X.A (letOwnedTupleGo tg (.ref it) u) (λ_ s2=>∃x H',Inv X pins σ H' s2/\RelV x u/\J.yld i H x H' /\tn (i+1) s2.heap/\∀b∈fp,H' b=none) E s1) E s
 done:∀(X:Cx),X.prog=P->X.w=w->X.K=K->X.calm=true->∀(i:Nat) (pins:List (Addr×Obj)) (s:Shared) (σ:St) (H:Hp) (E:aNn),Inv X pins σ H s->(∀b∈fp,wZ X pins H b)->tn i s.heap->J.stop i H->
  wpAny (model P w) X.A (pyNext (.ref it)) (λr s1=>r=none/\Inv X pins σ H s1) E s
 self:∀(A:Around) (i:Nat) (s:Shared) (Q:aNn) (E:aNn),tn i s.heap->Q (.ref it) s->wpAny (model P w) A (pyIter (.ref it)) Q E s
abbrev TI:=St->Hp->(It->Hp->Prop)->Prop
def PIE(X:Cx)(pins:List (Addr×Obj))(σ:St)(tg:Expr)(R:It->Hp->Prop)(a:Value)(s2:Shared):Prop:=
 ∃(it:Addr) (fp:List Addr) (tn:Nat->Heap->Prop) (J:It) (H' :Hp),a= .ref it/\Inv X pins σ H' s2/\Turn X.prog X.w X.K tg J fp it tn/\tn 0 s2.heap/\(∀b∈fp,wZ X pins H' b)/\R J H'
def PI(X:Cx)(tg iter:Expr)(wi:TI):Prop:=
 ∀(pins:List (Addr×Obj)) (s:Shared) (σ:St) (H:Hp) (R:It->Hp->Prop),Inv X pins σ H s->wi σ H R->
  wpAny (model X.prog X.w) X.A (eval iter X.env) (λv s1=>wpAny (model X.prog X.w) X.A (pyIter v) (PIE X pins σ tg R) X.xe s1) X.xe s
variable{tg:Expr}
theorem QV{M:Model}{it:Addr}{n:String}{vs:Array Value}{Q:Unit->Shared->Prop}(ho:s.heap.get? it=some o)(b:o.cls= .type n)(hd:o.data= .fields vs)
    (c:["enumerate","zip","dict_itemiterator","dict_reverseitemiterator","odict_iterator","itertools.zip_longest","itertools.pairwise"].contains n=false) (a:Q () s):wpAny M A (letOwnedTupleGo tg (.ref it) u) Q E s:=by
  unfold letOwnedTupleGo
  cases tg <;> first
    | exact aJo a
    | (cases u <;> first
        | exact aJo a
        | (refine aJn (wpAny_load ho ?_)
           rw[b,hd];show wpAny M A (if (["enumerate","zip","dict_itemiterator","dict_reverseitemiterator","odict_iterator","itertools.zip_longest","itertools.pairwise"].contains n && vs[0]? ==some (rawInt _))=true then _ else _) Q E s;rw[if_neg (by intro h;rw[c,Bool.false_and]at h;cases h)]
           exact aJo a))
def Itl(K:aNm)(a:Addr):It:=
 ⟨λi H=>∃xs x,qU K H a xs/\xs[i]? =some x,λi H x H' =>H' =H/\∀xs,qU K H a xs->xs[i]? =some x,λi H=>∃xs,qU K H a xs/\xs.length<=i⟩
def Itt(K:aNm)(a:Addr):It:=
 ⟨λi H=>∃xs x,tQ K H a xs/\xs[i]? =some x,λi H x H' =>H' =H/\∀xs,tQ K H a xs->xs[i]? =some x,λi H=>∃xs,tQ K H a xs/\xs.length<=i⟩
def Itr(lo:Int)(n:Nat):It:=⟨λi _=>i<n,λi H x H' =>H' =H/\x= .int (lo+i),λi _=>n<=i⟩
variable{K:aNm}
theorem KO(a it:Addr):Turn P w K tg (Itl K a) [it] it (λi h=>h.IsListIter it a i) where
 mem:=by simp
 obj:=λi h st b hb=>by
  have e:b=it:=by simpa using hb
  subst e;obtain⟨o,e,c,d⟩:=st;exact⟨o,e,λv z=>by rw[d]at z;cases z⟩
 keep:=λi h h' st k=>st.at λo e=>k it (by simp) o e
 item:=by
  intro X l m n B i pins s σ H E I g st hg;subst l m n;obtain⟨xs,x,j,hx⟩:=hg;obtain⟨aJ,q,p,hz⟩:=I.list j;obtain⟨u,C,D⟩:=q.get hx;obtain⟨f0,r,F,t,y,A⟩:=g it (by simp);refine wpAny_pyNext_list_item st p.isList (x:=u) (by simpa using C) λh' f sb=>?_;have G:Inv X pins σ H {s with heap:=h'}:=I.turned (t' :=s.toks) (λb o hb e=>(sb.2 b hb).trans e) f0 r t y A;obtain⟨o,e,c,d⟩:=id f;exact⟨u,rfl,QV (s:={s with heap:=h'}) e c d (by decide) ⟨x,H,G,D,⟨rfl,λM J=>by rw[I.DX J j];exact hx⟩,f,λb hb=>(g b hb).1⟩⟩
 done:=by
  intro X l m n B i pins s σ H E I g st hg;subst l m n;obtain⟨xs,j,hx⟩:=hg;obtain⟨aJ,q,p,hz⟩:=I.list j;obtain⟨f0,r,F,t,y,A⟩:=g it (by simp);have N:=q.length
  exact wpAny_pyNext_list_end (I.ok.hd B) st p.isList (by simp;lia) λh' L=>⟨rfl,I.turned (t' :=s.toks) (λb o hb e=>L b o hb e) f0 r t y A⟩
 self:=λ_ _ _ _ _ st h=>wpAny_pyIter_listiter st h
theorem FK(a it:Addr):Turn P w K tg (Itt K a) [it] it (λi h=>h.IsTupleIter it a i) where
 mem:=by simp
 obj:=λi h st b hb=>by
  have e:b=it:=by simpa using hb
  subst e;obtain⟨o,e,c,d⟩:=st;exact⟨o,e,λv z=>by rw[d]at z;cases z⟩
 keep:=λi h h' st k=>st.at λo e=>k it (by simp) o e
 item:=by
  intro X l m n B i pins s σ H E I g st hg;subst l m n;obtain⟨xs,x,j,hx⟩:=hg;obtain⟨aJ,q,p,hz⟩:=I.tuple j;obtain⟨u,C,D⟩:=q.get hx;obtain⟨f0,r,F,t,y,A⟩:=g it (by simp);refine wpAny_pyNext_tuple_item st (show s.heap.IsTuple a aJ.toArray from p) (x:=u) (by simpa using C) λh' f sb=>?_;have G:Inv X pins σ H {s with heap:=h'}:=I.turned (t' :=s.toks) (λb o hb e=>(sb.2 b hb).trans e) f0 r t y A;obtain⟨o,e,c,d⟩:=id f;exact⟨u,rfl,QV (s:={s with heap:=h'}) e c d (by decide) ⟨x,H,G,D,⟨rfl,λM J=>by rw[I.x8 J j];exact hx⟩,f,λb hb=>(g b hb).1⟩⟩
 done:=by
  intro X l m n B i pins s σ H E I g st hg;subst l m n;obtain⟨xs,j,hx⟩:=hg;obtain⟨aJ,q,p,hz⟩:=I.tuple j;obtain⟨f0,r,F,t,y,A⟩:=g it (by simp);have N:=q.length
  exact wpAny_pyNext_tuple_end (I.ok.hd B) st (show s.heap.IsTuple a aJ.toArray from p) (by simp;lia) λh' L=>⟨rfl,I.turned (t' :=s.toks) (λb o hb e=>L b o hb e) f0 r t y A⟩
 self:=λ_ _ _ _ _ st h=>wpAny_pyIter_tupleiter st h
theorem FL(it:Addr)(lo:Int)(n:Nat):Turn P w K tg (Itr lo n) [it] it (λi h=>IsRangeIter h it (lo+(i:Nat)*1) ((n:Int)-(i:Nat)) 1) where
 mem:=by simp
 obj:=λi h st b hb=>by
  have e:b=it:=by simpa using hb
  subst e
  exact⟨_,st,λv z=>by
   have u :Data.fields _=Data.cell v:=z
   cases u⟩
 keep:=λi h h' st k=>k it (by simp) _ st
 item:=by
  intro X d f g j i pins s σ H E I c st hg;subst d f g;obtain⟨f0,l,x,m,p,q⟩:=c it (by simp);have W:=Walks.range (prog:=X.prog) (w:=X.w) (I.ok.hd j) it lo 1 n;refine W.item i s _ _ hg st λv h' r y a kk=>?_;obtain⟨t,rfl⟩:=y;have A:Inv X pins σ H {s with heap:=h',toks:=r}:=I.turned (λb o hb e=>kk b o (by simpa using hb) e) f0 l m p q;refine⟨_,rfl,QV (s:={s with heap:=h',toks:=r}) (n:= "range_iterator") a rfl rfl (by decide) ⟨.int (lo+i),H,A,⟨t,?_⟩,⟨rfl,rfl⟩,a,λb hb=>(c b hb).1⟩⟩;rw[Int.mul_one]
 done:=by
  intro X d f g j i pins s σ H E I c st hg;subst d f g;obtain⟨f0,l,x,m,p,q⟩:=c it (by simp)
  exact wpAny_pyNext_range_end (I.ok.hd j) st (by have:n<=i:=hg;lia) λh' B=>⟨rfl,I.turned (t' :=s.toks) (λb o hb e=>B b o hb e) f0 l m p q⟩
 self:=λ_ _ _ _ _ st h=>wpAny_pyIter_rangeiter st h
section
variable {X:Cx}{tg:Expr}
theorem N7{R:It->Hp->Prop}{lo hi:Int}{t u v:Tok}{a:Nat}(I:Inv X pins σ H s)(d: -(2^62)<=lo)(f:lo<2^62)(g: -(2^62)<=hi)(h:hi<2^62)
  (q:R (Itr lo (hi-lo).toNat) H):wpAny (model X.prog X.w) X.A (pyIter (.ref s.heap.objs.size)) (PIE X pins σ tg R) E {s with heap:=s.heap.push {cls:= .type "range",data:= .fields #[.int lo t,.int hi u,.int 1 v]},toks:=a}:=by
 refine wpAny_pyIter_range (IsRange.new ..) (small_one d f g h) ?_;have c:Inv X pins σ H {s with heap:=s.heap.push {cls:= .type "range",data:= .fields #[.int lo t,.int hi u,.int 1 v]},toks:=a}:=I.kept λb o e=>aJp _ e
 refine⟨(s.heap.push {cls:= .type "range",data:= .fields #[.int lo t,.int hi u,.int 1 v]}).objs.size,[(s.heap.push {cls:= .type "range",data:= .fields #[.int lo t,.int hi u,.int 1 v]}).objs.size],_,_,H,rfl,
  c.kept (t' :=a) λb o e=>aJp _ e,FL _ lo (hi-lo).toNat,?_,λb hb=>?_,q⟩
 ·have i:lo+((0:Nat):Int)*1=lo:=by simp
  have j:(((hi-lo).toNat:Nat):Int)-((0:Nat):Int)=Builtin.Range.rangeSize lo hi 1:=by rw[rangeSize_one];split <;> lia
  show IsRangeIter _ _ (lo+((0:Nat):Int)*1) ((((hi-lo).toNat:Nat):Int)-((0:Nat):Int)) 1;rw[i,j];exact aJv _ rfl
 ·have e:b=(s.heap.push {cls:= .type "range",data:= .fields #[.int lo t,.int hi u,.int 1 v]}).objs.size:=by simpa using hb
  subst e;exact c.Q1 (aJq _) (c.b9.fresh (aJq _))
def aFg(a:TA):TI:=λσ H R=>a σ H λvs b=>∃j:Int,vs=[.int j]/\ -(2^62)<=j/\j<2^62/\R (Itr 0 j.toNat) b
theorem K0{a:Expr}{c:TA}{p pos:Pos}(hg:Gl X "range")(hm:X.mg "range"=none)(ha:PA X [a] c)(hs:starEach [a] X.env=[(false,eval a X.env)]:=by rfl):PI X tg (.Call (.Name "range" p) [a] [] pos) (aFg c):=by
 intro pins s σ H R I h;refine Call_ (pB I hg hm boot_range (aL0 (c8 (ha pos pins s σ H _ I h) λus s1 ⟨vs,k,d,f,b⟩=>?_) hs rfl));obtain⟨j,e,b,g,q⟩:=b;subst e
 cases f with
 | cons r i=>
  cases i;obtain⟨t,rfl⟩:=r;exact call_range_1 (N7 d (by lia) (by lia) b g (by simpa using q))
def aHj(wi:TI)(g:TG)(tb:TS):TS:=λD σ H=>wi σ H λJ d=>∃W:Nat->Nat->St->Hp->Prop,(∃m,W 0 m σ d)/\∀i m σ H,W i m σ H->
 (J.stop i H/\D.nx σ H)\/(J.go i H/\∃N:St->Hp->Prop,(∀a H',N a H' ->∃c,c<m/\W (i+1) c a H')/\∀x H',J.yld i H x H' ->g x σ H' λb e=>tb {D with nx:=N,ct:=N,bk:=D.nx} b e)
def u7(fp:List Addr)(h:Heap):List (Addr×Obj):=fp.filterMap λb=>(h.get? b).map λo=>(b,o)
variable{fp:List Addr}
theorem k6(hb:b∈fp)(e:h.get? b=some o):(b,o)∈u7 fp h:=List.mem_filterMap.mpr ⟨b,hb,by rw[e];rfl⟩
theorem K5{p:Addr×Obj}(a:p∈u7 fp h):p.1∈fp/\h.get? p.1=some p.2:=by
 obtain⟨b,hb,e⟩:=List.mem_filterMap.mp a
 cases q:h.get? b with
 | none=>rw[q]at e;cases e
 | some o=>
  rw[q]at e;have c :(b,o)=p:=aK5 e;subst c;exact⟨hb,q⟩
theorem Inv.pinned(I:Inv X pins σ H s)(c:∀b∈fp,wZ X pins H b)(ho:∀b∈fp,∃o,s.heap.get? b=some o/\∀v,o.data≠ .cell v):Inv X (pins++u7 fp s.heap) σ H s:=
 I.IQ λp f=>(aJx.mp f).elim (λz=>I.pin p (aKh _ z)) λz=>by
  obtain⟨hb,e⟩:=K5 z;obtain⟨f0,g,h,_⟩:=c p.1 hb;obtain⟨o,a,d⟩:=ho p.1 hb;rw[e]at a;cases a;exact⟨e,f0,g,h,d⟩
theorem Inv.pR{pins a:List (Addr×Obj)}(I:Inv X (pins++a) σ H s):Inv X pins σ H s:=I.IQ λp b=>I.pin p (aKh _ (aLn _ b))
theorem Y8{iter:Expr}{body:List Stmt}{wi:TI}{g:TG}{tb:TS}{pos:Pos}(y:PassesOwn (model X.prog X.w) X.A X.env X.xe)(V:X.calm=true)(hi:PI X tg iter wi)(hg:PG X tg g)(hb:B2 X body tb)
  (hs:∀x,foldedSetIterable iter X.env x=pure x:=by intro _;rfl):PS X (.For tg iter body [] pos) (aHj wi g tb):=by
 intro pins s σ H D I h;refine wpAny_For (c8 (hi pins s σ H _ I h) λv s1 h1=>c8 h1 λitv s2 h2=>?_) hs;obtain⟨it,fp,tn,J,H2,e,I2,T,O,Y,W,⟨m0,w0⟩,z⟩:=h2;subst e
 have c:∀{H' :Hp},(∀b∈fp,H' b=none)->∀b∈fp,wZ X pins H' b:=λhn b hb=>⟨hn b hb,(Y b hb).2⟩
 refine codeAny_forLoop_any (λn Z =>∃i j H',Inv X pins j H' Z /\tn i Z.heap/\(∀b∈fp,H' b=none)/\W i n j H') ?_ m0 ⟨0,σ,H2,I2,O,λb hb=>(Y b hb).1,w0⟩;rintro n s3 ⟨i,k,M,I3,B,C,w3⟩
 rcases z i n k M w3 with ⟨stop,qn⟩ | ⟨go,N,hN,step⟩
 ·refine aLl y (c8 (T.done X rfl rfl rfl V i pins s3 k M X.xe I3 (c C) B stop) λr s4 E=>?_);obtain⟨P,I4⟩:=E;subst P;exact aN0 ⟨k,M,I4,qn⟩
 ·refine aLl y (c8 (T.item X rfl rfl rfl V i pins s3 k M X.xe I3 (c C) B go) λr s4 F=>?_);obtain⟨u,P,h4⟩:=F;subst P;refine aLl y (c8 h4 λ_ s5 G=>?_);obtain⟨x,H5,I5,r5,y5,t,Q⟩:=G;have R :=I5.pinned (c Q) (T.obj _ _ t);refine aLl y (c8 (hg _ s5 k H5 x u _ R r5 (step x H5 y5)) λ_ s6 K=>?_);obtain⟨S,H6,I6,q6⟩:=K;refine aLl y (c8 (hb _ s6 S H6 _ I6 q6) λf U q=>?_)
  have again:∀{a:St} {l:Hp},Inv X (pins++u7 fp s5.heap) a l U->N a l->∃m,m<n/\∃i j H',Inv X pins j H' U/\tn i U.heap/\(∀b∈fp,H' b=none)/\W i m j H' :=λ{a l} p L=>by
   obtain⟨m',hm,w7⟩:=hN a l L;refine⟨m',hm,i+1,a,l,p.pR,T.keep _ _ _ t λb hb o e=>(p.pin (b,o) (aKh _ (aKh _ (k6 hb e)))).1,λb hb=>?_,w7⟩;obtain⟨o,e,d⟩:=T.obj _ _ t b hb;exact(p.pin (b,o) (aKh _ (aKh _ (k6 hb e)))).2.1
  cases f with
  | next=>obtain⟨a,l,p,L⟩:=q;exact again p L
  | cont=>obtain⟨a,l,p,L⟩:=q;exact again p L
  | brk=>obtain⟨a,l,p,q⟩:=q;exact⟨a,l,p.pR,q⟩
  | ret v=>obtain⟨x7,a,l,p,r7,q⟩:=q;exact⟨x7,a,l,p.pR,r7,q⟩
end
abbrev R2:=V->V->Hp->VK->Prop
def gE(X:Cx)(f:Value->Value->Sem Value)(r:R2):Prop:=
 ∀(pins:List (Addr×Obj)) (s:Shared) (σ:St) (H:Hp) (x y:V) (v u:Value) (Q:VK),Inv X pins σ H s->RelV x v->RelV y u->r x y H Q->
  wpAny (model X.prog X.w) X.A (f v u) (EP X pins σ Q) X.xe s
def UnR(X:Cx)(f:Value->Sem Value)(r:V->Hp->VK->Prop):Prop:=
 ∀(pins:List (Addr×Obj)) (s:Shared) (σ:St) (H:Hp) (x:V) (v:Value) (Q:VK),Inv X pins σ H s->RelV x v->r x H Q->
  wpAny (model X.prog X.w) X.A (f v) (EP X pins σ Q) X.xe s
def cB(X:Cx)(f:Value)(r:List V->Hp->VK->Prop):Prop:=
 ∀(pins:List (Addr×Obj)) (s:Shared) (σ:St) (H:Hp) (xs:List V) (us:List Value) (Q:VK),Inv X pins σ H s->Vals xs us->r xs H Q->
  wpAny (model X.prog X.w) X.A (call f us) (EP X pins σ Q) X.xe s
def aJf(X:Cx)(r:V->Hp->(Bool->Hp->Prop)->Prop):Prop:=
 ∀(pins:List (Addr×Obj)) (s:Shared) (σ:St) (H:Hp) (x:V) (v:Value) (Q:Bool->Hp->Prop),Inv X pins σ H s->RelV x v->r x H Q->
  wpAny (model X.prog X.w) X.A (truthy v) (TP X pins σ Q) X.xe s
def tOp(r:R2)(a tb:TE):TE:=λσ H Q=>a σ H λx b=>tb σ b λy c=>r x y c Q
def tUn(r:V->Hp->VK->Prop)(a:TE):TE:=λσ H Q=>a σ H λx b=>r x b Q
def rI(C:Int->Int->Prop)(g:Int->Int->V):R2:=λx y H Q=>∃i j,x= .int i/\y= .int j/\C i j/\Q (g i j) H
def Y1(g:Int->Int->V):R2:=λx y H Q=>∃i j,x= .int i/\y= .int j/\Q (g i j) H
def rU(g:Int->V):V->Hp->VK->Prop:=λx H Q=>∃i,x= .int i/\Q (g i) H
section
variable {X:Cx}{a b c:Expr}{ta tb tc:TE}{pos:Pos}
variable{f:Value->Value->Sem Value}
theorem aCd(ha:PE X a ta)(hb:PE X b tb){R:V->V->Hp->Prop}(I:Inv X pins σ H s)
  (h:ta σ H λx j=>tb σ j λy c=>R x y c) {Q:aNn} 
  (k:∀v u s2 x y c,Inv X pins σ c s2->RelV x v->RelV y u->R x y c->wpAny (model X.prog X.w) X.A (f v u) Q X.xe s2):
  wpAny (model X.prog X.w) X.A (eval a X.env) (λv d=>wpAny (model X.prog X.w) X.A (eval b X.env) (λu e=>wpAny (model X.prog X.w) X.A (f v u) Q X.xe e) X.xe d) X.xe s:=by
 refine c8 (ha pins s σ H _ I h) λv s1 g=>?_;obtain⟨x,j,l,m,n⟩:=g;refine c8 (hb pins s1 σ j _ l n) λu s2 i=>?_;obtain⟨y,c,o,p,q⟩:=i;exact k v u s2 x y c o m p q
theorem aE9{op:Operator}{r:R2}(ho:gE X (binaryOp op) r)(ha:PE X a ta)(hb:PE X b tb):PE X (.BinOp a op b pos) (tOp r ta tb):=by
 intro pins s σ H Q I h;exact wpAny_BinOp (aCd ha hb I h λv u s2 x y c d e f q=>ho pins s2 σ c x y v u Q d e f q)
theorem aE8{op:UnaryOp}{r:V->Hp->VK->Prop}(ho:UnR X (unaryOp op) r)(ha:PE X a ta):PE X (.UnaryOp op a pos) (tUn r ta):=by
 intro pins s σ H Q I h;exact UnaryOp_ (c8 (ha pins s σ H _ I h) λv s1 b=>by obtain⟨x,c,d,e,f⟩:=b;exact ho pins s1 σ c x v Q d e f)
variable{g:Int->Int->Int}
theorem opI{C:Int->Int->Prop}
  (rule:∀(i j:Int) (t u:Tok) (s:Shared) (Q:aNn) (E:aNn),C i j->Q (.int (g i j) s.toks) {s with toks:=s.toks+1}->wpAny (model X.prog X.w) X.A (f (.int i t) (.int j u)) Q E s):
  gE X f (rI C λi j=>.int (g i j)):=by
 intro pins s σ H x y v u Q I a b h;obtain⟨i,j,rfl,rfl,c,q⟩:=h;obtain⟨t,rfl⟩:=a;obtain⟨t',rfl⟩:=b;exact rule i j t t' s _ _ c ⟨.int (g i j),H,I.tok _,⟨_,rfl⟩,q⟩
theorem aEh
  (rule:∀(i j:Int) (t u:Tok) (s:Shared) (Q:aNn) (E:aNn),Q (.int (g i j) s.toks) {s with toks:=s.toks+1}->wpAny (model X.prog X.w) X.A (f (.int i t) (.int j u)) Q E s):
  gE X f (Y1 λi j=>.int (g i j)):=by
 intro pins s σ H x y v u Q I a b h;obtain⟨i,j,rfl,rfl,q⟩:=h;obtain⟨t,rfl⟩:=a;obtain⟨t',rfl⟩:=b;exact rule i j t t' s _ _ ⟨.int (g i j),H,I.tok _,⟨_,rfl⟩,q⟩
theorem aEi{g:Int->Int->Bool}
  (rule:∀(i j:Int) (t u:Tok) (s:Shared) (Q:aNn) (E:aNn),Q (.bool (g i j)) s->wpAny (model X.prog X.w) X.A (f (.int i t) (.int j u)) Q E s):
  gE X f (Y1 λi j=>.bl (g i j)):=by
 intro pins s σ H x y v u Q I a b h;obtain⟨i,j,rfl,rfl,q⟩:=h;obtain⟨t,rfl⟩:=a;obtain⟨t',rfl⟩:=b;exact rule i j t t' s _ _ ⟨.bl (g i j),H,I,rfl,q⟩
def aG4(i j:Int):Prop:=0<j/\j<1073741824
def aCl(i j:Int):Prop:=0<=j/\j<=1000000/\i.natAbs<2^64
def MX(i j:Int):Prop:=(-(2^64)<i/\i<2^64)\/(-(2^64)<j/\j<2^64)
theorem MX.ok{i j:Int}(h:MX i j):IntMulOk i j:=by
 rcases h with ⟨a,b⟩ | ⟨a,b⟩
 ·exact .of_left (intBits_le_64 a b)
 ·exact .of_right (intBits_le_64 a b)
theorem ZS:gE X (binaryOp .Add) (Y1 λi j=>.int (i+j)):=aEh λ_ _ _ _ _ _ _ q=>add_int q
theorem ZN:gE X (binaryOp .Sub) (Y1 λi j=>.int (i-j)):=aEh λ_ _ _ _ _ _ _ q=>sub_int q
theorem ZP:gE X (binaryOp .Mult) (rI MX λi j=>.int (i*j)):=opI λ_ _ _ _ _ _ _ a q=>mul_int q a.ok
theorem UG:gE X (binaryOp .FloorDiv) (rI aG4 λi j=>.int (i / j)):=opI λi j _ _ _ _ _ a q=>by
 have b:(0:Int)<j:=a.1;have c:j<1073741824:=a.2;exact floordiv_int (by lia) (by rw[Int.fdiv_eq_ediv_of_nonneg i (by lia)];exact q) (.inl (PyProof.noPylong_small (by lia)))
theorem ZQ:gE X (binaryOp .Mod) (rI (λ_ j=>0<j) λi j=>.int (i % j)):=opI λi j _ _ _ _ _ a q=>by
 have b:(0:Int)<j:=a;exact mod_int' (by lia) (by rw[Int.fmod_eq_emod_of_nonneg i (by lia)];exact q)
theorem ZO:gE X (binaryOp .Pow) (rI aCl λi j=>.int (i^j.toNat)):=opI λ_ _ _ _ _ _ _ a q=>pow_int_small a.1 a.2.1 a.2.2 q
theorem unI{f:Value->Sem Value}{g:Int->Int}
  (rule:∀(i:Int) (t:Tok) (s:Shared) (Q:aNn) (E:aNn),Q (.int (g i) s.toks) {s with toks:=s.toks+1}->wpAny (model X.prog X.w) X.A (f (.int i t)) Q E s):
  UnR X f (rU λi=>.int (g i)):=by
 intro pins s σ H x v Q I a h;obtain⟨i,rfl,q⟩:=h;obtain⟨t,rfl⟩:=a;exact rule i t s _ _ ⟨.int (g i),H,I.tok _,⟨_,rfl⟩,q⟩
theorem X7:UnR X (unaryOp .USub) (rU λi=>.int (-i)):=unI λ_ _ _ _ _ q=>neg_int q
end
section
variable {X:Cx}{a b c:Expr}{ta tb tc:TE}{pos:Pos}
theorem Q4{Q:VK}{k a :Bool}(I:Inv X pins σ H s)(q:Q (.bl k) H)(e:k=a):EP X pins σ Q (.bool a) s:=by
 subst e;exact⟨.bl k,H,I,rfl,q⟩
theorem aEf:gE X (compareOp .Lt) (Y1 λi j=>.bl (decide (i<j))):=aEi λ_ _ _ _ _ _ _ q=>lt_int q
theorem aEg:gE X (compareOp .Gt) (Y1 λi j=>.bl (decide (j<i))):=aEi λ_ _ _ _ _ _ _ q=>gt_int q
theorem K4:gE X (compareOp .Lt) (λx y H Q=>∃i j,x= .str i/\y= .str j/\Q (.bl (decide (i.cps.toList<j.cps.toList))) H):=by
 intro pins s σ H x y v u Q I a b h;obtain⟨i,j,rfl,rfl,q⟩:=h;obtain⟨t,rfl⟩:=a;obtain⟨t',rfl⟩:=b;exact lt_str (Q4 I q rfl)
theorem UE:gE X (compareOp .IsNot) (λx y H Q=>y= .bY/\Q (.bl (!decide (x= .bY))) H):=by
 intro pins s σ H x y v u Q I a b h;obtain⟨rfl,q⟩:=h;cases b;refine isnot_none_gen (Q4 I q ?_)
 cases x <;> first
  | (cases a;rfl)
  | (obtain⟨t,rfl⟩:=a;rfl)
theorem UA{op:CmpOp}{r:R2}(ho:gE X (compareOp op) r)(ha:PE X a ta)(hb:PE X b tb)(hm:behindInMarks op b=false):PE X (.Compare a [op] [b] pos) (tOp r ta tb):=by
 intro pins s σ H Q I h;exact wpAny_Compare1 (aCd ha hb I h λv u s2 x y c d e f q=>ho pins s2 σ c x y v u Q d e f q) hm
def XC(t:TE):TT:=λσ H Q=>t σ H λx H' =>∃k,x= .bl k/\Q k H'
theorem TX{op:CmpOp}{r:R2}(ho:gE X (compareOp op) r)(ha:PE X a ta)(hb:PE X b tb)(hm:behindInMarks op b=false):PT X (.Compare a [op] [b] pos) (XC (tOp r ta tb)):=by
 intro pins s σ H Q I h
 refine wpAny_isTrue_Compare1 (c8 (ha pins s σ H _ I h) λv s1 ⟨x,d,f,g,i⟩=>c8 (hb pins s1 σ d _ f i) λu s2 ⟨y,j,l,m,n⟩=>
  c8 (ho pins s2 σ j x y v u _ l g m n) λc w ⟨z,o,p,q,k,e,t⟩=>?_) hm
 subst e;cases q;exact aLy ⟨o,p,t⟩
def aCh(K:aNm)(x:V)(H:Hp)(k:Bool):Prop:=
 match x with
 | .bY=>k=false
 | .bl b=>k=b
 | .int i=>k=(i !=0)
 | .str y=>y.length<=sizeLine/\k=((y.length:Int) !=0)
 | .byt y=>y.size<=sizeLine/\k=((y.size:Int) !=0)
 | .ref p=>(∃xs,qU K H p xs/\k= !xs.isEmpty)\/(∃xs,tQ K H p xs/\k= !xs.isEmpty)\/∃kvs,H p=some (.dK kvs)/\k= !kvs.isEmpty
 | _=>False
theorem GO{κ:Type}{kvs:List (κ×V)}{vs:List (κ×Value)}(r:KV kvs vs):(!vs.isEmpty)= !kvs.isEmpty:=by
 cases r <;> rfl
theorem vW{xs:List V}{aJ:List Value}(r:Vals xs aJ):(!aJ.toArray.isEmpty)= !xs.isEmpty:=by
 cases r <;> simp
theorem mU:(sizeLine:Nat)<2^63:=by rw[sizeLine_eq];decide
theorem YD:aJf X (λx H Q=>∃k,aCh X.K x H k/\Q k H):=by
 intro pins s σ H x v Q I d h;obtain⟨k,e,q⟩:=h;have l:=mU;have hs:sizeLine=16777216:=aK4
 cases x with
 | bY=>
  cases d;have a :k=false:=e;subst a;exact truthy_none ⟨H,I,q⟩
 | bl b=>
  cases d;have a :k=b:=e;subst a;exact aLy ⟨H,I,q⟩
 | int i=>
  obtain⟨t,rfl⟩:=d;have a :k=(i !=0):=e;subst a;exact PySem.P.truthy_int ⟨H,I,q⟩
 | str y=>
  obtain⟨t,rfl⟩:=d;obtain⟨g,a⟩:y.length<=sizeLine/\k=((y.length:Int) !=0):=e;subst a;exact PySem.P.truthy_str (by lia) ⟨H,I.tok _,q⟩
 | byt y=>
  obtain⟨t,rfl⟩:=d;obtain⟨g,a⟩:y.size<=sizeLine/\k=((y.size:Int) !=0):=e;subst a;exact PySem.W.truthy_bytes (by lia) ⟨H,I.tok _,q⟩
 | ref p=>
  cases d;have a :(∃xs,qU X.K H p xs/\k= !xs.isEmpty)\/(∃xs,tQ X.K H p xs/\k= !xs.isEmpty)\/∃kvs,H p=some (.dK kvs)/\k= !kvs.isEmpty:=e
  rcases a with ⟨xs,hx,a⟩ | ⟨xs,hx,a⟩ | ⟨kvs,hx,a⟩
  ·subst a;obtain⟨aJ,r,f,hz⟩:=I.list hx;have c:=r.length;exact wpAny_truthy_list f.isList (by simp only[List.size_toArray];lia) ⟨H,I.tok _,by rw[vW r];exact q⟩
  ·subst a;obtain⟨aJ,r,f,hz⟩:=I.tuple hx;have c:=r.length;exact truthy_tuple f (by simp only[List.size_toArray];lia) ⟨H,I.tok _,by rw[vW r];exact q⟩
  ·subst a;obtain⟨hz,j,vs,r,m⟩:kvs.length<=sizeLine/\(p==sysModules)=false/\∃vs,KV kvs vs/\s.heap.DictOf (aM X.prog X.w) p vs:=I.b9 p _ hx;have c:kvs.length=vs.length:=Paired.length r;exact wpAny_truthy_dict j m (by lia) ⟨H,I.tok _,by rw[GO r];exact q⟩
 | _=>exact(show False from e).elim
theorem N9(ha:PE X a ta)(he:∀b,isTrue a X.env b=(do let v<-b;standAt a.pos;holding [v] (truthy v))):
  PT X a (λσ H Q=>ta σ H λx H' =>∃k,aCh X.K x H' k/\Q k H'):=by
 intro pins s σ H Q I h;exact isTrue_plain (c8 (ha pins s σ H _ I h) λv s1 c=>by obtain⟨x,d,e,f,g⟩:=c;exact YD pins s1 σ d x v Q e f g) (he _)
theorem F4:gE X (binaryOp .Add) (λx y H Q=>∃i j,x= .str i/\y= .str j/\i.length+j.length<=sizeLine/\Q (.str (i++j)) H):=by
 intro pins s σ H x y v u Q I a b h;obtain⟨i,j,rfl,rfl,hz,q⟩:=h;obtain⟨t,rfl⟩:=a;obtain⟨t',rfl⟩:=b;exact add_str (λt' c=>⟨.str (i++j),H,I.tok _,⟨_,rfl⟩,q⟩) hz
theorem vals1{x:V}(r:Vals [x] us):∃u,us=[u]/\RelV x u:=by
 cases r with
 | cons a b=>cases b;exact⟨_,rfl,a⟩
theorem vals2{x y:V}(r:Vals [x,y] us):∃u a,us=[u,a]/\RelV x u/\RelV y a :=by
 cases r with
 | cons b c=>
  cases c with
  | cons d e=>cases e;exact⟨_,_,rfl,b,d⟩
theorem RH:cB X (.builtin "abs") (λxs H Q=>∃i,xs=[.int i]/\Q (.int (if i<0 then -i else i)) H):=by
 intro pins s σ H xs us Q I r h;obtain⟨i,rfl,q⟩:=h;obtain⟨u,rfl,t,rfl⟩:=vals1 r
 exact call_abs_int λu a=>⟨.int (if i<0 then -i else i),H,I.tok _,⟨_,rfl⟩,q⟩
theorem MR(b:X.calm=true):cB X (.builtin "max") (λxs H Q=>∃i j,xs=[.int i,.int j]/\Q (.int (if j > i then j else i)) H):=by
 intro pins s σ H xs us Q I r h;obtain⟨i,j,rfl,q⟩:=h;obtain⟨u,c,rfl,⟨t,rfl⟩,⟨t',rfl⟩⟩:=vals2 r
 refine max_two_ints (I.ok.hd b) λh' d k=>⟨_,H,I.kept k,?_,q⟩
 by_cases a:j > i
 ·rw[if_pos a,if_pos a];exact⟨_,rfl⟩
 ·rw[if_neg a,if_neg a];exact⟨_,rfl⟩
theorem MQ(b:X.calm=true):cB X (.builtin "min") (λxs H Q=>∃i j,xs=[.int i,.int j]/\Q (.int (if j<i then j else i)) H):=by
 intro pins s σ H xs us Q I r h;obtain⟨i,j,rfl,q⟩:=h;obtain⟨u,c,rfl,⟨t,rfl⟩,⟨t',rfl⟩⟩:=vals2 r
 refine min_two_ints (I.ok.hd b) λh' d k=>⟨_,H,I.kept k,?_,q⟩
 by_cases a:j<i
 ·rw[if_pos a,if_pos a];exact⟨_,rfl⟩
 ·rw[if_neg a,if_neg a];exact⟨_,rfl⟩
theorem zF:cB X (.type "int") (λxs H Q=>(∃i,xs=[.int i]/\Q (.int i) H)\/∃k,xs=[.bl k]/\Q (.int (if k then 1 else 0)) H):=by
 intro pins s σ H xs us Q I r h
 rcases h with ⟨i,rfl,q⟩ | ⟨k,rfl,q⟩
 ·obtain⟨u,rfl,t,rfl⟩:=vals1 r;exact call_int_int ⟨.int i,H,I,⟨_,rfl⟩,q⟩
 ·obtain⟨u,rfl,a⟩:=vals1 r;cases a;exact call_int_bool ⟨.int (if k then 1 else 0),H,I.tok _,⟨_,rfl⟩,q⟩
end
theorem tR.some_of{v:V}{o:Option Value}(r:tR (some v) o):∃u,o=some u/\RelV v u:=by
 cases o with
 | none=>exact(show False from r).elim
 | some u=>exact⟨u,rfl,r⟩
structure gL(k:Nat)(A:Around):Prop where
 hd:A.handled=none
 dp:A.depth+3*k+5<recursionLimit
 un:A.units+16*k+200<cLine
theorem gL.mono{j k:Nat}(r:gL k A)(h:j<=k):gL j A:=⟨r.hd,by have:=r.dp;lia,by have:=r.un;lia⟩
theorem gL.deeper{k:Nat}(r:gL (k+1) A)(env:Env):gL k (A.deeper env):=
 ⟨r.hd,by have:=r.dp;show A.depth+1+3*k+5<_;lia,by have:=r.un;show A.units+3+16*k+200<_;lia⟩
theorem gL.depth{k:Nat}(r:gL k A):A.depth<recursionLimit:=by have:=r.dp;lia
theorem gL.units{k:Nat}(r:gL k A):A.units+64<cLine:=by have:=r.un;lia
def aHf:TA:=λ_ H Q=>Q [] H
def aDi(a:TE)(tr:TA):TA:=λσ H Q=>a σ H λx b=>tr σ b λxs c=>Q (x::xs) c
section
variable {X:Cx}{e:Expr}{es:List Expr}{te:TE}{t:TA}{pos:Pos}
theorem AD:PA X [] aHf:=λ_ _ _ _ H Q I h=>Calls.spliced_nil ⟨[],H,I,.nil,h⟩
theorem tY(ha:PE X e te)(c:PA X es t)(hs:starEach (e::es) X.env=(false,eval e X.env)::starEach es X.env:=by rfl):PA X (e::es) (aDi te t):=by
 intro pos pins s σ H Q I h;rw[hs];show wpAny _ _ (spliced ((false,eval e X.env)::backTo pos (starEach es X.env))) _ _ s;refine aLr (c8 (ha pins s σ H _ I h) λu s1 a=>?_);obtain⟨x,d,f,g,i⟩:=a;exact c8 (c pos pins s1 σ d _ f i) λus s2 b=>by obtain⟨xs,j,k,l,m⟩:=b;exact⟨x::xs,j,k,.cons g l,m⟩
def aHa(t:TA):TE:=λσ H Q=>t σ H λxs a=>xs.length<=sizeLine/\∀p,a p=none->Q (.ref p) (upd a p (.tup xs))
def aHg(t:TA):TE:=λσ H Q=>t σ H λxs a=>xs.length<=sizeLine/\∀p,a p=none->Q (.ref p) (upd a p (.lst xs))
theorem ZF{x1}(h:PA X es t):PE X (.Tuple es x1 pos) (aHa t):=by
 intro pins s σ H Q I d;refine wpAny_Tuple_spliced (c8 (h pos pins s σ H _ I d) λus s1 ⟨xs,a,c,r,z,q⟩=>⟨by rw[<-r.length];exact z,?_⟩);have f:a s1.heap.objs.size=none:=c.b9.fresh (aJq _);refine⟨.ref s1.heap.objs.size,upd a s1.heap.objs.size (.tup xs),c.laid (t' :=s1.toks) (λb u e=>aJp _ e) (aJq _) ?_,rfl,q _ f⟩;exact⟨z,us,r,⟨_,aJv _ rfl,rfl,_,rfl⟩,zR _ _⟩
theorem ZK(h:PA X es t):PE X (.List es pos) (aHg t):=by
 intro pins s σ H Q I d;refine wpAny_List_spliced (c8 (h pos pins s σ H _ I d) λus s1 ⟨xs,a,c,r,z,q⟩=>⟨by rw[<-r.length];exact z,?_⟩);have f:a s1.heap.objs.size=none:=c.b9.fresh (aJq _);refine⟨.ref s1.heap.objs.size,upd a s1.heap.objs.size (.lst xs),c.laid (t' :=s1.toks) (λb u e=>aJp _ e) (aJq _) ?_,rfl,q _ f⟩;exact⟨z,us,0,r,aJv _ rfl⟩
end
abbrev Sp:=List V->Hp->VK->XK->Prop
abbrev M9:=List Env->Hp->Shared->XK->aNn
structure WZ(P:Program)(w:World)(K:aNm)(mg:aNp)(base:Heap)(A:Around)(outer:List Env)(s:Shared)(H:Hp):Prop where
 frames:A.frames=some outer
 mod:Mod K mg base
 bs:∀b o,base.get? b=some o->s.heap.get? b=some o/\H b=none
 WK:base.objs.size<=s.heap.objs.size
 vY:s.heap.FunFrames base outer
 frf:∀b∈QZ outer,H b=none
 b9:qW P w H s.heap
 bare:AllBare s.gens
def CE(outer:List Env)(P:Program)(w:World)(H:Hp)(s:Shared)(Q:VK)(u:Value)(a :Shared):Prop:=
 ∃v H',a.os=s.os/\AllBare a.gens/\Un (QZ outer) [] H H' s.heap a.heap/\qW P w H' a.heap/\RelV v u/\Q v H'
def CR(CX:M9)(outer:List Env)(P:Program)(w:World)(H:Hp)(s:Shared)(Q:VK)(E:XK)(r:Result)(a :Shared):Prop:=
 match r with
 | .ok (.ret u)=>CE outer P w H s Q u a
 | .ok _=>False
 | .error e=>CX outer H s E e a
structure kP(P:Program)(w:World)(K:aNm)(mg:aNp)(base:Heap)(CX:M9)(k:Nat)(f:Addr)(fd:FuncData)(ps:List Str)(sp:Sp):Prop where
 len:∀vs H Q E,sp vs H Q E->vs.length=ps.length
 run:∀(A:Around) (outer:List Env) (s:Shared) (H:Hp) (args:Args) (us:List Value) (vs:List V) (Q:VK) (E:XK),gL k A->WZ P w K mg base A outer s H->BindsTo s fd args (ps.zip us)->Vals vs us->sp vs H Q E->
  codeAny (model P w) A (.call (.ref f) args) (CR CX outer P w H s Q E) s
variable{mg:aNp}{base:Heap}{f:Addr}{fd:FuncData}{ps:List Str}
theorem kP.mono{CX:M9}{j k:Nat}{sp:Sp}(F:kP P w K mg base CX j f fd ps sp)(h:j<=k):
  kP P w K mg base CX k f fd ps sp:=⟨F.len,λA outer s H args us vs Q E a=>F.run A outer s H args us vs Q E (a.mono h)⟩
theorem kP.imp{CX:M9}{k:Nat}{sp a :Sp}(F:kP P w K mg base CX k f fd ps sp)
  (h:∀vs H Q E,a vs H Q E->sp vs H Q E):kP P w K mg base CX k f fd ps a :=
 ⟨λvs H Q E q=>F.len vs H Q E (h _ _ _ _ q),λA outer s H args us vs Q E b he hb c hs=>F.run A outer s H args us vs Q E b he hb c (h _ _ _ _ hs)⟩
section
variable {X:Cx}{pins:List (Addr×Obj)}{σ:St}{H:Hp}{s s' :Shared}
theorem Inv.aJ6(I:Inv X pins σ H s):WZ X.prog X.w X.K X.mg X.base X.A X.stack s H:=
 ⟨I.ok.frames,I.ok.mod,I.bs,aKe I.ok.WK I.sz,I.stack,I.II,I.b9,I.bare⟩
theorem Inv.after{Q:VK}(I:Inv X pins σ H s)(h:CE X.stack X.prog X.w H s Q u s'):EP X pins σ Q u s' :=by
 obtain⟨v,H',os,bare,un,b9,r,q⟩:=h;obtain⟨c,g,d,t,a⟩:=s';obtain rfl:a =s.os:=os;exact⟨v,H',I.call (h' :=c) (g' :=g) (d' :=d) (t' :=t) (ch:=[]) un b9 bare (λb z=>absurd z (by simp)),r,q⟩
end
def aDj(sp:Sp)(a:List V)(E:XK)(t:TA):TE:=λσ H Q=>t σ H λvs b=>sp (vs++a) b Q E
def Binds(K:aNm)(fd:FuncData)(ps:List Str)(ds:List Value):Prop:=
 ∀(s:Shared) (us:List Value),K.In s.heap->(us++ds).length=ps.length->BindsTo s fd ⟨us,[]⟩ (ps.zip (us++ds))
theorem Binds.all(h:∀us:List Value,us.length=ps.length->bindArgs fd ⟨us,[]⟩=pure (ps.zip us)):Binds K fd ps []:=λs us _ a=>by
 rw[List.append_nil]at a⊢;exact .of_eq (h us a)
def Passes(CX:M9)(X:Cx)(E:XK):Prop:=∀(pins:List (Addr×Obj)) (σ:St) (H:Hp) (s:Shared) (e:Value) (a :Shared),Inv X pins σ H s->CX X.stack H s E e a ->X.xe e a
section
variable {X:Cx}{CX:M9}{k:Nat}{f C:Addr}{fd:FuncData}{ps:List Str}{sp:Sp}{dvs:List V}{ds:List Value}{E:XK}{x m:Str}{p pos apos:Pos}{e o:Expr}{es:List Expr}{ta:TE}{t:TA}
theorem YV{Q:VK}{vs:List V}(F:kP X.prog X.w X.K X.mg X.base CX k f fd ps sp)(c:gL k X.A)(hb:Binds X.K fd ps ds)(hd:Vals dvs ds)(hx:Passes CX X E)
  (I:Inv X pins σ H s) (r:Vals vs us) (h:sp (vs++dvs) H Q E):wpAny (model X.prog X.w) X.A (call (.ref f) us) (EP X pins σ Q) X.xe s:=by
 have b:Vals (vs++dvs) (us++ds):=r.append hd;have d:(us++ds).length=ps.length:=by rw[<-b.length];exact F.len _ _ _ _ h
 refine wpAny_call (aMm (F.run X.A X.stack s H ⟨us,[]⟩ (us++ds) (vs++dvs) Q E c I.aJ6 (hb s us I.kIn d) b h) λr g a=>?_)
 cases r with
 | error e=>exact hx pins σ H s e g I a
 | ok fl=>
  cases fl with
  | ret u=>exact I.after a
  | next=>exact False.elim a
  | brk=>exact False.elim a
  | cont=>exact False.elim a
theorem UB(F:kP X.prog X.w X.K X.mg X.base CX k f fd ps sp)(d:gL k X.A)(hg:Gl X x)(hm:X.mg x=some (.ref f))(g:PySem.W.keepIn X.K (.ref f)=true)(hb:Binds X.K fd ps ds)(hd:Vals dvs ds)(hx:Passes CX X E)
  (ha:PA X (e::es) t) (a:(x==("__debug__":Str))=false:=by decide) (he:starEach (e::es) X.env=(false,eval e X.env)::starEach es X.env:=by rfl) (b:(backTo pos (starEach es X.env)).any (·.1)=false:=by rfl):
  PE X (.Call (.Name x p) (e::es) [] pos) (aDj sp dvs E t):=by
 intro pins s σ H Q I h;refine aLs (JE I hg hm ?_ a);refine PySem.W.callWith_K (h₀:=X.base) I.ok.mod.kin g (c8 (ha pos pins s σ H _ I h) λus s1 ⟨vs,i,c,r,q⟩=>⟨c.kIn,?_⟩) he b;exact YV F d hb hd hx c r q
end
structure aN(N P:List Str)(sc:Scope):Prop where
 kind:sc.kind= .function
 co:sc.isCoroutine=false
 gen:sc.isGenerator=false
 nd:N.Nodup
 pre:N.take P.length=P
 par:∀x∈P,sc.names.lookup x=some .local\/sc.names.lookup x=some .cell
 Z8:∀y∈sc.names,y.2≠ .free
theorem zG{kindOf:Str->Option NameKind}{x:Str}:∀{binds:List (Str×Value)} {m:aNp},(∀v,(x,v)∉binds)->bindL kindOf binds m x=m x
 | [],_,_=>rfl
 | (n,v)::r,m,h=>by
  unfold bindL;rw[zG λw a=>h w (List.mem_cons_of_mem _ a)];split
  ·have:x≠n:=by rintro rfl;exact h v aJs
   simp[this]
  ·rfl
theorem zI{kindOf:Str->Option NameKind}{x:Str}:∀{binds:List (Str×Value)} {m:aNp},(∀v,(x,v)∉binds)->bindC kindOf binds m x=m x
 | [],_,_=>rfl
 | (n,v)::r,m,h=>by
  unfold bindC;rw[zI λw a=>h w (List.mem_cons_of_mem _ a)];split
  ·rfl
  ·have:x≠n:=by rintro rfl;exact h v aJs
   simp[this]
theorem zH{kindOf:Str->Option NameKind}{x:Str}{v:Value}:∀{P:List Str} {vs:List Value} {i:Nat} {m:aNp},P.Nodup->P[i]? =some x->vs[i]? =some v->kindOf x=some .local->
  bindL kindOf (P.zip vs) m x=some v
 | [],_,_,_,_,h,_,_=>by simp at h
 | _::_,[],_,_,_,_,h,_=>by simp at h
 | p::P,w::vs,0,m,nd,h1,h2,hk=>by
  simp at h1 h2;subst h1;subst h2;show bindL kindOf ((p,w)::P.zip vs) m p=_;unfold bindL;rw[zG λv a=>(List.nodup_cons.mp nd).1 (List.of_mem_zip a).1,if_pos hk];simp
 | p::P,w::vs,i+1,m,nd,h1,h2,hk=>by
  show bindL kindOf ((p,w)::P.zip vs) m x=_;unfold bindL;exact zH (i:=i) (aMe.mp nd).2 (by simpa using h1) (by simpa using h2) hk
theorem zJ{kindOf:Str->Option NameKind}{x:Str}{v:Value}:∀{P:List Str} {vs:List Value} {i:Nat} {m:aNp},P.Nodup->P[i]? =some x->vs[i]? =some v->kindOf x≠some .local->
  bindC kindOf (P.zip vs) m x=some v
 | [],_,_,_,_,h,_,_=>by simp at h
 | _::_,[],_,_,_,_,h,_=>by simp at h
 | p::P,w::vs,0,m,nd,h1,h2,hk=>by
  simp at h1 h2;subst h1;subst h2;show bindC kindOf ((p,w)::P.zip vs) m p=_;unfold bindC;rw[zI λv a=>(List.nodup_cons.mp nd).1 (List.of_mem_zip a).1,if_neg hk];simp
 | p::P,w::vs,i+1,m,nd,h1,h2,hk=>by
  show bindC kindOf ((p,w)::P.zip vs) m x=_;unfold bindC;exact zJ (i:=i) (aMe.mp nd).2 (by simpa using h1) (by simpa using h2) hk
def start(N:List Str)(vs:List V):St:=vs.map some++List.replicate (N.length-vs.length) none
def wG(CX:M9)(P:Program)(w:World)(K:aNm)(mg:aNp)(base:Heap)(N:List Str)(qual:Str)(scope:Scope)(f:Addr)(b:Value)(A:Around)(outer:List Env)(s:Shared)(H:Hp)(E:XK):Cx where
 prog:=P
 w:=w
 K:=K
 mg:=mg
 base:=base
 A:=A.deeper (envOfC qual scope s.heap.objs.size f b)
 N:=N
 s₀:=s
 H₀:=H
 env:=envOfC qual scope s.heap.objs.size f b
 outer:=outer
 stack:=envOfC qual scope s.heap.objs.size f b::outer
 ex:=[]
 calm:=true
 fn:=λ_=>true
 pn:=[]
 xe:=λe c =>wpAny (model P w) (A.deeper (envOfC qual scope s.heap.objs.size f b)) (leaving (envOfC qual scope s.heap.objs.size f b) e) (λ_ a =>CX outer H s E e a) (λd a =>CX outer H s E d a) c
theorem EV{sc:Scope}{n:Nat}{x:Str}(h:sc.names.lookup x=some .cell):∃c,(cellsFrom n sc.names []).lookup x=some c:=by
 have q:=PySem.W.cellsFrom_some sc.names n [] (.inl h);exact Option.isSome_iff_exists.mp q
theorem LZ{CX:M9}{N ps:List Str}{qual:Str}{scope:Scope}{o:Value}{outer:List Env}{s s1:Shared}{E:XK}{vs:List V}
  (S:aN N ps scope) (hd:A.handled=none) (g:WZ P w K mg base A outer s H) (G:vs.length=ps.length) (r:Vals vs us)
  (x:InCallC s s.heap.objs.size (bindL (envOfC qual scope s.heap.objs.size f o).kindOf (ps.zip us) λ_=>none) (cellsFrom (s.heap.objs.size+1) scope.names []) (bindC (envOfC qual scope s.heap.objs.size f o).kindOf (ps.zip us) λ_=>none) s1):
  Inv (wG CX P w K mg base N qual scope f o A outer s H E) [] (start N vs) H s1:=by
 have D:ps.length<=N.length:=by have:=aKo List.length S.pre;rw[List.length_take]at this;lia
 obtain⟨t,I,rfl,B⟩:=x.done;have j:∀b:Addr,b∉(wG CX P w K mg base N qual scope f o A outer s H E).ex:=λb z=>absurd (show b∈([]:List Addr) from z) (by simp)
 refine⟨⟨g.mod,S.kind,rfl,rfl,aJq _,λy z c t d=>?_,λy hy=>?_,λy c _ h=>?_,λ_=>hd,Around.frames_deeper g.frames,.inr ⟨rfl,rfl⟩,λb z=>absurd z (j b),g.bs,g.WK,λb _ _=>j b,λb z=>absurd z (j b),g.vY,g.frf⟩,
  rfl,g.bare,Un.kept B,⟨_,x.toInCall.ns,λi y v t d J=>?_⟩,λy c h=>⟨_,x.cell y c h⟩,g.b9.fresh (aJq _),λy c h=>?_,λp l=>absurd (show p∈([]:List (Addr×Obj)) from l) (by simp),g.b9.kept B,?_⟩
 ·exact name_of_addr x.apart (aKv t) (aKv d)
 ·have hy:scope.names.lookup y=some .cell\/scope.names.lookup y=some .free:=hy;rcases hy with hy | hy
  ·exact EV hy
  ·exact absurd rfl (S.Z8 _ (aKv hy))
 ·exact aM5 (x.above y c (aKv h))
 ·have hi:i<vs.length:=by
   unfold start at d;by_cases hi:i<vs.length
   ·exact hi
   ·rw[List.getElem?_append_right (by simpa using hi)]at d;rw[List.getElem?_replicate]at d;split at d <;> cases d
  have ha:vs[i]? =some v:=by
   unfold start at d;rw[List.getElem?_append_left (by simpa using hi),List.getElem?_map]at d
   cases e:vs[i]? with
   | none=>rw[e]at d;cases d
   | some a=>rw[e]at d;cases d;rfl
  obtain⟨u,C,F⟩:=r.get ha
  have l:ps[i]? =some y:=by
   rw[<-S.pre,List.getElem?_take_of_lt (by lia)];exact t
  have m:ps.Nodup:=by rw[<-S.pre];exact S.nd.sublist (aNb _ _)
  refine⟨u,F,?_⟩;rcases S.par y (aJu l) with k | k
  ·exact .inl ⟨k,zH m l C k⟩
  ·obtain⟨c,e⟩:=EV (n:=s.heap.objs.size+1) k;refine .inr ⟨.inl k,c,e,?_⟩;have q:=x.cell y c e;rw[zJ m l C (by show scope.names.lookup y≠_;rw[k];decide)]at q;exact q
 ·exact g.b9.fresh (aM5 (x.above y c (aKv h)))
 ·unfold start;show _=N.length;rw[List.length_append,List.length_map,List.length_replicate]
  lia
theorem aFp{CX:M9}{k:Nat}{name qual:Str}{a:Arguments}{body:List Stmt}{scope:Scope}{C kV doc pm cdv ct oc:Value}{an od:Option Addr}
  {osl:Array (Option Value)} {N ps:List Str} {sp:Sp} (D:K.lookup f=some ⟨oc,od,.func (PySem.W.fnOf name qual a body scope C kV doc pm an cdv ct),osl⟩) (l:PySem.W.codeIn K cdv qual=true) (S:aN N ps scope)
  (len:∀vs H Q E,sp vs H Q E->vs.length=ps.length)
  (d:∀(A:Around) (outer:List Env) (s:Shared) (H:Hp) (vs:List V) (Q:VK) (E:XK),gL k (A.deeper (envOfC qual scope s.heap.objs.size f cdv))->sp vs H Q E->
   ∃t,B2 (wG CX P w K mg base N qual scope f cdv A outer s H E) body t/\t {nx:=λ_ H' =>Q .bY H',rt:=Q} (start N vs) H):
  kP P w K mg base CX (k+1) f (PySem.W.fnOf name qual a body scope C kV doc pm an cdv ct) ps sp:=by
 refine⟨len,λA outer s H args us vs Q E m h hb r i=>?_⟩;have F:=len _ _ _ _ i;have KX:K.In s.heap:=h.mod.kin.keeps λb o e=>(h.bs b o e).1;have p:s.heap.NoLimit:=h.mod.nolimit.keeps λb o e=>(h.bs b o e).1
 have g:∀y∈ps.zip us,scope.names.lookup y.1=some .local\/(scope.names.lookup y.1=some .cell/\((cellsFrom (s.heap.objs.size+1) scope.names []).lookup y.1).isSome=true):=λj G=>by
  obtain⟨n,v⟩:=j;rcases S.par n (List.of_mem_zip G).1 with q | q
  ·exact .inl q
  ·exact .inr ⟨q,PySem.W.cellsFrom_some _ _ _ (.inl q)⟩
 refine codeAny_call_function m.depth (KX _ _ D) rfl S.co S.gen rfl (PySem.W.codeRec_of KX l) (hb _ _ _ _ ?_);refine wpAny_newFunctionEnv_cells S.kind g λenv he s1 x=>?_;subst he;refine⟨p.keeps x.toInCall.keep,codeAny_func ?_⟩;obtain⟨t,ht,L⟩:=d A outer s H vs Q E (m.deeper _) i;have I:Inv (wG CX P w K mg base N qual scope f cdv A outer s H E) [] (start N vs) H s1:=LZ S m.hd h F r x;refine aL9 (ht [] s1 (start N vs) H _ I L) (λfl z hs=>?_) λe z hs=>hs
 have fin:∀{c :St} {H' :Hp} {v:V} {u:Value},Inv (wG CX P w K mg base N qual scope f cdv A outer s H E) [] c H' z ->RelV v u->Q v H' ->CE outer P w H s Q u z :=
  λ{c H' v u} J B q=>⟨v,H',J.os,J.bare,J.base,J.b9,B,q⟩
 cases fl with
 | ret u=>
  obtain⟨v,c,H',J,B,q⟩:=hs;exact fin J B q
 | next=>
  obtain⟨c,H',J,q⟩:=hs;exact fin (v:=V.bY) (u:=Value.none) J rfl q
 | brk=>
  obtain⟨_,_,_,q⟩:=hs;exact False.elim q
 | cont=>
  obtain⟨_,_,_,q⟩:=hs;exact False.elim q
section
variable {X:Cx}{x:Str}{p pos:Pos}{e:Expr}{es:List Expr}{t:TA}{id T:String}{r:List V->Hp->VK->Prop}
def tCB(r:List V->Hp->VK->Prop)(t:TA):TE:=λσ H Q=>t σ H λvs a=>r vs a Q
theorem DA(d:cB X (.builtin id) r)(hg:Gl X x)(hm:X.mg x=none)(f:bootBuiltins x=some (.builtin id))(ha:PA X (e::es) t)(g:x≠ "__name__":=by decide)(b:(x==("__debug__":Str))=false:=by decide)
  (he:starEach (e::es) X.env=(false,eval e X.env)::starEach es X.env:=by rfl) (c:(backTo pos (starEach es X.env)).any (·.1)=false:=by rfl):PE X (.Call (.Name x p) (e::es) [] pos) (tCB r t):=by
 intro pins s σ H Q I h;refine aLs (pB I hg hm f ?_ g b);exact PyProof.Rows.callWith_builtin1 (c8 (ha pos pins s σ H _ I h) λus s1 a=>by obtain⟨vs,i,j,k,l⟩:=a;exact d pins s1 σ i vs us Q j k l) he c
theorem rG(d:cB X (.type T) r)(hg:Gl X x)(hm:X.mg x=none)(f:bootBuiltins x=some (.type T))(ha:PA X (e::es) t)(g:x≠ "__name__":=by decide)(b:(x==("__debug__":Str))=false:=by decide)
  (he:starEach (e::es) X.env=(false,eval e X.env)::starEach es X.env:=by rfl) (c:(backTo pos (starEach es X.env)).any (·.1)=false:=by rfl):PE X (.Call (.Name x p) (e::es) [] pos) (tCB r t):=by
 intro pins s σ H Q I h;refine aLs (pB I hg hm f ?_ g b);exact aL0 (c8 (ha pos pins s σ H _ I h) λus s1 a=>by obtain⟨vs,i,j,k,l⟩:=a;exact d pins s1 σ i vs us Q j k l) he c
end
end L2
namespace HT
open PySem PyProof.Rows
section
open PySem.SeqAt
open PySem.AutoSeq1 (wpAny_loadPart')
open PySem.MeetsSeq PySem.MeetsSeq2 PySem.MeetsSeq3
end
section
variable {prog:Program}{w:World}{A:Around}{E:aNn}{s:Shared}
theorem WC{t b:Addr}{vs a:List Value}{Q:aNn}(ht:IsTup s.heap t vs.toArray)(hb:IsTup s.heap b a.toArray)(j:vs≠[])
  (p:a=[]->Q (.ref t) s) (q:a≠[]->Q (.ref s.heap.objs.size) {s with heap:=s.heap.push {cls:= .type "tuple",data:= .seq (vs++a).toArray}})
  (hsz:vs.length+a.length<=sizeLine):wpAny (model prog w) A (binaryOp .Add (.ref t) (.ref b)) Q E s:=by
 obtain⟨⟨cls,k,data,sl⟩,ho,l,n,hd⟩:=id ht;obtain⟨⟨m,d,data2,f⟩,c,g,o,h⟩:=id hb;simp only at l hd g h;subst l hd g h;have e:vs.toArray++a.toArray=(vs++a).toArray:=by simp
 by_cases i:a=[]
 ·exact concat_meets ⟨_,ho,rfl⟩ ⟨_,c,rfl⟩ noFill_tuple_add seq_tuple_add aMn aMj (aMd _ _)
   (tuple_addW1 t b vs.toArray a.toArray n o k d sl f (by simpa using j) (by simp[i])) ⟨ho,c,p i⟩
 ·refine concat_meets ⟨_,ho,rfl⟩ ⟨_,c,rfl⟩ noFill_tuple_add seq_tuple_add aMn aMj (aMd _ _)
   (tuple_addW2 t b vs.toArray a.toArray n o k d sl f (by simpa using j) (by simpa using i) (by rw[List.size_toArray,List.size_toArray];exact hsz)) ⟨ho,c,?_⟩
  rw[e];exact q i
def dU(n d:Nat):Option Int->Nat
 | none=>d
 | some v=>if v<0 then (v+(n:Int)).toNat else min v.toNat n
theorem YU(n d:Nat)(hd:d<=n)(o:Option Int):dU n d o<=n:=by
 cases o with
 | none=>exact hd
 | some v=>
  show (if v<0 then (v+(n:Int)).toNat else min v.toNat n)<=n;by_cases a:v<0
  ·rw[if_pos a];lia
  ·rw[if_neg a];exact Nat.min_le_right _ _
theorem J8(v:Int)(n d:Nat):(if v<0 then max (v+(n:Int)) 0 else min v (n:Int))=((dU n d (some v):Nat):Int):=by
 show (if v<0 then max (v+(n:Int)) 0 else min v (n:Int))=(((if v<0 then (v+(n:Int)).toNat else min v.toNat n):Nat):Int);by_cases a:v<0
 ·simp only[if_pos a];lia
 ·simp only[if_neg a];lia
theorem HK(lo hi:Option Int)(n:Nat):Builtin.Slice.sliceAdjust lo hi 1 (n:Int)=(((dU n 0 lo:Nat):Int),((dU n n hi:Nat):Int)):=by
 have a:¬((1:Int)<0):=by lia
 unfold Builtin.Slice.sliceAdjust;simp only[a,if_false];refine Prod.ext ?_ ?_
 ·cases lo with
  | none=>rfl
  | some v=>exact J8 v n 0
 ·cases hi with
  | none=>rfl
  | some v=>exact J8 v n n
theorem F1(i j:Nat):Builtin.Slice.slicePlaces (i:Int) (j:Int) 1=j-i:=by
 unfold Builtin.Slice.slicePlaces;have a:(1:Int) > 0:=by lia
 simp only[a,if_true,Int.ediv_one];split <;> lia
theorem uU{v:Value}{o:Option Int}{Q:Option Int->Shared->Prop}(p:IsPart v o)(h:Q o s):wpAny (model prog w) A (Builtin.Slice.slicePartIndex v) Q E s:=by
 cases p with
 | none=>exact slicePart_none h
 | int i t=>exact slicePart_int h
theorem kA{sl:Addr}{c d:Value}{lo hi:Option Int}{n:Nat}{Q:Int×Int×Nat->Shared->Prop}(hs:s.heap.IsSliceOf sl c d .none)(e:IsPart c lo)(f:IsPart d hi)
  (h:Q (((dU n 0 lo:Nat):Int),1,dU n n hi-dU n 0 lo) s):wpAny (model prog w) A (Builtin.Slice.sliceApplied (.ref sl) (pure (n:Int))) Q E s:=by
 obtain⟨os,a,g,b⟩:=id hs;unfold Builtin.Slice.sliceApplied Builtin.Slice.sliceFields;refine aJn (aJn (aKk a b (x:=c) rfl (aJn (aKk a b (x:=d) rfl (aJn (aKk a b (x:= .none) rfl (aJo ?_)))))));refine aJn (slicePart_none ?_);show wpAny _ _ (if ((1:Int)==0)=true then _ else _) _ _ s;rw[if_neg (by decide)];refine aJn (uU e (aJn (uU f (aJn (aJo ?_)))));show wpAny _ _ (match Builtin.Slice.sliceAdjust lo hi 1 (n:Int) with | (lo,hi)=>pure (lo,(1:Int),Builtin.Slice.slicePlaces lo hi 1)) _ _ s;rw[HK lo hi n];show wpAny _ _ (pure (((dU n 0 lo:Nat):Int),(1:Int),Builtin.Slice.slicePlaces ((dU n 0 lo:Nat):Int) ((dU n n hi:Nat):Int) 1)) _ _ s;rw[F1];exact aJo h
theorem OG(xs:Array Value)(i k:Nat):((List.range k).filterMap λ(m:Nat)=>xs[((i:Int)+(m:Int)*1).toNat]?).toArray=((xs.toList.drop i).take k).toArray:=by
 have e:(λ(m:Nat)=>xs[((i:Int)+(m:Int)*1).toNat]?)=λm=>xs[i+m]? :=by
  funext m;have:((i:Int)+(m:Int)*1).toNat=i+m:=by lia
  rw[this]
 rw[e];have:=pick_run xs i k;rw[List.filterMap_map]at this;have a:((λx=>xs[x]?) ∘ λx=>i+x)=λm=>xs[i+m]? :=rfl;rw[a]at this;rw[this]
theorem qG{t sl:Addr}{items:Array Value}{f g:Value}{lo hi:Option Int}{Q:aNn}(ht:IsTup s.heap t items)(hs:s.heap.IsSliceOf sl f g .none)(i:IsPart f lo)(j:IsPart g hi)
  (k:¬(dU items.size 0 lo=0/\dU items.size items.size hi=items.size))
  (h:Q (.ref s.heap.objs.size) {s with heap:=s.heap.push {cls:= .type "tuple",data:= .seq ((items.toList.drop (dU items.size 0 lo)).take (dU items.size items.size hi-dU items.size 0 lo)).toArray}})
  (hsz:items.size<=sizeLine):wpAny (model prog w) A (getItem (.ref t) (.ref sl)) Q E s:=by
 have a:sizeOk (.seq ((items.toList.drop (dU items.size 0 lo)).take (dU items.size items.size hi-dU items.size 0 lo)).toArray):=by
  show ((items.toList.drop (dU items.size 0 lo)).take (dU items.size items.size hi-dU items.size 0 lo)).toArray.size<=sizeLine;rw[List.size_toArray,List.length_take,List.length_drop,Array.length_toList]
  lia
 have n:dU items.size items.size hi<=items.size:=YU _ _ (aJq _) hi;obtain⟨os,b,c,l⟩:=id hs
 have d:s.TypeIs (.ref sl) "slice":=⟨os,b,c⟩
 unfold getItem
 try with_reducible refine aKd ?_
 first | refine aJn (aJo ?_) | skip
 refine aJn (wpAny_sequenceKey ht.typeIs (by decide) ?_)
 refine aJn (aK9 (name:=Str.ofString "__getitem__") ht.typeIs aKm
  (aK8 aKm ht.typeIs entry_tuple_getitem ?_ (args_tuple_getitem _ _)))
 show wpAny _ _ (Builtin.Tuple.tupleItemsOf (.ref t) >>=_) _ _ s;refine aJn (tupleItemsOf_ ht ?_);refine aJn (aMo d ?_);rw[if_pos (by decide)];refine aJn (kA hs i j ?_)
 have e:¬((((dU items.size 0 lo:Nat):Int)==0 && (1:Int)==1 && (dU items.size items.size hi-dU items.size 0 lo)==items.size)=true):=by
  intro q;rw[Bool.and_eq_true,Bool.and_eq_true]at q;have o:((dU items.size 0 lo:Nat):Int)=0:=eq_of_beq q.1.1;have p:dU items.size items.size hi-dU items.size 0 lo=items.size:=eq_of_beq q.2;exact k ⟨by lia,by lia⟩
 show wpAny _ _ (if (((dU items.size 0 lo:Nat):Int)==0 && (1:Int)==1 && (dU items.size items.size hi-dU items.size 0 lo)==items.size)=true then _ else _) _ _ s;rw[if_neg e,OG]
 first
  | exact aJn (m:=Builtin.Tuple.tupleExact _) (aKf (aJo ⟨_,rfl,aJo h⟩) a)
  | exact aJn (m:=Builtin.Tuple.tupleExact _) (aKf (aJn (aJo (aJo ⟨_,rfl,aJo h⟩))) a)
  | exact aJn (aJn (m:=Builtin.Tuple.tupleExact _) (aKf (aJo (aJo ⟨_,rfl,aJo h⟩)) a))
  | exact aJn (aJn (m:=Builtin.Tuple.tupleExact _) (aKf (aJo ⟨_,rfl,aJo h⟩) a))
end
end HT
namespace L2
open PySem PySem.Spec PyProof.Rows
abbrev TO:=St->Hp->(Option Int->Hp->Prop)->Prop
def PO(X:Cx)(e:Option Expr)(t:TO):Prop:=
 ∀(pins:List (Addr×Obj)) (s:Shared) (σ:St) (H:Hp) (Q:Option Int->Hp->Prop),Inv X pins σ H s->t σ H Q->
  wpAny (model X.prog X.w) X.A (evalPart e X.env) (λu a =>∃o H',Inv X pins σ H' a /\IsPart u o/\Q o H') X.xe s
def SX:TO:=λ_ H Q=>Q none H
def aDc(t:TE):TO:=λσ H Q=>t σ H λx a=>∃i,x= .int i/\Q (some i) a
section
variable {X:Cx}{e:Expr}{te:TE}{lo hi:Option Expr}{tl th:TO}{pos p2:Pos}
theorem T5:PO X none SX:=by
 intro pins s σ H Q I h;rw[evalPart_none];exact aJo ⟨none,H,I,.none,h⟩
theorem T4(h:PE X e te):PO X (some e) (aDc te):=by
 intro pins s σ H Q I b;rw[evalPart_some];refine c8 (h pins s σ H _ I b) λu s1 a=>?_;obtain⟨x,c,d,f,g⟩:=a;obtain⟨i,rfl,q⟩:=g;obtain⟨t,rfl⟩:=f;exact⟨some i,c,d,.int i t,q⟩
def SlR(X:Cx)(r:V->Option Int->Option Int->Hp->VK->Prop):Prop:=
 ∀(pins:List (Addr×Obj)) (s:Shared) (σ:St) (H:Hp) (x:V) (v a b:Value) (lo hi:Option Int) (sl:Addr) (Q:VK),Inv X pins σ H s->RelV x v->s.heap.IsSliceOf sl a b .none->IsPart a lo->IsPart b hi->r x lo hi H Q->
  ∃T id,typeLookup (.type T) "__getitem__"=pure (some (.builtin id))/\s.TypeIs v T/\wpAny (model X.prog X.w) X.A (getItem v (.ref sl)) (EP X pins σ Q) X.xe s
def tSl(r:V->Option Int->Option Int->Hp->VK->Prop)(te:TE)(tl th:TO):TE:=λσ H Q=>te σ H λx a=>tl σ a λl b=>th σ b λu c=>r x l u c Q
theorem OI{r:V->Option Int->Option Int->Hp->VK->Prop}(j:SlR X r)(he:PE X e te)(k:PO X lo tl)(m:PO X hi th):PE X (.Subscript e (.Slice lo hi none p2) pos) (tSl r te tl th):=by
 intro pins s σ H Q I h;refine Subscript_ (c8 (he pins s σ H _ I h) λv s1 c=>?_);obtain⟨x,n,o,p,t⟩:=c;refine wpAny_Slice (c8 (k pins s1 σ n _ o t) λf s2 ⟨l,y,z,B,C⟩=>c8 (m pins s2 σ y _ z C) λg a d=>?_);obtain⟨u,i,D,E,F⟩:=d;rw[evalPart_none];refine aJo ?_;have G:Inv X pins σ i {a with heap:=a.heap.push {cls:= .type "slice",data:= .fields #[f,g,.none]}}:=D.kept (t' :=a.toks) λb ob q=>aJp _ q;obtain⟨T,id,J,ht,hg⟩:=j pins {a with heap:=a.heap.push {cls:= .type "slice",data:= .fields #[f,g,.none]}} σ i x v f g l u a.heap.objs.size Q G p (Heap.IsSliceOf.new ..) B E F;show wpAny (model X.prog X.w) X.A (subscriptTail e (.Slice lo hi none p2) v (.ref a.heap.objs.size)) (EP X pins σ Q) X.xe {a with heap:=a.heap.push {cls:= .type "slice",data:= .fields #[f,g,.none]}};exact tail_any (ops:=[.ref a.heap.objs.size,v]) ht J hg (by with_unfolding_all rfl)
def BM(xs:List V)(lo hi:Option Int):List V:=(xs.drop (HT.dU xs.length 0 lo)).take (HT.dU xs.length xs.length hi-HT.dU xs.length 0 lo)
theorem tE(xs:List V)(lo hi:Option Int):(BM xs lo hi).length<=xs.length:=by
 unfold BM;rw[List.length_take,List.length_drop]
 lia
def aIe(K:aNm):V->Option Int->Option Int->Hp->VK->Prop:=λx lo hi H Q=>∃a xs,x= .ref a/\tQ K H a xs/\
 ¬(HT.dU xs.length 0 lo=0/\HT.dU xs.length xs.length hi=xs.length)/\∀p,H p=none->Q (.ref p) (upd H p (.tup (BM xs lo hi)))
theorem YO:SlR X (aIe X.K):=by
 intro pins s σ H x v i j lo hi sl Q I d hs e f h;obtain⟨a,xs,rfl,hx,g,q⟩:=h;cases d;obtain⟨aJ,r,ht,hz⟩:=I.tuple hx;have c:aJ.toArray.size=xs.length:=by rw[List.size_toArray];exact r.length.symm
 refine⟨"tuple",_,aKm.lookup,ht.typeIs,?_⟩;refine HT.qG ht hs e f (by rw[c];exact g) ?_ (by rw[c];exact hz);rw[c];refine⟨.ref s.heap.objs.size,_,I.laid (t' :=s.toks) (o:= .tup (BM xs lo hi)) (λb ob q=>aJp _ q) (aJq _) ?_,rfl,q _ (I.b9.fresh (aJq _))⟩;exact⟨aKe (tE xs lo hi) hz,_,(r.drop (HT.dU xs.length 0 lo)).take (HT.dU xs.length xs.length hi-HT.dU xs.length 0 lo),IsTup.new _ _,zR _ _⟩
def aE2(K:aNm):R2:=λx y H Q=>∃a b xs c,x= .ref a/\y= .ref b/\tQ K H a xs/\tQ K H b c/\xs≠[]/\xs.length+c.length<=sizeLine/\
 (c=[]->Q (.ref a) H)/\(c≠[]->∀p,H p=none->Q (.ref p) (upd H p (.tup (xs++c))))
theorem Vals.AF{xs:List V}{us:List Value}(r:Vals xs us):us=[]↔xs=[]:=by
 cases r with
 | nil=>simp
 | cons _ _=>simp
theorem UH:gE X (binaryOp .Add) (aE2 X.K):=by
 intro pins s σ H x y v u Q I f g h;obtain⟨a,b,xs,i,rfl,rfl,ha,hb,hx,hz,j,k⟩:=h;cases f;cases g;obtain⟨aJ,d,l,_⟩:=I.tuple ha;obtain⟨e,c,p2,_⟩:=I.tuple hb;refine HT.WC l p2 (λz=>hx (d.AF.mp z)) (λz=>⟨.ref a,H,I,rfl,j (c.AF.mp z)⟩) (λz=>?_) (by rw[<-d.length,<-c.length];exact hz);refine⟨.ref s.heap.objs.size,_,I.laid (t' :=s.toks) (o:= .tup (xs++i)) (λb ob q=>aJp _ q) (aJq _) ?_,rfl,k (λw=>z (c.AF.mpr w)) _ (I.b9.fresh (aJq _))⟩;exact⟨by rw[List.length_append];exact hz,_,d.append c,IsTup.new _ _,zR _ _⟩
end
def LR(n:Nat)(i:Int):Option Nat:=if 0<=i then (if i<n then some i.toNat else none) else if -(n:Int)<=i then some (i+n).toNat else none
variable{α:Type}
def jH(xs:List α)(i:Int):Option α:=(LR xs.length i).bind λj=>xs[j]?
variable{n:Nat}
theorem JP{i:Int}{j:Nat}(h:LR n i=some j):seqIndex? i n=some j/\j<n/\ -(n:Int)<=i/\i<n:=by
 unfold LR at h;by_cases h0:0<=i
 ·rw[if_pos h0]at h;by_cases a:i<n
  ·rw[if_pos a]at h;have e:i.toNat=j:=aK5 h;exact⟨by rw[seqIndex_of h0 a,e],by lia,by lia,a⟩
  ·rw[if_neg a]at h;cases h
 ·rw[if_neg h0]at h;by_cases a: -(n:Int)<=i
  ·rw[if_pos a]at h;have e:(i+n).toNat=j:=aK5 h;exact⟨by rw[seqIndex_neg (by lia) a,e],by lia,a,by lia⟩
  ·rw[if_neg a]at h;cases h
theorem BW{xs:List α}{i:Int}{v:α}(h:jH xs i=some v):∃j,seqIndex? i xs.length=some j/\xs[j]? =some v/\j<xs.length/\ -(xs.length:Int)<=i/\i<xs.length:=by
 unfold jH at h
 cases e:LR xs.length i with
 | none=>rw[e]at h;cases h
 | some j=>
  rw[e]at h;obtain⟨a,b,c,d⟩:=JP e;exact⟨j,a,h,b,c,d⟩
theorem cT{xs:List α}{j:Nat}{v:α}(h:xs[j]? =some v):jH xs (j:Int)=some v:=by
 have a:j<xs.length:=(aJr.mp h).1
 have e:LR xs.length (j:Int)=some j:=by
  unfold LR;rw[if_pos (by lia),if_pos (by lia)];simp
 unfold jH;rw[e];exact h
def KH(b:Expr):Prop:=∀o i,subscripted b false o i=operate [o,i] (getItem o i)
def X2(X:Cx)(r:R2):Prop:=
 ∀(b a:Expr) (pins:List (Addr×Obj)) (s:Shared) (σ:St) (H:Hp) (x y:V) (v u:Value) (Q:VK),Inv X pins σ H s->RelV x v->RelV y u->r x y H Q->
  subscripted a false v u=operate [v,u] (getItem v u)->wpAny (model X.prog X.w) X.A (subscriptTail b a v u) (EP X pins σ Q) X.xe s
def MtR(X:Cx)(id:String)(r:V->List V->Hp->VK->Prop):Prop:=
 ∀(pins:List (Addr×Obj)) (s:Shared) (σ:St) (H:Hp) (x:V) (xs:List V) (v:Value) (us:List Value) (Q:VK),Inv X pins σ H s->RelV x v->Vals xs us->r x xs H Q->
  wpAny (model X.prog X.w) X.A (call (.builtin id) (v::us)) (EP X pins σ Q) X.xe s
section
variable {X:Cx}{a b:Expr}{ta tb:TE}{pos:Pos}
theorem aEb{r:R2}(c:X2 X r)(ha:PE X a ta)(hb:PE X b tb)(hs:KH b):PE X (.Subscript a b pos) (tOp r ta tb):=by
 intro pins s σ H Q I h;exact Subscript_ (aCd ha hb I h λv u s2 x y d e f g q=>c a b pins s2 σ d x y v u Q e f g q (hs _ _))
def aIj(K:aNm):R2:=λx y H Q=>∃p xs i v,x= .ref p/\y= .int i/\qU K H p xs/\jH xs i=some v/\Q v H
def aIh(K:aNm):R2:=λx y H Q=>∃p xs i v,x= .ref p/\y= .int i/\tQ K H p xs/\jH xs i=some v/\Q v H
def aIi:R2:=λx y H Q=>∃z i c,x= .str z/\y= .int i/\z.length<=sizeLine/\jH z.cps.toList i=some c/\Q (.str ⟨#[c]⟩) H
theorem VG:X2 X (aIj X.K):=by
 intro b c pins s σ H x y v u Q I k l h hs;obtain⟨p,xs,i,z,rfl,rfl,m,he,q⟩:=h;cases k;obtain⟨t,rfl⟩:=l;obtain⟨aJ,r,d,hz⟩:=I.list m;obtain⟨j,a,n,D,o,A⟩:=BW he;obtain⟨w,g,e⟩:=r.get n;have B:=r.length;have E:=mU
 have fin:EP X pins σ Q w s:=⟨z,H,I,e,q⟩
 by_cases h0:0<=i
 ·have f:i.toNat=j:=by
   rw[seqIndex_of h0 A]at a;exact aK5 a
  exact item_listR d.isList h0 (by lia) (by rw[f];simpa using g) fin hs
 ·have f:(i+(aJ.toArray.size:Int)).toNat=j:=by
   rw[seqIndex_neg (by lia) o]at a;rw[List.size_toArray,<-B];exact aK5 a
  exact subscriptTail_builtinR (x:=w) d.isList.typeIs slot_list_getitem.lookup
   (wpAny_getItem_list_neg (Q:=λr C =>r=w/\EP X pins σ Q r C) d.isList (by lia) (by rw[List.size_toArray] <;> lia) (by lia) (by rw[f];simpa using g) ⟨rfl,fin⟩) hs
theorem aB4:X2 X (aIh X.K):=by
 intro a b pins s σ H x y v u Q I e f h hs;obtain⟨p,xs,i,z,rfl,rfl,g,he,q⟩:=h;cases e;obtain⟨t,rfl⟩:=f;obtain⟨aJ,r,d,hz⟩:=I.tuple g;obtain⟨j,k,l,A,B,C⟩:=BW he;obtain⟨w,m,c⟩:=r.get l;have n:=r.length;have D:=mU
 have fin:EP X pins σ Q w s:=⟨z,H,I,c,q⟩
 exact subscriptTail_builtinR (x:=w) d.typeIs slot_tuple_getitem.lookup
  (getItem_tuple (j:=j) (Q:=λr o =>r=w/\EP X pins σ Q r o) d (by lia) (by lia) (by rw[List.size_toArray,<-n];exact k) (by simpa using m) ⟨rfl,fin⟩) hs
theorem aB5:X2 X aIi:=by
 intro a b pins s σ H x y v u Q I e f h hs;obtain⟨z,i,c,rfl,rfl,hz,he,q⟩:=h;obtain⟨t,rfl⟩:=e;obtain⟨t',rfl⟩:=f;obtain⟨j,d,g,p,k,l⟩:=BW he;have m:z.cps.toList.length=z.length:=by simp[Str.length]
 rw[m]at d k l;have r:=mU
 exact tail_any (typeIs_str s z t) slot_str_getitem.lookup (getItem_str (c:=c) (by
  have n:decide (i < -(2^63:Int))=false:=aL3 (by lia);have o:decide (i>=2^63)=false:=aL3 (by lia)
  rw[n,o,Bool.or_false]) (by rw[d];simpa using g) ⟨.str ⟨#[c]⟩,H,I.tok _,⟨_,rfl⟩,q⟩) hs
theorem GC(aJ:List Value)(n j:Nat)(u:Value):Obj.mapSeq (·.setIfInBounds j u) {cls:= .type "list",data:= .seq aJ.toArray n}={cls:= .type "list",data:= .seq (aJ.set j u).toArray n}:=by
 simp[Obj.mapSeq]
variable{pins:List (Addr×Obj)}{s:Shared}
theorem Inv.lst{σ:St}{H:Hp}{p:Addr}{xs:List V}(I:Inv X pins σ H s)(h:H p=some (.lst xs)):
  ∃(aJ:List Value) (n:Nat),Vals xs aJ/\s.heap.get? p=some {cls:= .type "list",data:= .seq aJ.toArray n}/\xs.length<=sizeLine:=by
 obtain⟨z,aJ,n,r,e⟩:=I.b9 p _ h;exact⟨aJ,n,r,e,z⟩
theorem Inv.aA7{σ:St}{H:Hp}{p:Addr}{xs a:List V}{aJ its' :List Value}{n c :Nat}{f:Obj->Obj}(I:Inv X pins σ H s)(h:H p=some (.lst xs))
  (ho:s.heap.get? p=some {cls:= .type "list",data:= .seq aJ.toArray n}) (d:f {cls:= .type "list",data:= .seq aJ.toArray n}={cls:= .type "list",data:= .seq its'.toArray c}) (r:Vals a its') (hz:a.length<=sizeLine) (t:Nat):
  Inv X pins σ (upd H p (.lst a)) {s with heap:=s.heap.update p f,toks:=t}:=by
 have e:(s.heap.update p f).get? p=some {cls:= .type "list",data:= .seq its'.toArray c}:=by
  rw[Heap.get?_update_self f ho (by rw[d] <;> rfl),d]
 refine I.write (x:=p) (e:=p) (by rw[h];trivial) (.inl rfl) (λb u hb q=>(aL1 _ _ (aL4 hb)).trans q) ⟨_,e⟩ ?_;exact⟨hz,its',c,r,e⟩
def aE0:V->V->V->Hp->(Hp->Prop)->Prop:=λo i v H Q=>∃p xs k j,o= .ref p/\i= .int k/\H p=some (.lst xs)/\LR xs.length k=some j/\Q (upd H p (.lst (xs.set j v)))
theorem set_list:aG2 X aE0:=by
 intro pins s σ H o i v y z u Q I l m w h;obtain⟨p,xs,k,j,rfl,rfl,d,x,q⟩:=h;cases l;obtain⟨t,rfl⟩:=m;obtain⟨aJ,n,r,ho,hz⟩:=I.lst d;obtain⟨a,A,e,f⟩:=JP x;have b:=r.length;have B:=mU
 have g :Inv X pins σ (upd H p (.lst (xs.set j v))) {s with heap:=s.heap.update p (Obj.mapSeq (·.setIfInBounds j u))}:=
  I.aA7 d ho (GC aJ n j u) (r.set w j) (by rw[List.length_set];exact hz) s.toks
 by_cases h0:0<=k
 ·have c:k.toNat=j:=by
   rw[seqIndex_of h0 f]at a;exact aK5 a
  exact PySem.W.ki_setAt ho h0 (by lia) (by rw[List.size_toArray,<-b];exact f) (by rw[c];exact⟨_,g,q⟩)
 ·have c:(k+(aJ.toArray.size:Int)).toNat=j:=by
   rw[seqIndex_neg (by lia) e]at a;rw[List.size_toArray,<-b];exact aK5 a
  exact PySem.W.ki_setBack ho (by lia) (by rw[List.size_toArray,<-b];exact e) (by lia) (by rw[c];exact⟨_,g,q⟩)
theorem zS(lo hi:Option Int)(n:Nat):(sliceBounds lo hi none n).1=((HT.dU n 0 lo:Nat):Int)/\(sliceBounds lo hi none n).2.1=((HT.dU n n hi:Nat):Int)/\(sliceBounds lo hi none n).2.2=1:=by
 refine⟨?_,?_,rfl⟩
 ·cases lo with
  | none=>simp[sliceBounds,HT.dU]
  | some i=>
   simp only[sliceBounds,HT.dU,Option.getD_none,show (1:Int) > 0 by decide,if_true];by_cases h:i<0
   ·simp only[h,if_true] <;> lia
   ·simp only[h,if_false] <;> lia
 ·cases hi with
  | none=>simp[sliceBounds,HT.dU]
  | some i=>
   simp only[sliceBounds,HT.dU,Option.getD_none,show (1:Int) > 0 by decide,if_true];by_cases h:i<0
   ·simp only[h,if_true] <;> lia
   ·simp only[h,if_false] <;> lia
theorem w9(aJ:List Value)(lo hi:Option Int):slicePick aJ.toArray lo hi none=((aJ.drop (HT.dU aJ.length 0 lo)).take (HT.dU aJ.length aJ.length hi-HT.dU aJ.length 0 lo)).toArray:=by
 obtain⟨a,b,c⟩:=zS lo hi aJ.toArray.size;unfold slicePick;rw[a,b,c];simp only[sliceRange_one,pick_run,List.size_toArray] <;> rfl
def aIf(K:aNm):V->Option Int->Option Int->Hp->VK->Prop:=λx lo hi H Q=>∃a xs,x= .ref a/\qU K H a xs/\∀p,H p=none->Q (.ref p) (upd H p (.lst (BM xs lo hi)))
theorem S4:SlR X (aIf X.K):=by
 intro pins s σ H x v g i lo hi sl Q I d hs e f h;obtain⟨a,xs,rfl,hx,q⟩:=h;cases d;obtain⟨aJ,r,ht,hz⟩:=I.list hx;have c:=r.length;refine⟨"list",_,slot_list_getitem.lookup,ht.isList.typeIs,?_⟩;refine wpAny_getItem_list_slice ht.isList hs e f .none (by simp) ?_ (by rw[List.size_toArray] <;> lia);rw[w9,<-c];refine⟨.ref s.heap.objs.size,_,I.laid (t' :=s.toks) (o:= .lst (BM xs lo hi)) (λb ob q=>aJp _ q) (aJq _) ?_,rfl,q _ (I.b9.fresh (aJq _))⟩;exact⟨aKe (tE xs lo hi) hz,_,0,(r.drop (HT.dU xs.length 0 lo)).take (HT.dU xs.length xs.length hi-HT.dU xs.length 0 lo),aJv _ rfl⟩
theorem BQ:cB X (.builtin "len") (λxs H Q=>∃p b,xs=[.ref p]/\(qU X.K H p b\/tQ X.K H p b)/\Q (.int b.length) H):=by
 intro pins s σ H xs us Q I r h;obtain⟨p,b,rfl,hq,q⟩:=h;obtain⟨u,rfl,e⟩:=vals1 r;cases e;have f:=mU;rcases hq with hq | hq
 ·obtain⟨aJ,c,d,hz⟩:=I.list hq;have a:=c.length;exact Calls.call_len_list d.isList (by simp only[List.size_toArray] <;> lia) ⟨.int b.length,H,I.tok _,⟨s.toks+1,by rw[List.size_toArray,a]⟩,q⟩
 ·obtain⟨aJ,c,d,hz⟩:=I.tuple hq;have a:=c.length;exact len_tuple d (by simp only[List.size_toArray] <;> lia) ⟨.int b.length,H,I.tok _,⟨s.toks+1,by rw[List.size_toArray,a]⟩,q⟩
theorem BP:cB X (.builtin "len") (λxs H Q=>∃z,xs=[.str z]/\z.length<=sizeLine/\Q (.int z.length) H):=by
 intro pins s σ H xs us Q I r h;obtain⟨z,rfl,hz,q⟩:=h;obtain⟨u,rfl,t,rfl⟩:=vals1 r;have a:=mU;exact len_str (by lia) ⟨.int z.length,H,I.tok _,⟨_,rfl⟩,q⟩
theorem jU:cB X (.type "tuple") (λxs H Q=>∃p a,xs=[.ref p]/\((qU X.K H p a/\∀l,H l=none->Q (.ref l) (upd H l (.tup a)))\/(tQ X.K H p a/\Q (.ref p) H))):=by
 intro pins s σ H xs us Q I r h;obtain⟨p,a,rfl,h⟩:=h;obtain⟨u,rfl,j⟩:=vals1 r;cases j
 rcases h with ⟨c,q⟩ | ⟨c,q⟩
 ·obtain⟨aJ,d,f,hz⟩:=I.list c;have g:=d.length;refine call_tuple_list f.isList (λh' kp=>?_) (by simp only[List.size_toArray] <;> lia);have i:Inv X pins σ H {s with heap:=h'}:=I.kept (t' :=s.toks) kp
  have k:Inv X pins σ (upd H h'.objs.size (.tup a)) {s with heap:=h'.push {cls:= .type "tuple",data:= .seq aJ.toArray}}:=
   i.laid (t' :=s.toks) (λb o e=>aJp _ e) (aJq _) (show cL X.prog X.w _ _ _ (.tup a) from ⟨hz,aJ,d,IsTup.new _ _,zR _ _⟩)
  exact⟨.ref h'.objs.size,_,k,rfl,q _ (i.b9.fresh (aJq _))⟩
 ·obtain⟨aJ,d,f,hz⟩:=I.tuple c;exact call_tuple_same f ⟨.ref p,H,I,rfl,q⟩
def tyV(K:aNm)(T:String)(x:V)(H:Hp):Prop:=match x with
 | .str _=>T= "str"
 | .int _=>T= "int"
 | .ref p=>(T= "list"/\∃xs,qU K H p xs)\/(T= "tuple"/\∃xs,tQ K H p xs)\/
   (T= "dict"/\((∃kvs,H p=some (.dK kvs))\/∃kvs,H p=some (.dT kvs)))\/(T= "set"/\∃S n,H p=some (.set S n))
 | _=>False
theorem X9{σ:St}{H:Hp}{T:String}{x:V}{v:Value}(I:Inv X pins σ H s)(r:RelV x v)(ty:tyV X.K T x H):
  s.TypeIs v T/\∀a,v= .ref a->∃ob,s.heap.get? a=some ob/\ob.dict=none:=by
 cases x with
 | str z=>
  obtain⟨t,rfl⟩:=r;cases (show T= "str" from ty);exact⟨typeIs_str s z t,λ_ e=>nomatch e⟩
 | int i=>
  obtain⟨t,rfl⟩:=r;cases (show T= "int" from ty);exact⟨typeIs_int s i t,λ_ e=>nomatch e⟩
 | ref p=>
  cases r
  rcases ty with ⟨rfl,xs,f⟩ | ⟨rfl,xs,f⟩ | ⟨rfl,b⟩ | ⟨rfl,S,n,b⟩
  ·obtain⟨aJ,_,g,_⟩:=I.list f;refine⟨g.isList.typeIs,λa e=>?_⟩;cases e;obtain⟨o,n,e,c,hd,_⟩:=g;exact⟨o,e,hd⟩
  ·obtain⟨o,h,d,j⟩:=I.YB f;refine⟨⟨o,h,d⟩,λa e=>?_⟩;cases e;exact⟨o,h,j⟩
  ·have z:∃o,s.heap.get? p=some o/\o.ExactDict:=by
    rcases b with ⟨kvs,b⟩ | ⟨kvs,b⟩
    ·obtain⟨_,_,_,_,o,_,_,e,ex,_⟩:=I.b9 p _ b;exact⟨o,e,ex⟩
    ·obtain⟨_,_,_,_,o,_,_,e,ex,_⟩:=I.b9 p _ b;exact⟨o,e,ex⟩
   obtain⟨o,e,ex⟩:=z;refine⟨⟨o,e,ex.1⟩,λa d=>?_⟩;cases d;exact⟨o,e,ex.2.1⟩
  ·obtain⟨o,_,_,_,e,ex,_⟩:=I.b9 p _ b;refine⟨⟨o,e,ex.1⟩,λa d=>?_⟩;cases d;exact⟨o,e,ex.2.1⟩
 | _=>exact False.elim ty
def tBM(K:aNm)(T:String)(r:V->List V->Hp->VK->Prop)(to:TE)(t:TA):TE:=λσ H Q=>to σ H λx a=>tyV K T x a/\t σ a λxs b=>r x xs b Q
variable {o e:Expr}{es:List Expr}{to:TE}{t:TA}{name:Str}{apos dH:Pos}{T id:String}{r:V->List V->Hp->VK->Prop}
theorem aEc(pa:PlainAttrs T)(slot:Slot T name id)(i:typeOf (.builtin id)=pure (.type "method_descriptor"))(hm:MtR X id r)(ho:PE X o to)(ha:PA X (e::es) t)
  (b:attributeBase o name X.env (eval o X.env)=eval o X.env:=by rfl)
  (d:((backTo dH (starEach (e::es) X.env)).all (λx=>!x.1) && (backToKw dH (keywordEach [] X.env)).all (λx=>x.1.isSome)
   && decide ((e::es).length+([]:List Keyword).length+(if ([]:List Keyword).isEmpty then 0 else 1)<30))=true:=by rfl)
  (c:(apos.endLine==dH.line)=true:=by rfl) (hs:starEach (e::es) X.env=(false,eval e X.env)::starEach es X.env:=by rfl) (a:(backTo dH (starEach es X.env)).any (·.1)=false:=by rfl):
  PE X (.Call (.Attribute o name apos) (e::es) [] dH) (tBM X.K T r to t):=by
 intro pins s σ H Q I h;refine wpAny_Call_method_late b d c rfl (c8 (ho pins s σ H _ I h) λv s1 f=>?_);obtain⟨x,m,j,k,ty,n⟩:=f;obtain⟨p,q⟩:=X9 j k ty;refine⟨T,id,pa,slot,i,p,q,?_⟩;have l:=ha dH pins s1 σ m _ j n;rw[hs]at l⊢;refine aMp (by show (false || (backTo dH (starEach es X.env)).any (·.1))=false;rw[a] <;> rfl) (aMy ?_);exact c8 l λus s2 g=>by obtain⟨vs,u,w,y,z⟩:=g;exact hm pins s2 σ u x vs v us Q w k y z
end
def MtM(X:Cx)(id:String)(r:V->List V->Hp->VK->Prop):Prop:=
 ∀(pins:List (Addr×Obj)) (s:Shared) (σ:St) (H:Hp) (x:V) (xs:List V) (v:Value) (us:List Value) (Q:VK),Inv X pins σ H s->RelV x v->Vals xs us->r x xs H Q->
  wpAny (model X.prog X.w) X.A (call (.builtin id) (v::us)) (EP X pins σ Q) X.xe s
theorem Vals.one:∀{x:V} {us:List Value},Vals [x] us->∃u,us=[u]/\RelV x u
 | _,_,.cons r .nil=>⟨_,rfl,r⟩
theorem Vals.zero:∀{us:List Value},Vals [] us->us=[]
 | _,.nil=>rfl
theorem Vals.dropLast{xs:List V}{us:List Value}(h:Vals xs us):Vals xs.dropLast us.dropLast:=by
 induction h with
 | nil=>exact .nil
 | cons r t ih=>
  cases t with
  | nil=>exact .nil
  | cons q t' =>exact .cons r ih
theorem Vals.eraseIdx:∀{xs:List V} {us:List Value} (i:Nat),Vals xs us->Vals (xs.eraseIdx i) (us.eraseIdx i)
 | _,_,_,.nil=>.nil
 | _,_,0,.cons _ t=>t
 | _,_,i+1,.cons r t=>.cons r (Vals.eraseIdx i t)
theorem G1(l:List α):l.eraseIdx (l.length-1)=l.dropLast:=by
 induction l with
 | nil=>rfl
 | cons a r ih=>
  cases r with
  | nil=>rfl
  | cons b r=>
   have e:(a::b::r).length-1=((b::r).length-1)+1:=by
    have c:(a::b::r).length=r.length+2:=rfl;have d:(b::r).length=r.length+1:=rfl
    lia
   rw[e,List.eraseIdx_cons_succ,ih]
   all_goals rfl
theorem yM{α:Type}:∀(l:List α) (i:Nat),(l.eraseIdx i).length<=l.length
 | [],_=>aJq _
 | _::_,0=>aMz _
 | _::r,i+1=>Nat.succ_le_succ (yM r i)
section
variable {X:Cx}{pins:List (Addr×Obj)}{σ:St}{H:Hp}{s:Shared}{l b:Addr}{xs ys zs:List V}
theorem Inv.UX{aJ its' :List Value}{f:Array Value->Array Value}{t' :Nat}(I:Inv X pins σ H s)(a:H l=some (.lst xs))
  (e:s.heap.get? l=some {cls:= .type "list",data:= .seq aJ.toArray n}) (b:f aJ.toArray=its'.toArray) (c:Vals ys its') (hz:ys.length<=sizeLine):
  Inv X pins σ (upd H l (.lst ys)) {s with heap:=s.heap.update l (Obj.mapSeq f),toks:=t'}:=by
 have q:=PySem.IsL.update e f;rw[b]at q;refine I.write (x:=l) (e:=l) (by rw[a];exact trivial) (.inl rfl) (λg u hb d=>(aL1 s.heap (Obj.mapSeq f) (aL4 hb)).trans d) ⟨_,q⟩ ?_;exact⟨hz,its',_,c,q⟩
theorem Inv.aIu{aJ:List Value}{t' :Nat}(I:Inv X pins σ H s)(a:Vals ys aJ)(hz:ys.length<=sizeLine):
  Inv X pins σ (upd H s.heap.objs.size (.lst ys)) {s with heap:=s.heap.push {cls:= .type "list",data:= .seq aJ.toArray},toks:=t'}:=
 I.laid (λ_ _ q=>aJp _ q) (aJq _) ⟨hz,aJ,0,a,aJv _ rfl⟩
theorem Inv.fresh(I:Inv X pins σ H s):H s.heap.objs.size=none:=I.b9.fresh (aJq _)
theorem Inv.GG(I:Inv X pins σ H s)(a:H l=some (.lst xs)):xs.length<=sizeLine/\∃(aJ:List Value) (n:Nat),Vals xs aJ/\xs.length=aJ.length/\s.heap.get? l=some {cls:= .type "list",data:= .seq aJ.toArray n}:=by
 obtain⟨z,aJ,n,r,e⟩:=I.b9 l _ a;exact⟨z,aJ,n,r,r.length,e⟩
theorem OU(h:n<=sizeLine):Builtin.List.listTooLong n=false:=by
 unfold Builtin.List.listTooLong;exact aL3 (by lia)
end
section
variable {X:Cx}
def TH:V->List V->Hp->VK->Prop:=λx vs H Q=>∃l xs y,x= .ref l/\vs=[y]/\H l=some (.lst xs)/\xs.length<sizeLine/\Q .bY (upd H l (.lst (xs++[y])))
theorem yJ:MtM X "list.append" TH:=by
 intro pins s σ H x vs v us Q I b c h;obtain⟨l,xs,y,rfl,rfl,a,hz,q⟩:=h;cases b;obtain⟨u,rfl,d⟩:=c.one;obtain⟨z,aJ,n,r,f,e⟩:=I.GG a;refine call_meets F.slot_list_append ⟨_,e,rfl⟩ F.entry_list_append (F.args_list_append_2 _ _) (PySem.list_append l aJ.toArray n u (by rw[List.size_toArray];lia)) ⟨e,?_⟩;refine⟨.bY,_,I.UX (its' :=aJ++[u]) a e (by simp) (r.append (.cons d .nil)) ?_,rfl,q⟩;rw[List.length_append,List.length_singleton]
 lia
def TF:V->List V->Hp->VK->Prop:=λx vs H Q=>∃l b xs a,x= .ref l/\vs=[.ref b]/\H l=some (.lst xs)/\H b=some (.lst a)/\xs.length+a.length<=sizeLine/\Q .bY (upd H l (.lst (xs++a)))
theorem aCo:MtM X "list.extend" TF:=by
 intro pins s σ H x vs v us Q I f g h;obtain⟨l,b,xs,t,rfl,rfl,d,i,hz,q⟩:=h;cases f;obtain⟨u,rfl,j⟩:=g.one;cases j;obtain⟨z,aJ,n,r,w,e⟩:=I.GG d;obtain⟨y,a,k,m,o,p⟩:=I.GG i;have hsz:aJ.toArray.size+a.toArray.size<=sizeLine:=by rw[List.size_toArray,List.size_toArray];lia
 have c:¬(!aJ.toArray.isEmpty && Builtin.List.listTooLong (aJ.toArray.size+a.toArray.size))=true:=by
  rw[OU hsz,Bool.and_false];exact aN4
 refine call_meets F.slot_list_extend ⟨_,e,rfl⟩ F.entry_list_extend (F.args_list_extend_2 _ _)
  (AutoSeq1.list_extend_list_list_0 l aJ.toArray n b a.toArray k c (by rw[List.size_toArray];lia) (by lia)) ⟨e,p,?_⟩
 refine⟨.bY,_,I.UX (its' :=aJ++a) d e (by simp) (r.append m) ?_,rfl,q⟩;rw[List.length_append]
 lia
def aIg:V->List V->Hp->VK->Prop:=λx vs H Q=>∃l xs y,x= .ref l/\vs=[]/\H l=some (.lst xs)/\xs[xs.length-1]? =some y/\Q y (upd H l (.lst xs.dropLast))
theorem aIo:MtM X "list.pop" aIg:=by
 intro pins s σ H x vs v us Q I d f h;obtain⟨l,xs,y,rfl,rfl,c,g,q⟩:=h;cases d;have a:=f.zero;subst a;obtain⟨z,aJ,n,r,i,e⟩:=I.GG c;obtain⟨u,j,k⟩:=r.get g
 have b :aJ.toArray[aJ.toArray.size-1]? =some u:=by
  show aJ.toArray[aJ.length-1]? =some u;rw[<-Array.getElem?_toList,<-i];exact j
 refine call_meets F.slot_list_pop ⟨_,e,rfl⟩ F.entry_list_pop (F.args_list_pop_1 _) (MeetsSeq.list_pop_last l aJ.toArray n u b (by rw[List.size_toArray];lia)) ⟨e,?_⟩;refine⟨y,_,I.UX (its' :=aJ.dropLast) c e ?_ r.dropLast ?_,k,q⟩
 ·show aJ.toArray.eraseIdxIfInBounds (aJ.toArray.size-1)=aJ.dropLast.toArray;rw[List.size_toArray,List.eraseIdxIfInBounds_toArray,G1]
 ·rw[List.length_dropLast]
  lia
def Y0:V->List V->Hp->VK->Prop:=λx vs H Q=>∃l xs i k y,x= .ref l/\vs=[.int i]/\H l=some (.lst xs)/\ -(2^63)<=i/\i<2^63/\seqIndex? i xs.length=some k/\xs[k]? =some y/\Q y (upd H l (.lst (xs.eraseIdx k)))
theorem O7:MtM X "list.pop" Y0:=by
 intro pins s σ H x vs v us Q I c d h;obtain⟨l,xs,i,k,y,rfl,rfl,b,f,g,j,m,q⟩:=h;cases c;obtain⟨u,rfl,o⟩:=d.one;obtain⟨t,rfl⟩:=o;obtain⟨z,aJ,n,r,p,e⟩:=I.GG b;obtain⟨w,A,a⟩:=r.get m
 refine call_meets F.slot_list_pop ⟨_,e,rfl⟩ F.entry_list_pop (F.args_list_pop_2 _ _)
  (MeetsSeq.list_pop_at l aJ.toArray n i t k w (fitsIndex_both f g) (by rw[List.size_toArray,<-p];exact j) (by rw[<-Array.getElem?_toList];exact A) (by rw[List.size_toArray];lia)) ⟨e,?_⟩
 refine⟨y,_,I.UX (its' :=aJ.eraseIdx k) b e ?_ (r.eraseIdx k) ?_,a,q⟩
 ·show aJ.toArray.eraseIdxIfInBounds k=(aJ.eraseIdx k).toArray;rw[List.eraseIdxIfInBounds_toArray]
 ·have:=yM xs k
  lia
def aIk:R2:=λx y H Q=>∃l b xs a,x= .ref l/\y= .ref b/\H l=some (.lst xs)/\H b=some (.lst a)/\xs.length+a.length<=sizeLine/\∀p,H p=none->Q (.ref p) (upd H p (.lst (xs++a)))
theorem ZR:gE X (binaryOp .Add) aIk:=by
 intro pins s σ H x y v u Q I c d h;obtain⟨l,b,xs,o,rfl,rfl,f,g,hz,q⟩:=h;cases c;cases d;obtain⟨z,aJ,n,r,p,e⟩:=I.GG f;obtain⟨t,a,w,i,j,k⟩:=I.GG g;refine PySem.P.add_list e k ?_ (by rw[List.size_toArray,List.size_toArray];lia);have m:aJ.toArray++a.toArray=(aJ++a).toArray:=by simp
 rw[m];exact⟨.ref _,_,I.aIu (t' :=s.toks) (r.append i) (by rw[List.length_append];lia),rfl,q _ I.fresh⟩
end
end L2
namespace Att
open PySem PySem.W PySem.Calls PyProof.Rows
theorem tJ{P:Params}{h:Heap}:∀(ns:List Int) (vs:List Value),WellAll P h vs (ns.map WData.int)->IntsAre vs ns:=by
 intro ns
 induction ns with
 | nil=>
  intro vs w;rw[List.map_nil]at w;cases w;exact .nil
 | cons n ns ih=>
  intro vs w;rw[List.map_cons]at w
  cases w with
  | cons a b=>
   cases a;exact .cons _ _ (ih _ b)
theorem KU{l:OpenLaw}{n:Nat}(m:l.most=some n){P:Params}{h:Heap}{args:List WData}{vals:List Value}
  (b:l.row.toRowW.claim.pre args=true) (i:WellAll P h vals args):
  ∃a vs ns,vals=[Value.ref a]/\args=[WData.list (ns.map WData.int)]/\h.get? a=some {cls:= .type "list",data:= .seq vs.toArray}/\IntsAre vs ns/\ns.length<=n:=by
 have j:WShape.hasAll [] args [.list .int]=true:=(pre_splitW b).1;have k:l.pre.holds [] {args:=args}=true:=(pre_splitW b).2;obtain⟨d,r,rfl,o,p⟩:=hasAllW_cons j;obtain rfl:=hasAllW_nil p;obtain⟨xs,rfl,s⟩:=hasW_list o;obtain⟨ns,rfl⟩:=items_int s
 have c:ns.length<=n:=by
  unfold OpenLaw.pre at k
  have f:(WTm.not (.lt (.lit (.int (n:Int))) (.len (.arg 0)))).holds [] {args:=[.list (ns.map .int)]}=true:=by
   have f:=(holds_andW k).1;rw[m]at f;exact f
  have g:=condW_of f (w_not (w_lt w_lit (w_len_list (w_arg rfl))));rw[List.length_map]at g;refine aM6 λq=>?_;have q' :(n:Int)<((ns.length:Nat):Int):=by lia
  first
   | (rw[decide_eq_true q']at g;exact absurd g (by decide))
   | (simp at g;lia)
 cases i with
 | cons t u=>
  cases u
  cases t with
  | list ho e=>exact⟨_,_,ns,rfl,rfl,ho,tJ ns _ e,c⟩
theorem KZ(l:OpenLaw)(args:List WData):l.row.toRowW.claim.post args (.bool true) args=true:=
 postW_of (r:=l.row.toRowW) (X:=(true==true))
  (show WShape.has [] (.bool true) .bool=true by first | rfl | decide | simp[WShape.has,WShape.arms,WShape.armsAll])
  (show (WTm.eq .res (.lit (.bool true))).value [] {args:=args,res:=some (.bool true),after:=args}=some (.bool (true==true)) from w_eq_bool (w_res rfl) w_lit) rfl
theorem E3{l:OpenLaw}{n:Nat}{q:Program}{loose:List Str}{XP:(aNp)->Heap->Prop}{u:World->Heap->Prop}{d:DefRec}
  (y:l.most=some n) (m:d.params.defaults=[])
  (call:∀(w:World) (s₀ b:Shared) (mg mb:aNp) (e:Addr) (o:Obj) (pm j doc:Value) (a:Addr) (vs:List Value) (ns:List Int),
   Ground q loose [] XP w s₀ mg mb b.heap->u w b.heap->
   b.heap.get? e=some o->o.data= .func (docDef d.name d.params d.body d.scope pm j doc)->b.heap.CodeRec j d.name->mg d.name=some (.ref e)->
   b.heap.get? a=some {cls:= .type "list",data:= .seq vs.toArray}->IntsAre vs ns->ns.length<=n->b.gens= #[]->
   codeAny (model l.prog w) callerA (.call (.ref e) ⟨[.ref a],[]⟩) (λr k =>r= .ok (.ret (.bool true))/\OldK b.heap k.heap/\k.os=b.os/\AllBare k.gens) b):
  WalkO q loose XP u l.row.toRowW d [] (λf vs=>PySem.call f vs):=by
 intro w s₀ b mg mb G Y e o pm j doc z kV ho hd p v s hg args vals as g x A t B;obtain rfl:z= .none:=Dflts.none v m;obtain rfl:kV= .none:=Dflts.noKw v;obtain⟨a,vs,ns,rfl,rfl,h,c,i⟩:=KU y g t;refine enter_call (aMm (call w s₀ b mg mb e o pm j doc a vs ns G Y ho (fd_plain hd) p s h c i hg) λr k C=>?_);obtain⟨rfl,D,E,F⟩:=C;exact⟨.inl ⟨.bool true,.bool true,[],rfl,λ_=>rfl,.bool true,KZ l _,λ_=>⟨List.Pairwise.nil,λ_ hm=>(nomatch hm)⟩⟩,D,E,F⟩
end Att
namespace L2
open PySem PySem.Spec PyProof.Rows
theorem x6:∀{vs:List Value} {ns:List Int},IntsAre vs ns->Vals (ns.map V.int) vs
 | _,_,.nil=>.nil
 | _,_,.cons n t h=>.cons ⟨t,rfl⟩ (x6 h)
def WW(H:Hp):Prop:=∀b,H b=none\/∃o xs,H b=some (.frz o (.lst xs))
variable{fd:FuncData}{x:Str}
theorem QB{P:Program}{w:World}{K:aNm}{mg mb:aNp}{CX:M9}{k:Nat}{D a:Addr}{sp:Sp}{c:Shared}{vs:List Value}{ns:List Int}
  (KX:K.In c.heap) (p:c.heap.Ns mainGlobals mg) (hb:c.heap.Ns builtinsNs mb) (E:∀x:Str,x≠ "__name__"->mb x=bootBuiltins x) (t:c.heap.NoLimit) (hg:c.gens= #[])
  (ha:c.heap.get? a=some {cls:= .type "list",data:= .seq vs.toArray}) (hi:IntsAre vs ns) (M:ns.length<=sizeLine) (S:gL k callerA)
  (F:∀base:Heap,K.In base->base.Ns mainGlobals mg->kP P w K mg base CX k D fd [x] sp) (l:∀(s:Shared) (u:Value),BindsTo s fd ⟨[u],[]⟩ [(x,u)])
  (G:∀H:Hp,WW H->qU K H a (ns.map V.int)->sp [.ref a] H (λv _=>v= .bl true) λ_ _ _=>False)
  (I:∀H e g,CX [] H c (λ_ _ _=>False) e g ->False):
  codeAny (model P w) callerA (.call (.ref D) ⟨[.ref a],[]⟩) (λr g =>r= .ok (.ret (.bool true))/\OldK c.heap g.heap/\g.os=c.os/\AllBare g.gens) c:=by
 have N:=x6 hi;have y:=hi.length
 have j:∀H:Hp,WW H->qU K H a (ns.map V.int)->qW P w H c.heap->(∀b,H b≠none->b=a)->(H a≠none->K.lookup a=none)->
   codeAny (model P w) callerA (.call (.ref D) ⟨[.ref a],[]⟩) (λr g =>r= .ok (.ret (.bool true))/\OldK c.heap g.heap/\g.os=c.os/\AllBare g.gens) c:=by
  intro H O T b9 Q U;have f:∀{b:Addr} {o:Obj},c.heap.get? b=some o->H b=none->(A4 c.heap H).get? b=some o:=λe n=>QN e n
  have J:∀{b:Addr} {o:Obj} {es:Array DictEntry} {ep:Nat},c.heap.get? b=some o->o.data= .dict es ep->H b=none:=λ{b o es ep} e d=>by
   cases q:H b with
   | none=>rfl
   | some u=>
    have L :b=a:=Q b (by rw[q];simp);subst L;rw[ha]at e;cases e;have d' :Data.seq vs.toArray _=Data.dict es ep:=d;cases d'
  have i:∀{b:Addr} {m:aNp},c.heap.Ns b m->(A4 c.heap H).Ns b m:=λ{b m} ⟨o,es,ep,e,d,r⟩=>⟨o,es,ep,f e (J e d),d,r⟩
  have A:K.In (A4 c.heap H):=λb o e=>f (KX b o e) (by
   cases q:H b with
   | none=>rfl
   | some u=>
    have L :b=a:=Q b (by rw[q];simp);subst L
    rw[U (by rw[q];simp)]at e;cases e)
  have W:Mod K mg (A4 c.heap H):=⟨A,i p,⟨mb,i hb,E⟩,let ⟨mc,h1,h2⟩:=t;⟨mc,i h1,h2⟩⟩
  have X:WZ P w K mg (A4 c.heap H) callerA [] c H:=⟨rfl,W,λb o e=>UK e,Nat.le_of_eq (L0 _ _),trivial,λb hb=>absurd (show b∈([]:List Addr) from hb) (by simp),b9,.of_eq hg⟩
  refine aMm ((F _ A (i p)).run callerA [] c H ⟨[.ref a],[]⟩ [.ref a] [.ref a] _ _ S X (l c (.ref a)) (.cons rfl .nil) (G H O T)) λr g h=>?_
  cases r with
  | error e=>exact(I H e g h).elim
  | ok fl=>
   cases fl with
   | next=>exact False.elim h
   | brk=>exact False.elim h
   | cont=>exact False.elim h
   | ret u=>
    obtain⟨v,H',os,bare,un,B,Y,q⟩:=h;have q' :v= .bl true:=q;subst q';obtain rfl:u=Value.bool true:=Y;refine⟨rfl,OldK.of_keep λb o e=>?_,os,bare⟩
    cases q:H b with
    | none=>exact un.keep b o e q (by intro z;exact absurd (show b∈([]:List Addr) from z) (by simp)) (by simp)
    | some u=>
     rcases O b with z | ⟨ob,xs,z⟩
     ·rw[q]at z;cases z
     ·have Z:=un.A9 b ob _ z;obtain⟨R,_⟩:=b9 b _ z;obtain⟨e2,_⟩:=B b _ Z;rw[e]at R;cases R;exact e2
 cases hk:K.lookup a with
 | some o=>
  have e:=KX a o hk;rw[ha]at e;cases e;refine j (λ_=>none) (λ_=>.inl rfl) (.inr ⟨_,vs.toArray,_,hk,rfl,rfl,rfl,by rw[List.size_toArray,y];exact M,by simpa using N⟩) (λb u z=>by have C :(none:Option HO)=some u:=z;cases C) (λb z=>absurd rfl z) λz=>absurd rfl z
 | none=>
  refine j (λb=>if b=a then some (.frz {cls:= .type "list",data:= .seq vs.toArray} (.lst (ns.map V.int))) else none) (λb=>?_) (.inl (.inr ⟨{cls:= .type "list",data:= .seq vs.toArray},if_pos rfl⟩)) (λb u z=>?_) (λb z=>?_) λ_=>hk
  ·by_cases hb:b=a
   ·exact .inr ⟨_,_,if_pos hb⟩
   ·exact .inl (if_neg hb)
  ·by_cases hb:b=a
   ·have C :=(if_pos hb).symm.trans z;cases C;subst hb;exact⟨ha,by rw[List.length_map];exact M,vs,_,N,ha⟩
   ·have C :=(if_neg hb).symm.trans z;cases C
  ·by_cases hb:b=a
   ·exact hb
   ·exact absurd (if_neg hb) z
theorem SM{l:PySem.W.OpenLaw}{n k:Nat}{q:Program}{loose:List Str}{XP:(aNp)->Heap->Prop}{C:World->Heap->Prop}{d:DefRec}{K:Params->aNm}{CX:World->M9}{sp:World->Sp}
  (D:l.most=some n) (r:n<=sizeLine) (t:d.params.defaults=[]) (E:gL k callerA)
  (I:∀(w:World) (h:Heap),C w h->(K w.params).In h)
  (F:∀(w:World) (mg:aNp) (p:Addr) (h:Heap),(K w.params).In h->h.Ns mainGlobals mg->mg d.name=some (.ref p)->
   ∃fd:FuncData,(∀(s:Shared) (u:Value),BindsTo s fd ⟨[u],[]⟩ [(x,u)])/\
    ∀base:Heap,(K w.params).In base->base.Ns mainGlobals mg->kP l.prog w (K w.params) mg base (CX w) k p fd [x] (sp w))
  (y:∀(w:World) (H:Hp) (a:Addr) (ns:List Int),ns.length<=n->WW H->qU (K w.params) H a (ns.map V.int)->sp w [.ref a] H (λv _=>v= .bl true) λ_ _ _=>False)
  (z:∀(w:World) (H:Hp) (s:Shared) (e:Value) (A :Shared),CX w [] H s (λ_ _ _=>False) e A ->False):
  PySem.W.WalkO q loose XP C l.row.toRowW d [] (λf vs=>PySem.call f vs):=by
 refine Att.E3 D t λw s₀ j mg mb p o pm O doc a vs ns G Y ho hd J B m i c hg=>?_;have KX:=I w _ Y;obtain⟨fd,hb,L⟩:=F w mg p _ KX G.T.g B;exact QB KX G.T.g G.T.b G.T.builtins G.T.nolimit hg m i (aKe c r) E L hb (λH M N=>y w H a ns c M N) λH e A =>z w H j e A
def eN(s:Stmt):Arguments:=match s with
 | .FunctionDef _ a _ _ _ _ _ _ _ _=>a
 | _=>{posonlyargs:=[],args:=[],vararg:=none,kwonlyargs:=[],kw_defaults:=[],kwarg:=none,defaults:=[]}
def cG(s:Stmt):List Stmt:=match s with
 | .FunctionDef _ _ b _ _ _ _ _ _ _=>b
 | _=>[]
def aE(s:Stmt):Scope:=match s with
 | .FunctionDef _ _ _ _ _ _ sc _ _ _=>sc
 | _=>{kind:= .function,names:=[],isGenerator:=false,isCoroutine:=false}
abbrev FE:M9:=λ_ _ _ _ _ _=>False
abbrev E0:XK:=λ_ _ _=>False
theorem aEe{X:Cx}:Passes FE X E0:=λ_ _ _ _ _ _ _ h=>h.elim
structure Fun(K:aNm)(x qual:Str)(st:Stmt)(f:Addr)(fd:FuncData):Prop where
 ex:∃(oc:Value) (od:Option Addr) (kV doc pm:Value) (an:Option Addr) (cdv ct:Value) (osl:Array (Option Value)),
  fd=PySem.W.fnOf x qual (eN st) (cG st) (aE st) .none kV doc pm an cdv ct/\K.lookup f=some ⟨oc,od,.func fd,osl⟩/\PySem.W.codeIn K cdv qual=true
 kp:PySem.W.keepIn K (.ref f)=true
section
variable {P:Program}{w:World}{K:aNm}{mg:aNp}{base:Heap}
theorem Fun.ok{x qual:Str}{st:Stmt}{f:Addr}{N ps:List Str}{k:Nat}{sp:Sp}(F:Fun K x qual st f fd)(S:aN N ps (aE st))(len:∀vs H Q E,sp vs H Q E->vs.length=ps.length)
  (a:∀(cdv:Value) (A:Around) (outer:List Env) (s:Shared) (H:Hp) (vs:List V) (Q:VK) (E:XK),gL k (A.deeper (envOfC qual (aE st) s.heap.objs.size f cdv))->sp vs H Q E->
   ∃t,B2 (wG FE P w K mg base N qual (aE st) f cdv A outer s H E).UL (cG st) t/\t {nx:=λ_ H' =>Q .bY H',rt:=Q} (start N vs) H):kP P w K mg base FE (k+1) f fd ps sp:=by
 obtain⟨oc,od,kV,doc,pm,an,cdv,ct,osl,rfl,d,b⟩:=F.ex;refine aFp d b S len λA outer s H vs Q E e c=>?_;obtain⟨t,h,q⟩:=a cdv A outer s H vs Q E e c;exact⟨t,h.UL,q⟩
theorem Fun.binds{x qual:Str}{st:Stmt}{f:Addr}{ps:List Str}(F:Fun K x qual st f fd)
  (h:∀(kV doc pm:Value) (an:Option Addr) (cdv ct:Value) (us:List Value),us.length=ps.length->bindArgs (PySem.W.fnOf x qual (eN st) (cG st) (aE st) .none kV doc pm an cdv ct) ⟨us,[]⟩=pure (ps.zip us)):Binds K fd ps []:=by
 obtain⟨oc,od,kV,doc,pm,an,cdv,ct,osl,rfl,b,a⟩:=F.ex;exact .all (h kV doc pm an cdv ct)
theorem GY{x qual:Str}{st:Stmt}{f:Addr}{oc:Value}{od an:Option Addr}{osl:Array (Option Value)}{kV doc pm cdv ct:Value}(l:K.lookup f=some ⟨oc,od,.func (PySem.W.fnOf x qual (eN st) (cG st) (aE st) .none kV doc pm an cdv ct),osl⟩)
  (c:PySem.W.codeIn K cdv qual=true) (k:PySem.W.keepIn K (.ref f)=true):Fun K x qual st f (PySem.W.fnOf x qual (eN st) (cG st) (aE st) .none kV doc pm an cdv ct):=⟨⟨oc,od,kV,doc,pm,an,cdv,ct,osl,rfl,l,c⟩,k⟩
end
theorem KS{n:Nat}(h:n<=1000):n<sizeLine:=Nat.lt_of_le_of_lt h (by decide)
end L2
namespace D3
open PySem PySem.Spec PyProof.Rows L2 PySem.Calls
noncomputable def kE(P:Params)(x:Str)(t:Tok)(v:Value):DictEntry:=⟨PyData.keyHash P x,.str x t,v⟩
noncomputable def kF(x:Str)(st:Stmt)(m:Value)(c:Addr)(d:Value:= .none):Obj:=⟨.type "function",none,.func (PySem.W.fnOf x x (eN st) (cG st) (aE st) d .none .none m none (.ref c) .none),#[]⟩
noncomputable def kC(x:Str)(t:Nat)(l n:Int)(T c:Nat)(u v:Value:= .none)(k:Nat:=3):Obj:=
 ⟨.type "code",none,.fields #[.str x t,.str x (t+1),.str "/claim/cut.py" (t+2),.int l 0,.int n 0,.int 0 0,.int 0 0,.int 3 0,.ref (c-k),.bool true,.int 181 0,.ref (c-k+1),.none,u,v,.ref (c-1),.int T 0,.int l 0,.str "/claim/cut.py" (T+1)],#[]⟩
noncomputable def kD(x:Str)(t:Nat)(l n:Int)(T c:Nat):Obj:=kC x t l n T c (.ref (c-3)) (.ref (c-2)) 5
noncomputable def kQ(p:Program)(ks:List Nat):Program:={p with main:={p.main with body:=ks.filterMap λi=>p.main.body[i]?}}
end D3
namespace K40
open PySem PySem.Spec PyProof.Rows L2 D3
def top(i:Nat):Stmt:=PySem.Challenge.pw_maskwright_k40_one_renamed.main.body.getD i (.Pass ⟨0,0,0,0⟩)
abbrev fZ:Stmt:=top 7
abbrev cW:Stmt:=top 8
abbrev cX:Stmt:=top 9
abbrev iL:Stmt:=top 10
abbrev dC:Stmt:=top 11
abbrev d7:Stmt:=top 12
abbrev fY:Stmt:=top 13
abbrev d9:Stmt:=top 14
abbrev f6:Stmt:=top 15
abbrev fA:Stmt:=top 16
abbrev d8:Stmt:=top 17
abbrev cE:Stmt:=top 18
abbrev dB:Stmt:=top 19
abbrev iK:Stmt:=top 20
abbrev mL:Stmt:=top 21
abbrev pU:Stmt:=top 22
abbrev f7:Stmt:=top 24
abbrev fC:Stmt:=top 25
abbrev dE:Stmt:=top 26
abbrev eC:Stmt:=top 27
abbrev dD:Stmt:=top 28
abbrev fD:Stmt:=top 29
abbrev cY:Stmt:=top 30
abbrev eA:Stmt:=top 31
abbrev eB:Stmt:=top 32
abbrev fB:Stmt:=top 33
abbrev eD:Stmt:=top 34
abbrev uQ:Stmt:=top 35
noncomputable def m0:Value:= .str "maskwright.alike" 223
noncomputable def m1:Value:= .str "law_maskwright_k40_one_renamed" 360
noncomputable def kk:Params->W.Frag:=λP=>(nat_lit 3,⟨.type "dict",none,.dict #[kE P "__name__" 165 (.str "law_maskwright_k40_one_renamed" 360),kE P "__doc__" 166 .none,kE P "__package__" 167 .none,kE P "__loader__" 168 (.builtin "__main__.__loader__#opaque"),kE P "__spec__" 169 .none,kE P "__annotations__" 170 (.ref 6),kE P "__builtins__" 171 (.ref 4),kE P "__file__" 173 (.str "/claim/cut.py" 172),kE P "__cached__" 174 .none,kE P "MaskError" 206 (.ref 24),kE P "TooMuch" 222 (.ref 37),kE P "AT_GATE" 226 (.int 0 225),kE P "AT_END" 228 (.int 1 227),kE P "MOST_ALIKE" 230 (.int 8 229),kE P "numbered" 236 (.ref 44),kE P "names_by_net" 242 (.ref 49),kE P "hooks_by_net" 248 (.ref 54),kE P "telling" 261 (.ref 61),kE P "first_marks" 269 (.ref 68),kE P "next_marks" 275 (.ref 73),kE P "sides_of" 283 (.ref 80),kE P "are_parted" 290 (.ref 87),kE P "marks_on" 300 (.ref 94),kE P "with_name" 306 (.ref 99),kE P "nets_alike" 312 (.ref 104),kE P "rounds_to_part" 323 (.ref 111),kE P "is_as_great" 331 (.ref 118),kE P "weighed" 337 (.ref 123),kE P "tried" 348 (.ref 130),kE P "held" 359 (.ref 137),kE P "_law_bag" 372 (.ref 144),kE P "_law_take" 383 (.ref 151),kE P "_law_number" 390 (.ref 158),kE P "_law_order" 400 (.ref 165),kE P "_law_switch" 412 (.ref 172),kE P "_law_some" 418 (.ref 177),kE P "_law_renamed" 424 (.ref 182),kE P "_law_rings" 437 (.ref 189),kE P "_law_parts" 447 (.ref 196),kE P "_law_word" 456 (.ref 203),kE P "_law_leads" 462 (.ref 208),kE P "law" 475 (.ref 215)] 42,#[]⟩)::(nat_lit 43,kC "numbered" 231 10 1 234 43)::(nat_lit 44,kF "numbered" fZ m0 43)::(nat_lit 48,kC "names_by_net" 237 13 1 240 48)::(nat_lit 49,kF "names_by_net" cW m0 48)::(nat_lit 53,kC "hooks_by_net" 243 18 1 246 53)::(nat_lit 54,kF "hooks_by_net" cX m0 53)::(nat_lit 60,kD "telling" 249 25 2 259 60)::(nat_lit 61,kF "telling" iL m0 60)::(nat_lit 67,kD "first_marks" 262 31 2 267 67)::(nat_lit 68,kF "first_marks" dC m0 67)::(nat_lit 72,kC "next_marks" 270 33 2 273 72)::(nat_lit 73,kF "next_marks" d7 m0 72)::(nat_lit 79,kD "sides_of" 276 38 2 281 79)::(nat_lit 80,kF "sides_of" fY m0 79)::(nat_lit 86,kD "are_parted" 284 40 1 288 86)::(nat_lit 87,kF "are_parted" d9 m0 86)::(nat_lit 93,kD "marks_on" 291 42 2 298 93)::(nat_lit 94,kF "marks_on" f6 m0 93)::(nat_lit 98,kC "with_name" 301 50 3 304 98)::(nat_lit 99,kF "with_name" fA m0 98)::(nat_lit 103,kC "nets_alike" 307 55 1 310 103)::(nat_lit 104,kF "nets_alike" d8 m0 103)::(nat_lit 110,kD "rounds_to_part" 313 60 3 321 110)::(nat_lit 111,kF "rounds_to_part" cE m0 110)::(nat_lit 117,kD "is_as_great" 324 65 2 329 117)::(nat_lit 118,kF "is_as_great" dB m0 117)::(nat_lit 122,kC "weighed" 332 67 2 335 122)::(nat_lit 123,kF "weighed" iK m0 122)::(nat_lit 129,kD "tried" 338 81 4 346 129)::(nat_lit 130,kF "tried" mL m0 129)::(nat_lit 136,kD "held" 349 86 2 357 136)::(nat_lit 137,kF "held" pU m0 136)::(nat_lit 143,kD "_law_bag" 362 96 2 370 143)::(nat_lit 144,kF "_law_bag" f7 m1 143)::(nat_lit 150,kD "_law_take" 373 106 2 381 150)::(nat_lit 151,kF "_law_take" fC m1 150)::(nat_lit 157,kD "_law_number" 384 118 1 388 157)::(nat_lit 158,kF "_law_number" dE m1 157)::(nat_lit 164,kD "_law_order" 391 120 2 398 164)::(nat_lit 165,kF "_law_order" eC m1 164)::(nat_lit 171,kD "_law_switch" 401 126 3 410 171)::(nat_lit 172,kF "_law_switch" dD m1 171)::(nat_lit 176,kC "_law_some" 413 131 3 416 176)::(nat_lit 177,kF "_law_some" fD m1 176)::(nat_lit 181,kC "_law_renamed" 419 145 2 422 181)::(nat_lit 182,kF "_law_renamed" cY m1 181)::(nat_lit 188,kD "_law_rings" 425 152 2 435 188)::(nat_lit 189,kF "_law_rings" eA m1 188)::(nat_lit 195,kD "_law_parts" 438 161 2 445 195)::(nat_lit 196,kF "_law_parts" eB m1 195)::(nat_lit 202,kD "_law_word" 448 172 3 454 202)::(nat_lit 203,kF "_law_word" fB m1 202)::(nat_lit 207,kC "_law_leads" 457 176 3 460 207)::(nat_lit 208,kF "_law_leads" eD m1 207)::(nat_lit 214,kD "law" 463 182 1 473 214)::(nat_lit 215,kF "law" uQ m1 214)::[]
theorem kl:PySem.W.LeftO PySem.Challenge.rw_maskwright_k40_one_renamed.prog (D3.kQ PySem.Challenge.pw_maskwright_k40_one_renamed [1,2,4,5,6,7,8,9,10,11,12,13,14,15,16,17,18,19,20,21,22,24,25,26,27,28,29,30,31,32,33,34,35]) [] (λ_=>true) (λs=>List.map s.heap.get? [3,43,44,48,49,53,54,60,61,67,68,72,73,79,80,86,87,93,94,98,99,103,104,110,111,117,118,122,123,129,130,136,137,143,144,150,151,157,158,164,165,171,172,176,177,181,182,188,189,195,196,202,203,207,208,214,215]) (λw=>(kk w.params).map λp=>some p.2) 2710:=λ_=>by kernel_rfl
end K40
namespace L2
open PySem PySem.Spec PyProof.Rows
section
variable {κ:Type}[DecidableEq κ]
def rA(kvs:List (κ×V))(k:κ):Option V:=(kvs.find? λa=>decide (a.1=k)).map (·.2)
def putK(kvs:List (κ×V))(k:κ)(v:V):List (κ×V):=
 if (kvs.any λa=>decide (a.1=k))=true then kvs.map (λa=>if a.1=k then (a.1,v) else a) else kvs++[(k,v)]
variable{r:List (κ×V)}
theorem pP{p:κ×V}{k:κ}(e:p.1=k):rA (p::r) k=some p.2:=by simp[rA,List.find?_cons,e]
theorem pQ{p:κ×V}{k:κ}(e:¬p.1=k):rA (p::r) k=rA r k:=by simp[rA,List.find?_cons,e]
theorem CK(k:κ):∀kvs:List (κ×V),(kvs.any λa=>decide (a.1=k))=(rA kvs k).isSome
 | []=>rfl
 | p::r=>by
  rw[List.any_cons];by_cases e:p.1=k
  ·simp only[pP e,decide_eq_true e,Bool.true_or,Option.isSome_some]
  ·rw[pQ e,decide_eq_false e,Bool.false_or];exact CK k r
theorem sU(kvs:List (κ×V))(k:κ)(v:V):(putK kvs k v).length<=kvs.length+1:=by
 unfold putK;split
 ·rw[List.length_map];lia
 ·rw[List.length_append,List.length_cons,List.length_nil];lia
variable{u:Option Value}
theorem tR.LX{o:Option V}(r:tR o u):o.isSome=u.isSome:=by
 cases o with
 | none=>cases u with
  | none=>rfl
  | some _=>exact(show False from r).elim
 | some _=>cases u with
  | none=>exact(show False from r).elim
  | some _=>rfl
theorem tR.getD{o:Option V}{d:V}{d' :Value}(r:tR o u)(a:RelV d d'):RelV (o.getD d) (u.getD d'):=by
 cases o with
 | none=>cases u with
  | none=>exact a
  | some _=>exact(show False from r).elim
 | some _=>cases u with
  | none=>exact(show False from r).elim
  | some _=>exact r
variable{kvs:List (κ×V)}{vs:List (κ×Value)}
theorem KV.val(r:KV kvs vs)(k:κ):tR (rA kvs k) (valueAt vs k):=by
 unfold KV at r
 induction r with
 | nil=>exact True.intro
 | @cons p q ps qs h t ih=>
  obtain⟨c,d⟩:=h;by_cases e:p.1=k
  ·have a :q.1=k:=c.symm.trans e;have b:valueAt (q::qs) k=some q.2:=by simp[valueAt,List.find?_cons,a]
   rw[pP e,b];exact d
  ·have a :¬q.1=k:=λz=>e (c.trans z);have b:valueAt (q::qs) k=valueAt qs k:=by simp[valueAt,List.find?_cons,a]
   rw[pQ e,b];exact ih
theorem KV.any(r:KV kvs vs)(k:κ):(kvs.any λa=>decide (a.1=k))=vs.any λa=>decide (a.1=k):=by
 unfold KV at r
 induction r with
 | nil=>rfl
 | cons h t ih=>rw[List.any_cons,List.any_cons,ih,h.1]
theorem KV.YW(r:KV kvs vs)(k:κ){y:V}{u:Value}(c:RelV y u):
  KV (kvs.map λa=>if a.1=k then (a.1,y) else a) (vs.map λa=>if a.1=k then (a.1,u) else a):=by
 unfold KV at r⊢
 induction r with
 | nil=>exact .nil
 | @cons p q ps qs h t ih=>
  rw[List.map_cons,List.map_cons];refine .cons ?_ ih;obtain⟨b,d⟩:=h;by_cases e:p.1=k
  ·rw[if_pos e,if_pos (b.symm.trans e)];exact⟨b,c⟩
  ·rw[if_neg e,if_neg (λz=>e (b.trans z))];exact⟨b,d⟩
theorem KV.put(r:KV kvs vs)(k:κ){y:V}{u:Value}(a:RelV y u):KV (putK kvs k y) (stored vs k u):=by
 unfold putK stored;rw[r.any k];by_cases e:(vs.any λb=>decide (b.1=k))=true
 ·rw[if_pos e,if_pos e];exact r.YW k a
 ·rw[if_neg e,if_neg e];exact Paired.snoc r ⟨rfl,a⟩
theorem KV.length(r:KV kvs vs):kvs.length=vs.length:=Paired.length r
end
variable{P:Program}{w:World}{u:Value}
theorem oQ{k:Key}(r:RelV (kV k) u):(aM P w).is k u=true:=by
 cases k with
 | inl i=>obtain⟨t,e⟩:=(show ∃t,u=Value.int i t from r);subst e;exact DM P w i t
 | inr x=>obtain⟨t,e⟩:=(show ∃t,u=Value.str x t from r);subst e;exact DL P w x t
theorem rN{P:Program}{w:World}:∀{ks:List Key} {us:List Value},Vals (ks.map kV) us->ItemsAre (aM P w) ks us
 | [],_,r=>by rw[List.map_nil]at r;cases r;exact .nil
 | k::ks,_,r=>by
  rw[List.map_cons]at r
  cases r with
  | cons h t=>exact .cons (oQ h) (rN t)
abbrev KT(H:Hp):List (List Key×V)->List (List Key×Addr×Value)->Prop:=Paired λp q=>p.1=q.1/\H q.2.1=some (.tup (p.1.map kV))/\RelV p.2 q.2.2
variable{H:Hp}{kvs:List (List Key×V)}{xs:List (List Key×Addr×Value)}
theorem KT.val(r:KT H kvs xs)(k:List Key):tR (rA kvs k) ((atKey xs k).map (·.2)):=by
 induction r with
 | nil=>exact True.intro
 | @cons p q ps qs h t ih=>
  obtain⟨c,_,d⟩:=h;by_cases e:p.1=k
  ·have a :q.1=k:=c.symm.trans e;have b:atKey (q::qs) k=some q.2:=by simp[atKey,List.find?_cons,a]
   rw[pP e,b];exact d
  ·have a :¬q.1=k:=λz=>e (c.trans z);have b:atKey (q::qs) k=atKey qs k:=by simp[atKey,List.find?_cons,a]
   rw[pQ e,b];exact ih
theorem KT.YW(r:KT H kvs xs)(k:List Key){y:V}(d:RelV y u):
  KT H (kvs.map λb=>if b.1=k then (b.1,y) else b) (xs.map (putAt k u)):=by
 induction r with
 | nil=>exact .nil
 | @cons p q ps qs h t ih=>
  rw[List.map_cons,List.map_cons];refine .cons ?_ ih;obtain⟨a,c,f⟩:=h;unfold putAt;by_cases e:p.1=k
  ·rw[if_pos e,if_pos (a.symm.trans e)];exact⟨a,c,d⟩
  ·rw[if_neg e,if_neg (λz=>e (a.trans z))];exact⟨a,c,f⟩
theorem KT.put(r:KT H kvs xs)(k:List Key){b:Addr}{y:V}(hb:H b=some (.tup (k.map kV)))(a:RelV y u):
  KT H (putK kvs k y) (storedH xs k b u):=by
 have e:(kvs.any λc=>decide (c.1=k))=(atKey xs k).isSome:=by
  rw[CK,(r.val k).LX,Option.isSome_map]
 unfold putK storedH;rw[e];by_cases q:(atKey xs k).isSome=true
 ·rw[if_pos q,if_pos q];exact r.YW k a
 ·rw[if_neg q,if_neg q];exact Paired.snoc r ⟨rfl,hb,a⟩
theorem KT.keeps{H H' :Hp}(r:KT H kvs xs)(ht:∀b a,H b=some (.tup a)->H' b=some (.tup a)):KT H' kvs xs:=
 Paired.aA1 r λ_ _ z=>⟨z.1,ht _ _ z.2.1,z.2.2⟩
section
variable {P:Program}{w:World}{H:Hp}{h:Heap}{a:Addr}
theorem XF{u:HO}(ok:qW P w H h)(e:Rd H a u):cL P w H h a u:=e.ok ok
variable{kvs:List (Key×V)}
theorem EJ(ok:qW P w H h)(e:Rd H a (.dK kvs)):kvs.length<=sizeLine/\(a==sysModules)=false/\∃vs,KV kvs vs/\h.DictOf (aM P w) a vs:=
 show cL P w H h a (.dK kvs) from XF ok e
theorem aFs(ok:qW P w H h)(e:H a=some (.dK kvs)):kvs.length<=sizeLine/\(a==sysModules)=false/\∃vs,KV kvs vs/\h.DictOf (aM P w) a vs:=EJ ok (.inl e)
theorem mV{ks:List Key}(ok:qW P w H h)(e:H a=some (.tup (ks.map kV))):(tupleKind (aM P w)).is h ks a:=by
 obtain⟨_,aJ,r,⟨o,b,c,n,d⟩,_⟩:=(show cL P w H h a (.tup (ks.map kV)) from ok a _ e)
 exact⟨o,aJ.toArray,n,b,c,d,by simpa using rN r⟩
variable{kvs:List (List Key×V)}
theorem EI(ok:qW P w H h)(e:Rd H a (.dT kvs)):kvs.length<=sizeLine/\(a==sysModules)=false/\
  ∃xs,KT H kvs xs/\h.DictOfH (tupleKind (aM P w)) a xs:=by
 obtain⟨z,y,xs,r,o,es,ep,b,c,d,f,g⟩:=(show cL P w H h a (.dT kvs) from XF ok e)
 refine⟨z,y,xs,r,o,es,ep,b,c,d,f,λx hx=>?_,g⟩
 have all:∀{l:List (List Key×V)} {m:List (List Key×Addr×Value)},KT H l m->∀x∈m,(tupleKind (aM P w)).is h x.1 x.2.1:=by
  intro l m q
  induction q with
  | nil=>intro x hx;exact nomatch hx
  | @cons p q ps qs hq t ih=>
   intro x hx;rcases aK1.mp hx with e | hx
   ·subst e;exact mV ok (by rw[<-hq.1];exact hq.2.1)
   ·exact ih x hx
 exact all r x hx
theorem aFr(ok:qW P w H h)(e:H a=some (.dT kvs)):kvs.length<=sizeLine/\(a==sysModules)=false/\
  ∃xs,KT H kvs xs/\h.DictOfH (tupleKind (aM P w)) a xs:=EI ok (.inl e)
end
def HN(H:Hp)(a:Addr)(y:V)(r:Option V):Prop:=
 (∃kvs k,Rd H a (.dK kvs)/\y=kV k/\r=rA kvs k)\/∃kvs k b,Rd H a (.dT kvs)/\y= .ref b/\H b=some (.tup (k.map kV))/\r=rA kvs k
def W5(H:Hp)(a:Addr)(y v:V)(H' :Hp):Prop:=
 (∃kvs k,H a=some (.dK kvs)/\y=kV k/\kvs.length<sizeLine/\H' =upd H a (.dK (putK kvs k v)))\/
 ∃kvs k b,H a=some (.dT kvs)/\y= .ref b/\H b=some (.tup (k.map kV))/\kvs.length<sizeLine/\H' =upd H a (.dT (putK kvs k v))
variable{a:Addr}{kvs:List (Key×V)}
theorem HN.k{k:Key}(e:H a=some (.dK kvs)):HN H a (kV k) (rA kvs k):= .inl ⟨kvs,k,.inl e,rfl,rfl⟩
theorem W5.k{k:Key}{v:V}(e:H a=some (.dK kvs))(b:kvs.length<sizeLine):W5 H a (kV k) v (upd H a (.dK (putK kvs k v))):= .inl ⟨kvs,k,e,rfl,b,rfl⟩
section
variable {X:Cx}{pins:List (Addr×Obj)}{σ:St}{H:Hp}{s:Shared}{a:Addr}{y v:V}{u r:Value}{o:Option V}{A:Around}{E:aNn}
theorem Inv.big(I:Inv X pins σ H s):sysModules<s.heap.objs.size:=by
 have h:mainGlobals<s.heap.objs.size:=(I.mod.glob.keeps I.bk).lt;exact Nat.lt_trans (by decide) h
theorem MI{Q:aNn}(t:A.units+1<cLine)(I:Inv X pins σ H s)(g:HN H a y (some v))(q:RelV y u)(h:∀f r,Inv X pins σ H r ->RelV v f ->Q f r):
  wpAny (model X.prog X.w) A (getItem (.ref a) u) Q E s:=by
 rcases g with ⟨kvs,k,e,i,l⟩ | ⟨kvs,k,b,e,i,x,l⟩
 ·subst i;obtain⟨z,hd,vs,c,j⟩:=EJ I.b9 e;obtain⟨f,m,d⟩:=tR.some_of (v:=v) (o:=valueAt vs k) (by rw[l];exact c.val k);exact wpAny_getItem_of (oQ q) j.mapOf m (h f _ (I.tok _) d)
 ·subst i;cases (show u=Value.ref b from q);obtain⟨z,hd,xs,c,j⟩:=EI I.b9 e;obtain⟨f,m,d⟩:=tR.some_of (v:=v) (o:=(atKey xs k).map (·.2)) (by rw[l];exact c.val k);obtain⟨p,B,n⟩:=aKr.mp m;refine wpAny_getItem_heap (aN5 t) (mV I.b9 x) j B ?_;rw[n];exact h f _ (I.tok _) d
theorem BE{h' :Heap}{t' :Nat}{ob:HO}(I:Inv X pins σ H s)(c:RQ (H a))(hs:Heap.SameBut a s.heap h')(he:∃q,h'.get? a=some q)(new:cL X.prog X.w (upd H a ob) h' a ob):
  Inv X pins σ (upd H a ob) {s with heap:=h',toks:=t'}:=
 I.write (x:=a) (e:=a) c (.inl rfl) (λb q hb z=>(hs.2 b hb).trans z) he new
theorem aBv{H' :Hp}{h' :Heap}{vs:List (Key×Value)}(z:kvs.length<=sizeLine)(hd:(a==sysModules)=false)(b:KV kvs vs)(c:h'.DictOf (aM P w) a vs):
  cL P w H' h' a (.dK kvs):=⟨z,hd,vs,b,c⟩
theorem MG{H' :Hp}{Q:Unit->Shared->Prop}(D:A.units+1<cLine)(I:Inv X pins σ H s)(g:W5 H a y v H')(p:RelV y u)(t:RelV v r)(h:∀x,Inv X pins σ H' x ->Q () x):
  wpAny (model X.prog X.w) A (setItem (.ref a) u r) Q E s:=by
 rcases g with ⟨kvs,k,e,j,l,m⟩ | ⟨kvs,k,b,e,j,B,l,m⟩
 ·subst j m;obtain⟨z,hd,vs,d,n⟩:=aFs I.b9 e;have hz:vs.length<=sizeLine:=by rw[<-d.length];exact z
  have o:(putK kvs k v).length<=sizeLine:=by have:=sU kvs k v;lia
  refine wpAny_setItem_pairs (hsz:=hz) (oQ p) n λh' f hs=>h _ ?_;have he:∃q,h'.get? a=some q:=let ⟨q,_,_,i,_⟩:=f;⟨q,i⟩;exact BE I (by rw[e];exact True.intro) hs he (aBv o hd (d.put k t) f)
 ·subst j m;cases (show u=Value.ref b from p);obtain⟨z,hd,xs,d,n⟩:=aFr I.b9 e;have hz:xs.length<=sizeLine:=by rw[<-Paired.length d];exact z
  have o:(putK kvs k v).length<=sizeLine:=by have:=sU kvs k v;lia
  refine wpAny_setItem_heap (hsz:=hz) (aN5 D) (mV I.b9 B) n λh' f hs=>h _ ?_;obtain⟨q,es,ep,i,F,G,J,_,K⟩:=f;refine BE I (by rw[e];exact True.intro) hs ⟨q,i⟩ ⟨o,hd,_,(d.put k B t).keeps λc L C=>?_,q,es,ep,i,F,G,J,K⟩;rw[aV (aEu C e (λz=>nomatch z))];exact C
end
variable{pins:List (Addr×Obj)}
theorem EL{X:Cx}{σ:St}{s:Shared}{y:V}{o:Option V}(I:Inv X pins σ H s)(g:HN H a y o):s.TypeIs (.ref a) "dict":=by
 rcases g with ⟨kvs,k,e,_,_⟩ | ⟨kvs,k,b,e,_,_,_⟩
 ·obtain⟨_,_,vs,_,c⟩:=EJ I.b9 e;exact c.typeIs
 ·obtain⟨_,_,xs,_,c⟩:=EI I.b9 e;exact c.typeIs
def aDz(c ty d:TE):TS:=λD σ H=>d σ H λv e=>c σ e λx f=>ty σ f λy g=>∃a b,x= .ref a/\W5 g a y v b/\D.nx σ b
section
variable {X:Cx}{o i e value:Expr}{pos pos' tpos:Pos}{td ty tv:TE}
theorem T2(b:X.A.units+1<cLine)(ho:PE X o td)(hi:PE X i ty)(c:PE X value tv)(hs:swapsWith value (some (.Subscript o i pos')) pos.line X.env=pure false):
  PS X (.Assign [.Subscript o i pos'] value pos) (aDz td ty tv):=by
 intro pins s σ H D I h;refine wpAny_Assign_Subscript (c8 (c pins s σ H _ I h) λr s1 ⟨v,d,e,f,j⟩=>c8 (ho pins s1 σ d _ e j) λu s2 ⟨x,k,l,m,n⟩=>c8 (hi pins s2 σ k _ l n) λB C ⟨y,E,p,q,a,t,ex,g,w⟩=>?_) hs;subst ex;obtain rfl:u=Value.ref a:=m
 exact MG b p g q f λF z=>⟨σ,t,z,w⟩
end
theorem EK(h:Heap)(hb:sysModules<h.objs.size):cL P w H (h.push {cls:= .type "dict",data:= .dict #[]}) h.objs.size (.dK []):=
 ⟨aKz _,beq_eq_false_iff_ne.mpr (aL4 (aK2 hb)),[],.nil,Heap.DictOf.new h⟩
def YI:TE:=λ_ H Q=>∀p,H p=none->Q (.ref p) (upd H p (.dK []))
section
variable {X:Cx}{pos:Pos}
theorem ON:PE X (.Dict [] [] pos) YI:=λpins s σ H Q I h=>
 wpAny_Dict_empty ⟨.ref s.heap.objs.size,_,I.laid (a:=s.heap.objs.size) (o:= .dK []) (t' :=s.toks) (λ_ _ q=>aJp _ q) (aJq _) (EK s.heap I.big),rfl,h _ (I.b9.fresh (aJq _))⟩
end
structure M2(X:Cx)(o:Expr)(m:Str)(apos:Pos)(e f:Expr)(dH:Pos):Prop where
 base:attributeBase o m X.env (eval o X.env)=eval o X.env
 FF:((backTo dH (starEach [e,f] X.env)).all (λx=>!x.1) && (backToKw dH (keywordEach [] X.env)).all (λx=>x.1.isSome)
  && decide (([e,f]:List Expr).length+([]:List Keyword).length+(if ([]:List Keyword).isEmpty then 0 else 1)<30))=true
 line:(apos.endLine==dH.line)=true
 trees:backTo dH (starEach [e,f] X.env)=[(false,eval e X.env),(false,eval f X.env)]
def IsD(H:Hp)(a:Addr):Prop:=(∃kvs,Rd H a (.dK kvs))\/∃kvs,Rd H a (.dT kvs)
theorem aBd{X:Cx}{σ:St}{s:Shared}(I:Inv X pins σ H s)(d:IsD H a):
  s.TypeIs (.ref a) "dict"/\(∀b,Value.ref a= .ref b->∃ob,s.heap.get? b=some ob/\ob.dict=none)/\(a==sysModules)=false:=by
 rcases d with ⟨kvs,e⟩ | ⟨kvs,e⟩
 ·obtain⟨_,hd,vs,_,c⟩:=EJ I.b9 e;refine⟨c.typeIs,λb q=>?_,hd⟩;cases q;obtain⟨ob,_,_,f,g,_⟩:=c;exact⟨ob,f,g.2.1⟩
 ·obtain⟨_,hd,xs,_,c⟩:=EI I.b9 e;refine⟨c.typeIs,λb q=>?_,hd⟩;cases q;obtain⟨ob,_,_,f,g,_⟩:=c;exact⟨ob,f,g.2.1⟩
section
variable {X:Cx}{pins:List (Addr×Obj)}{σ:St}{H:Hp}{s:Shared}{a:Addr}{y d:V}{u r:Value}{o:Option V}{A:Around}{E:aNn}
theorem aBx{Q:aNn}(q:A.units+1<cLine)(I:Inv X pins σ H s)(g:HN H a y o)(j:RelV y u)(m:RelV d r)(h:∀n p,Inv X pins σ H p ->RelV (o.getD d) n ->Q n p):
  wpAny (model X.prog X.w) A (call (.builtin "dict.get") [.ref a,u,r]) Q E s:=by
 rcases g with ⟨kvs,k,e,i,l⟩ | ⟨kvs,k,b,e,i,t,l⟩
 ·subst i;obtain⟨z,hd,vs,c,f⟩:=EJ I.b9 e;refine call_meetsIn aMt f.typeIs PySem.F.entry_dict_get (PySem.F.args_dict_get_3 _ _ _) (meets_dict_get_default (aM X.prog X.w) a (oQ j) hd r) ⟨_,f.mapOf,h _ _ (I.tok _) ?_⟩;rw[l];exact(c.val k).getD m
 ·subst i;cases (show u=Value.ref b from j);obtain⟨z,hd,xs,c,f⟩:=EI I.b9 e;refine call_meetsIn aMt f.typeIs PySem.F.entry_dict_get (PySem.F.args_dict_get_3 _ _ _) (meetsH_dict_get_default (tupleKind (aM X.prog X.w)) a b hd r) ⟨aN5 q,k,xs,mV I.b9 t,f,h _ _ (I.tok _) ?_⟩;rw[l];exact(c.val k).getD m
end
def YJ(d ty e:TE):TE:=λσ H Q=>d σ H λx b=>∃a,x= .ref a/\IsD b a/\ty σ b λy f=>e σ f λz c=>∃o,HN c a y o/\Q (o.getD z) c
section
variable {X:Cx}{o e f:Expr}{apos dH:Pos}{td ty tx:TE}
theorem OO(j:X.A.units+1<cLine)(ho:PE X o td)(he:PE X e ty)(k:PE X f tx)(m:M2 X o "get" apos e f dH):PE X (.Call (.Attribute o "get" apos) [e,f] [] dH) (YJ td ty tx):=by
 intro pins s σ H Q I h;refine wpAny_Call_method m.base m.FF m.line PySem.F.plainAttrs_dict aMt PySem.F.type_dict_get (c8 (ho pins s σ H _ I h) λu s1 b=>?_);obtain⟨x,l,i,n,a,ex,d,p⟩:=b;subst ex;obtain rfl:u=Value.ref a:=n;obtain⟨q,r,_⟩:=aBd i d;refine⟨q,r,?_⟩;rw[m.trees]
 refine aMp rfl (aMy (aLr (c8 (he pins s1 σ l _ i p) λK s2 ⟨y,t,v,w,B⟩=>
  aLr (c8 (k pins s2 σ t _ v B) λL M ⟨z,C,D,E,N,g,G⟩=>Calls.spliced_nil ?_))))
 exact aBx j D g w E λO P J c =>⟨_,C,J,c,G⟩
end
end L2
namespace ST
open PySem PySem.SetTable
def KG(xs:Array Nat):Prop:=xs.toList.Pairwise (· < ·)
variable{xs:Array Nat}{i j:Nat}
theorem u5(h:KG xs)(hi:i<j)(a:j<xs.size):xs[i]'(by lia)<xs[j]:=by
 have:=aM7.mp h i j (by simp;lia) (by simpa using a) hi;simpa using this
theorem N4(h:KG xs)(hi:i<=j)(a:j<xs.size):xs[i]'(by lia)<=xs[j]:=by
 rcases aMh hi with z | z
 ·exact aM5 (u5 h z a)
 ·subst z;exact aJq _
theorem A8(xs:Array Nat)(j:Nat)(h:KG xs):∀(fuel lo hi:Nat),hi-lo<=fuel->lo<=hi->hi<=xs.size->(∀k (c:k<xs.size),k<lo->xs[k]<j)->(∀k (c:k<xs.size),hi<=k->j<=xs[k])->
  (below.go xs j fuel lo hi<=xs.size)/\(∀k (c:k<xs.size),k<below.go xs j fuel lo hi->xs[k]<j)/\(∀k (c:k<xs.size),below.go xs j fuel lo hi<=k->j<=xs[k])
 | 0,lo,hi,h1,h2,h3,a,b=>by
  have:lo=hi:=by lia
  subst this;exact⟨h3,a,b⟩
 | fuel+1,lo,hi,h1,h2,h3,a,b=>by
  unfold below.go;by_cases e:lo<hi
  ·rw[if_pos e];have hm:(lo+hi) / 2<xs.size:=by lia
   have f:xs.getD ((lo+hi) / 2) j=xs[(lo+hi) / 2]:=by simp[Array.getD,hm]
   simp only[f];by_cases hx:xs[(lo+hi) / 2]<j
   ·rw[if_pos hx];exact A8 xs j h fuel _ _ (by lia) (by lia) h3 (λk c d=>Nat.lt_of_le_of_lt (N4 h (by lia) hm) hx) b
   ·rw[if_neg hx];exact A8 xs j h fuel _ _ (by lia) (by lia) (by lia) a (λk c d=>aKe (aM6 hx) (N4 h d c))
  ·rw[if_neg e];have:lo=hi:=by lia
   subst this;exact⟨h3,a,b⟩
theorem iS(j:Nat)(h:KG xs):(below xs j<=xs.size)/\(∀k (a:k<xs.size),k<below xs j->xs[k]<j)/\(∀k (a:k<xs.size),below xs j<=k->j<=xs[k]):=
 A8 xs j h xs.size 0 xs.size (by lia) (by lia) (aJq _) (λk a z=>by lia) (λk a z=>by lia)
theorem HD(h:KG xs):below xs 0=0:=by
 obtain⟨a,b,_⟩:=iS 0 h;apply aK3;intro z;have:=b 0 (by lia) (by lia)
 lia
theorem HF(h:KG xs)(hi:i<xs.size):below xs (xs[i]+1)=i+1:=by
 obtain⟨a,b,c⟩:=iS (xs[i]+1) h
 have e:i<below xs (xs[i]+1):=by
  apply aK3;intro z;have:=c i hi (by lia)
  lia
 apply aK3;intro z;have d:i+1<below xs (xs[i]+1):=by lia
 have f:=b (i+1) (by lia) d;have g:=u5 (i:=i) (j:=i+1) h (by lia) (by lia)
 lia
theorem UM(h:KG xs)(f:xs[below xs j]? ≠some j):j∉xs.toList:=by
 intro hm;obtain⟨k,g,e⟩:=aM0.mp hm;have d :k<xs.size:=by simpa using g
 have i :xs[k]=j:=by simpa using e
 obtain⟨a,b,c⟩:=iS j h
 have l:below xs j<=k:=by
  apply aK3;intro z;have:=b k d (by lia)
  lia
 rcases aMh l with z | z
 ·have:=u5 h z d;have:=c _ (by lia) (aJq _)
  lia
 ·apply f;rw[z];simp[d,i]
theorem mZ{a:Type}(xs:Array a)(p:Nat)(x:a)(b:p<=xs.size):(insertAt xs p x).toList=xs.toList.take p++x::xs.toList.drop p:=by
 unfold insertAt;simp[Array.toList_extract];rw[List.take_of_length_le (by simp)]
theorem FX(h:KG xs)(l:j∉xs.toList):KG (insertAt xs (below xs j) j):=by
 obtain⟨a,b,c⟩:=iS j h;unfold KG;rw[mZ _ _ _ a,List.pairwise_append];refine⟨h.sublist (aNb _ _),?_,?_⟩
 ·rw[List.pairwise_cons];refine⟨λy f=>?_,h.sublist (List.drop_sublist _ _)⟩;obtain⟨k,g,e⟩:=aM0.mp f;have d:below xs j+k<xs.size:=by simp at g;lia
  have n:xs[below xs j+k]=y:=by simpa using e
  have:=c _ d (by lia);rcases aMh this with z | z
  ·lia
  ·exfalso;apply l;rw[z];simp
 ·intro x hx y f;obtain⟨k,g,e⟩:=aM0.mp hx;have d:k<below xs j/\k<xs.size:=by simp at g;lia
  have n:xs[k]=x:=by simpa using e
  have p:=b k d.2 d.1;rcases aK1.mp f with z | z
  ·lia
  ·obtain⟨m,hm,o⟩:=aM0.mp z;have i:below xs j+m<xs.size:=by simp at hm;lia
   have q:xs[below xs j+m]=y:=by simpa using o
   have:=c _ i (by lia)
   lia
structure TOk(l:Bool)(t:SetTable):Prop where
 R5:KG t.place
 dum:t.dummies= #[]
 led:t.led=l
theorem TOk.fresh(f m:Nat)(l:Bool):TOk l (.fresh f m l):=⟨by unfold KG SetTable.fresh;simp,rfl,rfl⟩
section
variable {prog:Program}{w:World}{K:Type}[DecidableEq K](knd:KeyKind prog w K)
def Es(es:Array (Int×Value))(ks:List K):Prop:=
 ∃ps:List (K×(Int×Value)),ps.map (·.2)=es.toList/\(ps.map (·.1)).Perm ks/\∀p∈ps,knd.is p.1 p.2.2=true/\p.2.1=knd.hash p.1/\p.2.2.scannable=true
def MU(l:Bool)(h:Heap)(a:Addr)(ks:List K):Prop:=
 ∃o es ep t,h.get? a=some o/\o.ExactSet/\o.data= .set es ep t/\Es knd es ks/\ks.Nodup/\es.size<scanBound/\t.fits es.size=true/\TOk l t
variable {knd}
theorem MU.keep{h h' :Heap}{l:Bool}{a:Addr}{ks:List K}(x:MU knd l h a ks)(k:∀o,h.get? a=some o->h'.get? a=some o):MU knd l h' a ks:=let ⟨o,es,ep,t,ho,r⟩:=x;⟨o,es,ep,t,k o ho,r⟩
variable {A:Around}{E:aNn}{s:Shared}
def aJd(ks:List K)(k:K):List K:=if k∈ks then ks else ks++[k]
end
open PySem.Spec
def eI(w:World):Bool:= !(w.params.followText "set-order")
section
variable {prog:Program}{w:World}{K:Type}[DecidableEq K]{knd:KeyKind prog w K}{A:Around}{E:aNn}{s:Shared}
theorem GZ{h:Heap}{a:Addr}(ho:h.get? a=some {cls:= .type "set",dict:=none,data:= .set #[] 0 (.fresh 0 0 (eI w))}):MU knd (eI w) h a []:=
 ⟨_,#[],0,_,ho,⟨rfl,rfl,rfl⟩,rfl,⟨[],rfl,by simp,λp b=>by cases b⟩,by simp,by decide,by rfl,.fresh 0 0 _⟩
def aCf(ks:List K)(xs:List K):List K:=xs.foldl aJd ks
theorem O4(a:Value){Q₁:aNn}
  (h:Q₁ (.ref s.heap.objs.size) {s with heap:=s.heap.push {cls:= .type "set",dict:=none,data:= .set #[] 0 (.fresh 0 0 (eI w))}}):
  codeAny (model prog w) A (.call (.builtin "set.__new__") ⟨[.type "set",a],[]⟩) (wants Q₁ E) s:=by
 refine codeAny_of_tree ?_;show wpAny _ A.in1 (do checkBuiltinCall "set.__new__" ⟨[.type "set",a],[]⟩;again (.builtin "set.__new__" ⟨[.type "set",a],[]⟩)) _ _ s;refine aJn (aNc (F.newCall_set_1 a) (aJo ⟨aMx F.plain_set_new _,aLv F.entry_set_new ?_⟩));rw[Around.under_plainId F.plain_set_new _];unfold Builtin.«set.__new__» Builtin.Frozenset.newClass;have b:=sub_set_self;obtain⟨c,g,d,e,os⟩:=s;dsimp only
 wp_walk
 refine aMv (aJo ?_);dsimp only;simp only[newObj];refine aJn (wpAny_alloc (aJo ?_));exact aJo h
end
section
variable {prog:Program}{w:World}{K:Type}[DecidableEq K]{knd:KeyKind prog w K}{A:Around}{R:Result->Shared->Prop}{I:Addr}{fp wr:List Addr}{G:Array GenState->Array GenState->Prop}{n:Nat}{P:Nat->Value->Prop}{St:Nat->Shared->Prop}
theorem sL(W:WalksS prog w A.in1 I fp wr G n P St)(S:Addr)(j:S∉fp)(V:Nat->Heap->Prop)(a:∀i h h',V i h->(∀b o,b∉wr->h.get? b=some o->h'.get? b=some o)->V i h')
  (l:∀i v (s:Shared) (H :aNn) (E :Bool->Shared->Prop),i<n->P i v->V i s.heap->(∀r x h',s.toks<=x->Heap.SameBut S s.heap h' ->V (i+1) h' ->E r {s with heap:=h',toks:=x})->wpAny (model prog w) A.in1 (setAdd S v) E H s):
  ∀(k i:Nat) (s:Shared),n-i=k->i<=n->St i s->V i s.heap->
   (∀c,Moved (S::wr) G s c ->V n c.heap->R (.ok (.ret .none)) c)->
   codeAny (model prog w) A (.builtin "set.update.loop" ⟨[.ref S,.ref I],[]⟩) R s:=by
 have J:S∉wr:=λh=>j (W.sub _ h);have d:∀b∈wr,b∈S::wr:=λb hb=>aJt _ hb;intro k
 induction k with
 | zero=>
  intro i s K hi f y z;have B:i=n:=by lia
  subst B;refine aLv aM9 ?_;rw[Around.under_plainId PyProof.Rows.F.plain_set_update_loop _];show wpAny _ A.in1 (pyNext (.ref I) >>=_) _ _ s;refine aJn (W.done s _ _ f λc hm=>?_);show wpAny _ A.in1 (ret Value.none) _ _ c;exact aJo (z c (hm.mono d) (a _ _ _ y λb o hb e=>hm.heap b o hb e))
 | succ k ih=>
  intro i s K hi f y z;have g:i<n:=by lia
  refine aLv aM9 ?_;rw[Around.under_plainId PyProof.Rows.F.plain_set_update_loop _];show wpAny _ A.in1 (pyNext (.ref I) >>=_) _ _ s;refine aJn (W.item i s _ _ g f λv c L m hm=>?_);show wpAny _ A.in1 (holding [v] (setAdd S v) >>=_) _ _ c;refine aJn (aKd ?_);refine l i v c _ _ g L (a _ _ _ y λb o hb e=>hm.heap b o hb e) λr x h' p q C=>?_;refine aJo ⟨aMx PyProof.Rows.F.plain_set_update_loop _,ih (i+1) _ (by lia) g (W.frame _ c _ _ m p λb hb o e=>?_) C λD t u =>?_⟩
  ·rw[q.2 b (λh:b=S=>j (by rw[<-h];exact hb))];exact e
  ·refine z D (Moved.trans W.gtrans ((hm.mono d).then_heap p λb o hb e=>?_) t) u;rw[q.2 b (λh:b=S=>hb (by rw[h];exact List.mem_cons_self))];exact e
end
section
variable {prog:Program}{w:World}{K:Type}[DecidableEq K]{knd:KeyKind prog w K}{A:Around}{E:aNn}{s:Shared}
theorem YQ{l:Addr}{items:Array Value}{Q:aNn}
  (hh:A.handled=none) (hl:s.heap.IsList l items\/s.heap.IsTuple l items) (V:Nat->Heap->Prop) (m:∀i h h',V i h->(∀b o,b≠s.heap.objs.size+1->h.get? b=some o->h'.get? b=some o)->V i h')
  (B:∀i v (f :Shared) (M :aNn) (L :Bool->Shared->Prop),items[i]? =some v->V i f.heap->(∀r y h',f.toks<=y->Heap.SameBut s.heap.objs.size f.heap h' ->V (i+1) h' ->L r {f with heap:=h',toks:=y})->wpAny (model prog w) A.in1.in1.in1 (setAdd s.heap.objs.size v) L M f)
  (h0:∀h',h'.get? s.heap.objs.size=some {cls:= .type "set",dict:=none,data:= .set #[] 0 (.fresh 0 0 (eI w))}->(∀b o,s.heap.get? b=some o->h'.get? b=some o)->V 0 h')
  (h:∀(h' :Heap) (y:Nat),V items.size h' ->
   (∀b o,b<s.heap.objs.size->s.heap.get? b=some o->h'.get? b=some o)->Q (.ref s.heap.objs.size) {s with heap:=h',toks:=y}):
  wpAny (model prog w) A (call (.type "set") [.ref l]) Q E s:=by
 obtain⟨c,tl,hmro⟩:=aLt.mro;have Y:=aLt.made;have hsub:=aLt.sub;refine wpAny_call (codeAny_of_tree ?_);show wpAny _ _ (callAny (.type "set") _) _ _ _;refine aJo ⟨Code.quiet_builtin _ (by decide+kernel),aLv F.entry_type_call ?_⟩;rw[Around.under_plain (weight_type_call_type "set" [.ref l] []) rfl];have h1:=aLt.notType;have h2:=aLt.canCreate;have hct:=F.typeCall_set_1 (.ref l)
 repeat (any_goals (first | assumption | wp_step))
 refine aMm (O4 (.ref l) (E:=E) (Q₁:=λobj C=>obj= .ref s.heap.objs.size/\C={s with heap:=s.heap.push {cls:= .type "set",dict:=none,data:= .set #[] 0 (.fresh 0 0 (eI w))}}) ⟨rfl,rfl⟩) λr C Z=>?_
 cases r with
 | error e=>exact Z
 | ok fl=>
  cases fl with
  | ret obj=>
   obtain⟨rfl,rfl⟩:=Z;generalize hled:eI w=led at*;have hS:(s.heap.push {cls:= .type "set",dict:=none,data:= .set #[] 0 (.fresh 0 0 led)}).get? s.heap.objs.size=some {cls:= .type "set",dict:=none,data:= .set #[] 0 (.fresh 0 0 led)}:=aJv _ rfl
   have hT:Shared.TypeIs {s with heap:=s.heap.push {cls:= .type "set",dict:=none,data:= .set #[] 0 (.fresh 0 0 led)}} (.ref s.heap.objs.size) "set":=⟨_,hS,rfl⟩
   have hli:=aLt.init.lookup;have hbi:=aLt.init.bind (.ref s.heap.objs.size)
   repeat (any_goals (first | assumption | wp_step))
   refine aMm (codeAny_call_builtin (R:=wants (λr D=>r= .none/\∃h' y,D={s with heap:=h',toks:=y}/\
     V items.size h' /\
     (∀b o,b<s.heap.objs.size->s.heap.get? b=some o->h'.get? b=some o)) E) aLt.init.plain F.entry_set_init (check_set_init_1 hT ?_)) λN D g=>?_
   ·have O:l<s.heap.objs.size:=by rcases hl with ⟨o,e,_⟩ | ⟨o,e,_⟩ <;> exact aJy e
    have P:A.in1.in1.in1.handled=none:=by simp[hh]
    have G:l≠(s.heap.push {cls:= .type "set",dict:=none,data:= .set #[] 0 (.fresh 0 0 led)}).objs.size:=by
     rw[Heap.size_push];exact aK2 (aKw O)
    have S:s.heap.objs.size∉[(s.heap.push {cls:= .type "set",dict:=none,data:= .set #[] 0 (.fresh 0 0 led)}).objs.size,l]:=by
     rw[Heap.size_push];simp only[List.mem_cons,List.mem_singleton,List.not_mem_nil,or_false,not_or];exact⟨aK2 (aKt _),aL8 O⟩
    have hw:∀b,b∉[(s.heap.push {cls:= .type "set",dict:=none,data:= .set #[] 0 (.fresh 0 0 led)}).objs.size]↔b≠s.heap.objs.size+1:=λb=>by rw[Heap.size_push];simp
    have hR:∀(io:Obj) (f :Shared),Moved [s.heap.objs.size,(s.heap.push {cls:= .type "set",dict:=none,data:= .set #[] 0 (.fresh 0 0 led)}).objs.size] (λa b=>b=a) {s with heap:=(s.heap.push {cls:= .type "set",dict:=none,data:= .set #[] 0 (.fresh 0 0 led)}).push io} f ->V items.size f.heap->
      ∃h' y,f ={s with heap:=h',toks:=y}/\V items.size h' /\∀b o,b<s.heap.objs.size->s.heap.get? b=some o->h'.get? b=some o:=λio f hm z=>by
     obtain⟨h',g',d',n,os'⟩:=f;have eg:g' =s.gens:=hm.gens;have ed:d' =s.drawn:=hm.drawn;have eo:os' =s.os:=hm.os;subst eg;subst ed;subst eo;refine⟨h',n,rfl,z,λb o hb e=>?_⟩;have hb1:b≠s.heap.objs.size:=aK2 hb
     have hb2:b≠(s.heap.push {cls:= .type "set",dict:=none,data:= .set #[] 0 (.fresh 0 0 led)}).objs.size:=by
      rw[Heap.size_push];exact aK2 (aKw hb)
     exact hm.heap b o (by simp only[List.mem_cons,List.mem_singleton,List.not_mem_nil,or_false,not_or];exact⟨hb1,hb2⟩) (aJp _ (aJp _ e))
    rcases hl with hl | hl
    ·obtain⟨ol,H,p,T,q⟩:=hl;obtain⟨U,j,I,d⟩:=ol;simp only at p q;subst p;subst q;have t :(s.heap.push {cls:= .type "set",dict:=none,data:= .set #[] 0 (.fresh 0 0 led)}).get? l=some {cls:= .type "list",dict:=j,data:= .seq items T,slots:=d}:=aJp _ H;have W:=F.sub_list_set;have X:=F.sub_list_frozenset;have hne:(Value.type "list"==Value.type "dict")=false:=by decide
     have u:(s.heap.push {cls:= .type "set",dict:=none,data:= .set #[] 0 (.fresh 0 0 led)}).IsList l items:=⟨_,t,rfl,T,rfl⟩
     unfold Builtin.«set.__init__» noKeywords Builtin.Frozenset.updateFrom;generalize J:pyIter=PI
     wp_walk
     subst J;refine aMq u ?_;refine aJn (wpAny_runValue ?_)
     exact sL ((Walks.list P _ l G items).toS) s.heap.objs.size S V (λi h h' v k=>m i h h' v λb o hb e=>k b o ((hw b).mpr hb) e) (λi v f M L _ hP z hq=>B i v f M L hP z hq) (items.size-0) 0 _ (by lia) (aKz _)
      ⟨⟨_,aJv _ rfl,rfl,rfl⟩,(u.push _)⟩ (h0 _ (aJp _ hS) λb o e=>aJp _ (aJp _ e)) λf hm z=>by
       obtain⟨h',n,rfl,K,x⟩:=hR _ _ hm z;exact aJo (aJo ⟨rfl,h',n,rfl,K,x⟩)
    ·obtain⟨ol,H,p,T,q⟩:=hl;obtain⟨U,j,I,d⟩:=ol;simp only at p q;subst p;subst q;have t :(s.heap.push {cls:= .type "set",dict:=none,data:= .set #[] 0 (.fresh 0 0 led)}).get? l=some {cls:= .type "tuple",dict:=j,data:= .seq items T,slots:=d}:=aJp _ H;have W:isSubtype (.type "tuple") (.type "set")=pure false:=by rw[isSubtype_type];kernel_rfl
     have X:isSubtype (.type "tuple") (.type "frozenset")=pure false:=by rw[isSubtype_type];kernel_rfl
     have hne:(Value.type "tuple"==Value.type "dict")=false:=by decide
     have u:(s.heap.push {cls:= .type "set",dict:=none,data:= .set #[] 0 (.fresh 0 0 led)}).IsTuple l items:=⟨_,t,rfl,T,rfl⟩
     unfold Builtin.«set.__init__» noKeywords Builtin.Frozenset.updateFrom;generalize J:pyIter=PI
     wp_walk
     subst J;refine aN6 u ?_;refine aJn (wpAny_runValue ?_)
     exact sL ((Walks.tuple P _ l G items).toS) s.heap.objs.size S V (λi h h' v k=>m i h h' v λb o hb e=>k b o ((hw b).mpr hb) e) (λi v f M L _ hP z hq=>B i v f M L hP z hq) (items.size-0) 0 _ (by lia) (aKz _)
      ⟨⟨_,aJv _ rfl,rfl,rfl⟩,(u.push _)⟩ (h0 _ (aJp _ hS) λb o e=>aJp _ (aJp _ e)) λf hm z=>by
       obtain⟨h',n,rfl,K,x⟩:=hR _ _ hm z;exact aJo (aJo ⟨rfl,h',n,rfl,K,x⟩)
   ·cases N with
    | error e=>exact g
    | ok fl₂=>
     cases fl₂ with
     | ret r=>
      obtain⟨rfl,h',y,rfl,hS',x⟩:=g
      repeat (any_goals (first | assumption | wp_step))
      exact h _ _ hS' x
     | _=>exact g.elim
  | _=>exact Z.elim
end
theorem slot_next:Slot "set_iterator" "__next__" "set_iterator.__next__":=
 .of (owner:= "set_iterator") (n:= "__next__") (by rw[typeLookup_type,builtinLookup_eq_fast];kernel_rfl) (by decide+kernel) (by decide+kernel) (by decide+kernel)
  (by first | exact .inl (by decide+kernel) | exact .inr (by decide+kernel)) (by rw[isSubtype_type];kernel_rfl)
theorem yB:Slot "set_iterator" "__iter__" "set_iterator.__iter__":=
 .of (owner:= "set_iterator") (n:= "__iter__") (by rw[typeLookup_type,builtinLookup_eq_fast];kernel_rfl) (by decide+kernel) (by decide+kernel) (by decide+kernel)
  (by first | exact .inl (by decide+kernel) | exact .inr (by decide+kernel)) (by rw[isSubtype_type];kernel_rfl)
theorem entry_next:entryFor table "set_iterator.__next__"=some Builtin.«set_iterator.__next__»:=entryFor_of_tree (by kernel_rfl)
theorem DB:Manifest.owners.lookup (String.ofList "rotareti_tes".toList.reverse)=some Manifest.sig_set_iterator:=by kernel_rfl
theorem args_next(a:Value):argsOk "set_iterator.__next__" ⟨[a],[]⟩:=by
 unfold argsOk;rw[signature?_of (id:= "set_iterator.__next__") (n:= "__txen__".toList) (o:= "rotareti_tes".toList) (by kernel_rfl) DB];kernel_rfl
theorem v5:entryFor table "set.__iter__"=some Builtin.«frozenset.__iter__»:=
 entryFor_alias (id' := "frozenset.__iter__") (by kernel_rfl) rfl (by decide+kernel) (by kernel_rfl)
def mX(first:Value)(i:Nat)(a:Addr)(n ep:Nat):Obj:={cls:= .type "set_iterator",dict:=none,data:= .fields #[first,.int i 0,.ref a,.int n 0,.int ep 0],slots:= #[]}
section
variable {prog:Program}{w:World}{A:Around}{E:aNn}{s:Shared}{it a:Addr}{first:Value}{i ep n:Nat}{o:Obj}{es:Array (Int×Value)}{t:SetTable}
variable{Q:Option Value->Shared->Prop}
theorem O3{slot nx:Nat}{x:Value}(b:s.heap.get? it=some (mX (.int slot 0) i a es.size ep))(ho:s.heap.get? a=some o)(hd:o.data= .set es ep t)(c:t.fits es.size=true)
  (hN:∀(A:Around) (E:aNn) (Q:Option (Value×Nat)->Shared->Prop),Q (some (x,nx)) s->wpAny (model prog w) A (setNext a slot i ep) Q E s)
  (q:∀h',h'.get? it=some (mX (.int nx 0) (i+1) a es.size ep)->Heap.SameBut it s.heap h' ->Q (some x) {s with heap:=h'}):wpAny (model prog w) A (pyNext (.ref it)) Q E s:=by
 have ht:s.TypeIs (.ref it) "set_iterator":=⟨_,b,rfl⟩
 unfold pyNext;refine aJn (aLa (aK9 (name:=Str.ofString "__next__") ht slot_next (aK8 slot_next ht entry_next ?_ (args_next _))));unfold Builtin.«set_iterator.__next__»;refine aJn (m:=slotArgs "__next__" 0 _) (aJo ?_);refine aJn (aN7 b rfl ?_);dsimp only;refine aJn (aLo ho hd c ?_);rw[if_neg (show ¬(((es.size:Int) !=(es.size:Int))=true) by simp)];simp only[Int.toNat_natCast];refine aJn (hN _ _ _ ?_);dsimp only;refine aJn (aKa b (by simp) λg d k1=>?_);refine aJn (aKa d (by simp) λe f k2=>?_);refine aJo ⟨x,rfl,aJo (q e ?_ (k1.trans k2))⟩;rw[f];simp[mX,rawInt]
theorem yA{B:Around}(d:B.handled=none)(h:∀h',(∀b u,s.heap.get? b=some u->h'.get? b=some u)->Q none {s with heap:=h'}):
  wpAny (model prog w) B (do let e<-newExc (.type "StopIteration") [];raiseNew e) (λ(fin:Fin) c =>∃v,fin=Fin.done (Flow.ret v)/\wpAny (model prog w) A (pure (some v)) Q E c)
   (λe c =>wpAny (model prog w) A (do let b<-isInstance e (Value.type "StopIteration");if b=true then pure none else throw e) Q E c) s:=by
 refine aJn ?_;simp only[newExc,newTuple];refine aJn (aKf ?_ (by size_fits));refine aJn (m:=firstArgMember _ _) (aNc (a:=Value.none) (by first | rfl | (simp only[firstArgMember];rfl)) ?_);refine aKf ?_ (by size_fits);simp only[raiseNew];refine aJn (wpAny_handled ?_);rw[d];refine aJn (aJo (wpAny_throw ?_));refine aJn (aLp (T:= "StopIteration") (b:=true) ⟨_,aJv _ rfl,rfl⟩ isSubtype_stop ?_);exact aJo (h _ λb u e=>aJp _ (aJp _ e))
theorem AI{slot:Nat}(d:A.handled=none)(c:s.heap.get? it=some (mX (.int slot 0) i a es.size ep))(ho:s.heap.get? a=some o)(hd:o.data= .set es ep t)(f:t.fits es.size=true)
  (hN:∀(A:Around) (E:aNn) (Q:Option (Value×Nat)->Shared->Prop),Q none s->wpAny (model prog w) A (setNext a slot i ep) Q E s)
  (q:∀h',Heap.ExtBut it s.heap h' ->Q none {s with heap:=h'}):wpAny (model prog w) A (pyNext (.ref it)) Q E s:=by
 have ht:s.TypeIs (.ref it) "set_iterator":=⟨_,c,rfl⟩
 unfold pyNext;refine aJn (aLa (aK9 (name:=Str.ofString "__next__") ht slot_next (aK8 slot_next ht entry_next ?_ (args_next _))));unfold Builtin.«set_iterator.__next__»;refine aJn (m:=slotArgs "__next__" 0 _) (aJo ?_);refine aJn (aN7 c rfl ?_);dsimp only;refine aJn (aLo ho hd f ?_);rw[if_neg (show ¬(((es.size:Int) !=(es.size:Int))=true) by simp)];simp only[Int.toNat_natCast];refine aJn (hN _ _ _ ?_);dsimp only;refine aJn (aKa c (by simp) λg h k1=>?_);exact yA (B:=A.in1) (s:={s with heap:=g}) (show A.in1.handled=none from d) λh' k=>q h' λb u hb e=>k b u ((k1.2 b hb).trans e)
theorem O0{tp:Addr}{d:Nat}{ns:List Nat}{x:Value}(b:s.heap.get? it=some (mX (.ref tp) i a es.size ep))(ho:s.heap.get? a=some o)(hd:o.data= .set es ep t)(l:t.fits es.size=true)
  (e:s.heap.IsTuple tp (ns.map λ(k:Nat)=>rawInt k).toArray) (f:ns[i]? =some d) (hx:(es[d]?).map (·.2)=some x)
  (q:∀h',h'.get? it=some (mX (.ref tp) (i+1) a es.size ep)->Heap.SameBut it s.heap h' ->Q (some x) {s with heap:=h'}):wpAny (model prog w) A (pyNext (.ref it)) Q E s:=by
 have ht:s.TypeIs (.ref it) "set_iterator":=⟨_,b,rfl⟩
 obtain⟨y,g,_,z,h⟩:=e;obtain⟨⟨n,p⟩,j,c⟩:=aKr.mp hx;simp only at c;subst c;unfold pyNext;refine aJn (aLa (aK9 (name:=Str.ofString "__next__") ht slot_next (aK8 slot_next ht entry_next ?_ (args_next _))));unfold Builtin.«set_iterator.__next__»;refine aJn (m:=slotArgs "__next__" 0 _) (aJo ?_);refine aJn (aN7 b rfl ?_);dsimp only;refine aJn (aLo ho hd l ?_);rw[if_neg (show ¬(((es.size:Int) !=(es.size:Int))=true) by simp)];refine aJn (aKs g h ?_);dsimp only;have r:(ns.map λ(k:Nat)=>rawInt k).toArray[(i:Int).toNat]? =some (Value.int d 0):=by simp[f,rawInt]
 rw[r];dsimp only;simp only[Int.toNat_natCast];refine aJn (m:=setNextDrawn a d ep) ?_;unfold setNextDrawn;refine aJn (aKn ho hd l ?_);dsimp only;rw[if_neg (by simp)];rw[j];dsimp only;refine aJo ?_;refine aJn (aKa b (by simp) λu v k2=>?_);refine aJo ⟨p,rfl,aJo (q u ?_ k2)⟩;rw[v];simp[mX,rawInt]
theorem AH{tp:Addr}{ns:List Nat}(j:A.handled=none)(c:s.heap.get? it=some (mX (.ref tp) i a es.size ep))(ho:s.heap.get? a=some o)(hd:o.data= .set es ep t)(l:t.fits es.size=true)
  (d:s.heap.IsTuple tp (ns.map λ(k:Nat)=>rawInt k).toArray) (f:ns[i]? =none)
  (q:∀h',Heap.ExtBut it s.heap h' ->Q none {s with heap:=h'}):wpAny (model prog w) A (pyNext (.ref it)) Q E s:=by
 have ht:s.TypeIs (.ref it) "set_iterator":=⟨_,c,rfl⟩
 obtain⟨v,g,_,x,h⟩:=d;unfold pyNext;refine aJn (aLa (aK9 (name:=Str.ofString "__next__") ht slot_next (aK8 slot_next ht entry_next ?_ (args_next _))));unfold Builtin.«set_iterator.__next__»;refine aJn (m:=slotArgs "__next__" 0 _) (aJo ?_);refine aJn (aN7 c rfl ?_);dsimp only;refine aJn (aLo ho hd l ?_);rw[if_neg (show ¬(((es.size:Int) !=(es.size:Int))=true) by simp)];refine aJn (aKs g h ?_);dsimp only;have n:(ns.map λ(k:Nat)=>rawInt k).toArray[(i:Int).toNat]? =none:=by simpa using f
 rw[n];dsimp only;refine aJn (aKa c (by simp) λy p k1=>?_);refine aJn (aKa p (by simp) λr z k2=>?_);exact yA (B:=A.in1) (s:={s with heap:=r}) (show A.in1.handled=none from j) λh' k=>q h' λb u hb e=>k b u (((k1.trans k2).2 b hb).trans e)
end
theorem fN{a:Type}:∀{xs:List a} {i:Nat} (h:i<xs.length),(xs[i]::xs.eraseIdx i).Perm xs
 | x::xs,0,h=>.refl _
 | x::xs,i+1,h=>by
  simp only[List.getElem_cons_succ,List.eraseIdx_cons_succ];exact(List.Perm.swap x _ _).trans ((fN (by simpa using h)).cons x)
section
variable {M:Model}{A:Around}{E:aNn}
theorem y8{e:Type}:∀(n:Nat) (xs:List e) (s:Shared) (Q:List e->Shared->Prop),xs.length<=n->(∀b d,b.Perm xs->Q b {s with drawn:=d})->wpAny M A (drawOrder n xs) Q E s
 | 0,[],s,Q,_,h=>by unfold drawOrder;exact aJo (h [] s.drawn (.refl _))
 | 0,x::xs,s,Q,hl,h=>by simp at hl
 | n+1,[],s,Q,_,h=>by unfold drawOrder;exact aJo (h [] s.drawn (.refl _))
 | n+1,x::xs,s,Q,hl,h=>by
  unfold drawOrder;refine aJn ?_;have a:0<(x::xs).length:=by simp
  refine(λf p c=>⟨by simp,?_⟩:wpAny M A (choose .order (x::xs).length) _ E s);have hi:M.w.draws .order (s.drawn.get .order) % (x::xs).length<(x::xs).length:=aNj _ a;generalize M.w.draws .order (s.drawn.get .order) % (x::xs).length=i at hi;revert f p c;show wpAny M A _ _ E _;refine aJo ?_;rw[List.getElem?_eq_getElem hi];dsimp only;refine aJn (y8 n ((x::xs).eraseIdx i) _ _ (by rw[List.length_eraseIdx_of_lt hi];simp at hl⊢;lia) λb d g=>aJo (h _ d ?_));exact(g.cons _).trans (fN hi)
end
theorem yH{a:Type}(next:Nat->Nat):∀(fuel k:Nat) (left:List a) (out:Array a),left.length<=fuel->(pickOrder.go next fuel k left out).toList.Perm (out.toList++left)
 | 0,k,left,out,h=>by
  have:left=[]:=aMk.mp (by lia);subst this;simp[pickOrder.go]
 | fuel+1,k,[],out,h=>by simp[pickOrder.go]
 | fuel+1,k,x::xs,out,h=>by
  unfold pickOrder.go
  have hi:next k % (x::xs).length<(x::xs).length:=aNj _ (by simp)
  rw[List.getElem?_eq_getElem hi];dsimp only
  generalize next k % (x::xs).length=i at hi
  have:=yH next fuel (k+1) ((x::xs).eraseIdx i) (out.push (x::xs)[i]) (by rw[List.length_eraseIdx_of_lt hi];simp at h⊢;lia)
  refine this.trans ?_;simp only[Array.toList_push,List.append_assoc,List.singleton_append];exact(fN hi).append_left _
theorem u9{a:Type}(next:Nat->Nat)(xs:Array a):(pickOrder next xs).toList.Perm xs.toList:=by
 unfold pickOrder
 have:=yH next xs.size 0 xs.toList #[] (by simp)
 simpa using this
section
variable {prog:Program}{w:World}{A:Around}{E:aNn}{s:Shared}{a:Addr}{ep:Nat}{o:Obj}{es:Array (Int×Value)}{t:SetTable}
theorem kL{Q:Bool->Shared->Prop}(h:Q (w.params.followText "set-order") s):wpAny (model prog w) A setsByText Q E s:=by
 unfold setsByText;exact aJn (aMv (aJo h))
def uT(t:SetTable):Nat->Nat
 | 0=>0
 | i+1=>t.place.getD i 0+1
theorem HE{l:Bool}(ht:TOk l t)(hi:i<=t.place.size):below t.place (uT t i)=i:=by
 cases i with
 | zero=>exact HD ht.R5
 | succ i=>
  have:t.place.getD i 0=t.place[i]'(by lia):=by simp[Array.getD,show i<t.place.size by lia]
  show below t.place (t.place.getD i 0+1)=i+1;rw[this];exact HF ht.R5 (by lia)
theorem MC(a:t.fits es.size=true):t.place.size=es.size:=by
 simp only[SetTable.fits,Bool.and_eq_true,beq_iff_eq]at a;exact a.1
variable{Q:Option (Value×Nat)->Shared->Prop}
theorem F9{l:Bool}(ho:s.heap.get? a=some o)(hd:o.data= .set es ep t)(d:t.fits es.size=true)(ht:TOk l t)(hb:w.params.followText "set-order"=false)(g:l=true)
  (f:(!t.plain && decide (es.size > 1))=false) (hi:i<=es.size) (q:Q ((es[i]?).map λe=>(e.2,uT t (i+1))) s):wpAny (model prog w) A (setNext a (uT t i) i ep) Q E s:=by
 have hs:=MC d;unfold setNext;refine aJn (aKn ho hd d ?_);dsimp only;refine aJn (kL ?_);rw[hb,if_neg Bool.false_ne_true];have m:(if (!t.plain && decide (es.size > 1))=true then (unsupported "set_iterator.__next__:the-table-is-plain-no-more":Sem Unit) else pure ())=pure ():=by rw[f];rfl
 show wpAny _ _ (if (!t.plain && decide (es.size > 1))=true then _ else _) Q E s;rw[f,if_neg Bool.false_ne_true];have b:t.led=true:=by rw[ht.led,g]
 refine aJn ?_;show wpAny _ _ (if (!t.led && !es.isEmpty)=true then _ else _) _ E s;rw[b];simp only[Bool.not_true,Bool.false_and,Bool.false_eq_true,if_false];refine aJo ?_;rw[HE ht (by lia)];by_cases h:i<es.size
 ·have c:es[i]? =some es[i]:=by simp[h]
  have j:t.place[i]? =some (t.place[i]'(by lia)):=by simp[show i<t.place.size by lia]
  rw[c]at q⊢;rw[j];have k:t.place.getD i 0=t.place[i]'(by lia):=by simp[Array.getD,show i<t.place.size by lia]
  simp only[uT,k,Option.map_some]at q;exact aJo q
 ·have c:es[i]? =none:=by simp;lia
  rw[c]at q⊢;exact aJo q
theorem LB(ho:s.heap.get? a=some o)(hd:o.data= .set es ep t)(b:t.fits es.size=true)(hb:w.params.followText "set-order"=true)
  (q:Q (((pickOrder (w.params.setOrder a ep) es)[i]?).map λe=>(e.2,0)) s):wpAny (model prog w) A (setNext a 0 i ep) Q E s:=by
 unfold setNext;refine aJn (aKn ho hd b ?_);dsimp only;refine aJn (kL ?_);rw[hb,if_pos rfl];rw[if_neg (by simp)];refine aJn ?_;unfold setWalk;refine aJn (aKn ho hd b ?_);dsimp only;refine aJn (kL ?_);rw[hb,if_pos rfl];refine aJn (aMv ?_);exact aJo (aJo q)
end
theorem xM:entryFor table "set_iterator.__iter__"=some Builtin.«dict_keyiterator.__iter__»:=
 entryFor_alias (id' := "dict_keyiterator.__iter__") (by kernel_rfl) rfl (by decide+kernel) (by kernel_rfl)
theorem BX(a:Value):argsOk "set_iterator.__iter__" ⟨[a],[]⟩:=by
 unfold argsOk;rw[signature?_of (id:= "set_iterator.__iter__") (n:= "__reti__".toList) (o:= "rotareti_tes".toList) (by kernel_rfl) DB];kernel_rfl
theorem rF{a:Type}:∀l:List a,(List.range l.length).filterMap (λk=>l[k]?)=l
 | []=>rfl
 | x::l=>by
  have:=rF l;rw[List.length_cons,List.range_succ_eq_map,List.filterMap_cons];simp only[List.getElem?_cons_zero,List.filterMap_map,Function.comp_def,List.getElem?_cons_succ];rw[this]
section
variable {prog:Program}{w:World}{A:Around}{E:aNn}{s:Shared}
theorem yS{it a:Addr}{first:Value}{i n ep:Nat}{Q:aNn}(b:s.heap.get? it=some (mX first i a n ep))(h:Q (.ref it) s):wpAny (model prog w) A (pyIter (.ref it)) Q E s:=by
 have ht:s.TypeIs (.ref it) "set_iterator":=⟨_,b,rfl⟩
 refine aMr ht yB (aK8 yB ht xM ?_ (BX _));show wpAny _ _ (ret (.ref it)) _ _ s;exact aJo ⟨_,rfl,"set_iterator",_,ht,slot_next.lookup,h⟩
variable{es:Array (Int×Value)}
theorem CA(m:A.handled=none){it a:Addr}(f:a≠it){o:Obj}{ep:Nat}{t:SetTable}(hd:o.data= .set es ep t)(j:t.fits es.size=true)(sl:Nat->Nat)(vs:List Value)(c:vs.length=es.size)
  (hN:∀(i:Nat),i<=es.size->∀(s:Shared),s.heap.get? a=some o->∀(A:Around) (E:aNn) (Q:Option (Value×Nat)->Shared->Prop),Q ((vs[i]?).map λv=>(v,sl (i+1))) s->wpAny (model prog w) A (setNext a (sl i) i ep) Q E s):
  Walks prog w A it [it,a] [it] vs.length (λi v=>vs[i]? =some v) (λi h=>i<=es.size/\h.get? it=some (mX (.int (sl i) 0) i a es.size ep)/\h.get? a=some o) where
 sub:=λb hb=>by simp at hb;simp[hb]
 frame:=λ_ _ _ st l=>⟨st.1,l it (by simp) _ st.2.1,l a (by simp) _ st.2.2⟩
 item:=λi s Q E hi st d=>by
  have e:vs[i]? =some vs[i]:=by simp[hi]
  refine O3 (x:=vs[i]) (nx:=sl (i+1)) st.2.1 st.2.2 hd j (λA E Q q=>hN i st.1 s st.2.2 A E Q (by rw[e];exact q)) λh' g k=>?_;refine d _ h' s.toks e ⟨by lia,g,(k.2 a f).trans st.2.2⟩ λb u hb e=>(k.2 b (by simpa using hb)).trans e
 done:=λs Q E st d=>by
  rw[c]at st;refine AI m st.2.1 st.2.2 hd j (λA E Q q=>hN es.size (aJq _) s st.2.2 A E Q (by rw[List.getElem?_eq_none (by lia)];exact q)) λh' k=>?_;exact d h' s.toks λb u hb e=>k b u (by simpa using hb) e
 self:=λ_ _ _ _ st d=>yS st.2.1 d
theorem NH(r:A.handled=none){it a tp:Addr}(d:a≠it)(f:tp≠it){o:Obj}{ep:Nat}{t:SetTable}(hd:o.data= .set es ep t)(m:t.fits es.size=true)(ns:List Nat)(vs:List Value)(n:ns.length=vs.length)
  (hx:∀(i p:Nat),ns[i]? =some p->(es[p]?).map (·.2)=vs[i]?):
  Walks prog w A it [it,a,tp] [it] vs.length (λi v=>vs[i]? =some v) (λi h=>h.get? it=some (mX (.ref tp) i a es.size ep)/\h.get? a=some o/\h.IsTuple tp (ns.map λ(k:Nat)=>rawInt k).toArray) where
 sub:=λb hb=>by simp at hb;simp[hb]
 frame:=λ_ _ _ st j=>⟨j it (by simp) _ st.1,j a (by simp) _ st.2.1,st.2.2.at λo e=>j tp (by simp) o e⟩
 item:=λi s Q E hi st c=>by
  have e:vs[i]? =some vs[i]:=by simp[hi]
  have l:i<ns.length:=by lia
  have q:ns[i]? =some ns[i]:=by simp[l]
  refine O0 (x:=vs[i]) st.1 st.2.1 hd m st.2.2 q (by rw[hx i _ q,e]) λh' g k=>?_;refine c _ h' s.toks e ⟨g,(k.2 a d).trans st.2.1,st.2.2.extBut k.extBut f⟩ λb u hb e=>(k.2 b (by simpa using hb)).trans e
 done:=λs Q E st c=>by
  refine AH r st.1 st.2.1 hd m st.2.2 (by rw[List.getElem?_eq_none (by lia)]) λh' k=>?_;exact c h' s.toks λb u hb e=>k b u (by simpa using hb) e
 self:=λ_ _ _ _ st c=>yS st.1 c
end
section
variable {prog:Program}{w:World}{K:Type}[DecidableEq K]{knd:KeyKind prog w K}{A:Around}{E:aNn}{s:Shared}
def sC(l:Bool)(h:Heap)(a:Addr)(es:Array (Int×Value)):Prop:=∃o ep t,h.get? a=some o/\o.ExactSet/\o.data= .set es ep t/\es.size<scanBound/\t.fits es.size=true/\TOk l t
variable{es:Array (Int×Value)}
theorem sC.keep{l:Bool}{h h' :Heap}{a:Addr}(x:sC l h a es)(k:∀o,h.get? a=some o->h'.get? a=some o):sC l h' a es:=by
 obtain⟨o,ep,t,ho,r⟩:=x;exact⟨o,ep,t,k o ho,r⟩
theorem sC.typeIs{l:Bool}{s:Shared}{a:Addr}(x:sC l s.heap a es):s.TypeIs (.ref a) "set":=by
 obtain⟨o,ep,t,ho,hx,_⟩:=x;exact⟨o,ho,hx.1⟩
structure ItS(prog:Program)(w:World)(es:Array (Int×Value))(a:Addr)(s s2:Shared)(I:Addr):Prop where
 kept:∀b u,s.heap.get? b=some u->s2.heap.get? b=some u
 new:s.heap.objs.size<=I
 same:s2.gens=s.gens/\s2.os=s.os/\s2.toks=s.toks
 walk:∃(fp:List Addr) (St:Nat->Heap->Prop) (vs:List Value),(∀A:Around,A.handled=none->Walks prog w A I fp [I] vs.length (λi v=>vs[i]? =some v) St)/\St 0 s2.heap/\(∀b∈fp,(b=a\/s.heap.objs.size<=b)/\b<s2.heap.objs.size)/\vs.Perm (es.toList.map (·.2))
theorem QE{a:Addr}{Q:aNn}(C:sC (eI w) s.heap a es)(h:∀I s2,ItS prog w es a s s2 I->Q (.ref I) s2):wpAny (model prog w) A (pyIter (.ref a)) Q E s:=by
 have D:=C.typeIs;obtain⟨o,ep,t,ho,hex,hd,hb,f,ht⟩:=C;have c:=aJy ho;refine aMr D F.slot_set_iter (aK8 F.slot_set_iter D v5 ?_ (F.args_set_iter_1 _));unfold Builtin.«frozenset.__iter__»;refine aJn (m:=Builtin.Frozenset.slot0 "__iter__" _) (aJo ?_);refine aJn ?_;unfold Builtin.Frozenset.sizeOf;refine aJn (aLo ho hd f (aJo ?_));refine aJn ?_;unfold setDrawn;refine aJn (aKn ho hd f ?_);dsimp only;refine aJn (kL (aJo ?_));show wpAny _ _ (if (!w.params.followText "set-order" && (!t.plain && decide (es.size > 1)))=true then _ else _) _ _ s;by_cases g:(!w.params.followText "set-order" && (!t.plain && decide (es.size > 1)))=true
 ·rw[if_pos g];refine aJn (y8 es.size (List.range es.size) s _ (by simp) λns d n=>?_)
  have hsz:(ns.map λ(i:Nat)=>rawInt i).length<=sizeLine:=by
   have:=n.length_eq;have:=fits_of_scanBound hb;simp at*;lia
  refine aJn (aM1 ?_ hsz);dsimp only;refine aJn (m:=setEpoch a) (wpAny_setEpoch_of (o:=o) (aJp _ ho) hd f ?_);refine aJn (m:=newFields "set_iterator" _) (aKf ?_ (by size_fits));refine aJo ⟨_,rfl,"set_iterator",_,⟨_,aJv _ rfl,rfl⟩,slot_next.lookup,?_⟩;refine h _ _ ⟨λb u e=>aJp _ (aJp _ e),by simp[Heap.size_push],⟨rfl,rfl,rfl⟩,?_⟩;have B:∀k∈ns,k<es.size:=λk z=>by simpa using n.mem_iff.mp z
  have p:(ns.filterMap λk=>es[k]?).Perm es.toList:=by
   have G:=n.filterMap λk=>es[k]?;have J:(List.range es.size).filterMap (λk=>es[k]?)=es.toList:=by simpa using rF es.toList
   rw[J]at G;exact G
  have r:(ns.filterMap λk=>es[k]?).length=ns.length:=by
   have:=p.length_eq;have:=n.length_eq;simp at*;lia
  have v:∀(ns:List Nat),(∀k∈ns,k<es.size)->∀(i l:Nat),ns[i]? =some l->es[l]? =(ns.filterMap λk=>es[k]?)[i]? :=by
   intro ns
   induction ns with
   | nil=>intro _ i l hi;simp at hi
   | cons k ns ih=>
    intro H i l hi;have z:=H k (by simp)
    cases i with
    | zero=>simp at hi;subst hi;simp[z]
    | succ i=>
     simp at hi;rw[ih (λj K=>H j (by simp[K])) i l hi];simp[z]
  refine⟨_,_,(ns.filterMap λk=>es[k]?).map (·.2),λA x=>NH (tp:=s.heap.objs.size) x ?_ ?_ hd f ns _ (by simp[r]) λi l hi=>by rw[v ns B i l hi,List.getElem?_map],⟨aJv _ rfl,aJp _ (aJp _ ho),?_⟩,?_,p.map _⟩
  ·rw[Heap.size_push];exact aK2 (aKw c)
  ·rw[Heap.size_push];exact aK2 (aKt _)
  ·exact⟨_,aJp _ (aJv _ rfl),rfl,_,rfl⟩
  ·intro b hb;simp only[List.mem_cons,List.not_mem_nil,or_false]at hb;simp only[Heap.size_push];rcases hb with rfl | rfl | rfl
   ·exact⟨.inr (by simp only[Heap.size_push];exact aMz _),by simp only[Heap.size_push];exact aKt _⟩
   ·exact⟨.inl rfl,aKw (aKw c)⟩
   ·exact⟨.inr (aJq _),aKw (aKt _)⟩
 ·rw[if_neg g];refine aJn (aJo ?_);refine aJn (m:=setEpoch a) (wpAny_setEpoch_of ho hd f ?_);refine aJn (m:=newFields "set_iterator" _) (aKf ?_ (by size_fits));refine aJo ⟨_,rfl,"set_iterator",_,⟨_,aJv _ rfl,rfl⟩,slot_next.lookup,?_⟩;refine h _ _ ⟨λb u e=>aJp _ e,aJq _,⟨rfl,rfl,rfl⟩,?_⟩;have y:a≠s.heap.objs.size:=aK2 c
  cases hbt:w.params.followText "set-order" with
  | true=>
   have p:=u9 (w.params.setOrder a ep) es;refine⟨_,_,(pickOrder (w.params.setOrder a ep) es).toList.map (·.2),λA x=>CA x y hd f (λ_=>0) _ (by have:=p.length_eq;simp at*;lia) λi hi L hs A E Q q=>LB hs hd f hbt (by simpa[Function.comp_def] using q),⟨by lia,aJv _ rfl,aJp _ ho⟩,?_,p.map _⟩;intro b hb;simp only[List.mem_cons,List.not_mem_nil,or_false]at hb;simp only[Heap.size_push];rcases hb with rfl | rfl
   ·exact⟨.inr (aJq _),aKt _⟩
   ·exact⟨.inl rfl,aKw c⟩
  | false=>
   have n:(!t.plain && decide (es.size > 1))=false:=by
    rw[hbt]at g;simpa using g
   refine⟨_,_,es.toList.map (·.2),λA x=>CA x y hd f (uT t) _ (by simp) λi hi L hs A E Q q=>F9 hs hd f ht hbt (by simp[eI,hbt]) n hi (by simpa[Function.comp_def] using q),⟨by lia,aJv _ rfl,aJp _ ho⟩,?_,.refl _⟩;intro b hb;simp only[List.mem_cons,List.not_mem_nil,or_false]at hb;simp only[Heap.size_push];rcases hb with rfl | rfl
   ·exact⟨.inr (aJq _),aKt _⟩
   ·exact⟨.inl rfl,aKw c⟩
end
open PySem.Calls
section
variable {prog:Program}{w:World}{K:Type}[DecidableEq K]{knd:KeyKind prog w K}{A:Around}{E:aNn}{s:Shared}{a:Addr}{ks:List K}{es:Array (Int×Value)}
theorem QM{Q:Bool->Shared->Prop}(e:s.TypeIs (.ref a) "set")(h:Q false s):wpAny (model prog w) A (Builtin.List.listLengthHint (.ref a)) Q E s:=by
 unfold Builtin.List.listLengthHint;refine aJn (aLm e PySem.F.slot_set_len.lookup ?_);generalize d:("set.__len__":String)=id0
 wp_delta
 rw[show splitId id0=some ("set","__len__") from by subst d;decide+kernel];subst d;refine aJn (aLp (T:= "set") (b:=true) e (by rw[isSubtype_type];kernel_rfl) ?_);refine aN1 (λc=>absurd c (by decide)) (λ_=>?_);refine aN1 (λ_=>?_) (λc=>absurd (by decide+kernel) c);refine aJn (aMo e ?_);exact aJo h
theorem QF{vs:List Value}{a:Array Value}(h:ItemsOf (λi v=>vs[i]? =some v) a vs.length):a=vs.toArray:=by
 apply Array.ext_getElem?;intro i;by_cases hi:i<vs.length
 ·have L1:i<a.size:=by rw[h.1];exact hi
  have:=h.2 i a[i] (by simp[L1]);simp[L1,this]
 ·simp[hi,h.1]
theorem FV{R:Result->Shared->Prop}(B:sC (eI w) s.heap a es)(E:A.handled=none)(S:Addr)(n:S≠a)(res:Value)(j:Nat)(p:s.heap.get? S=some {cls:= .type "list",data:= .seq #[] j})
  (K:∀(d :Shared) (vs:List Value) (m :Nat),vs.Perm (es.toList.map (·.2))->d.gens=s.gens->d.os=s.os->(∀b o,b≠S->s.heap.get? b=some o->d.heap.get? b=some o)->d.heap.get? S=some {cls:= .type "list",dict:=none,data:= .seq vs.toArray m,slots:= #[]}->R (.ok (.ret res)) d)
  (Q:es.size<=sizeLine):
  wpAny (model prog w) A.in1 (Builtin.List.listExtendWith (.ref S) (.ref a) res)
   (λfin d =>match fin with | .done f=>R (.ok f) d | .again m =>m.quiet=true/\codeAny (model prog w) A m R d) (λe d =>R (.error e) d) s:=by
 have q:=aJy p;unfold Builtin.List.listExtendWith;refine aJn (aMo (T:= "set") B.typeIs ?_);have L:Builtin.List.listSameRef (.ref S) (.ref a)=false:=by simp[Builtin.List.listSameRef,n]
 have M:(Value.type "set"==Value.type "list")=false:=by decide
 have N:(Value.type "set"==Value.type "tuple")=false:=by decide
 simp only[L,M,N,Bool.or_false,Bool.false_eq_true,if_false];refine aJn (QE B λI s2 it=>?_);obtain⟨fp,St,vs,W,st,C,r⟩:=it.walk
 have G:vs.length=es.size:=by
  have:=r.length_eq;simpa using this
 have t:S∉fp:=λhm=>by
  rcases(C S hm).1 with z | z
  ·exact n z
  ·exact absurd q (Nat.not_lt.mpr z)
 have u:∀(h:Heap) (g H:Nat),St 0 h->(∀b o,b≠S->s.heap.get? b=some o->h.get? b=some o)->
   h.get? S=some {cls:= .type "list",data:= .seq #[] g}->codeAny (model prog w) A (.builtin "list.extend.loop" ⟨[.ref S,.ref I,res],[]⟩) R {s2 with heap:=h,toks:=H}:=by
  intro h g H D O c;refine codeAny_extend_loopS (W A.in1 E).toS (by lia) S t res vs.length 0 _ #[] g rfl (aKz _) D c (ItemsOf.nil _) λd J m hm v x=>?_;rw[QF x]at v;refine K d vs m r (hm.gens.trans it.same.1) (hm.os.trans it.same.2.1) (λb o hb e=>hm.heap b o (λhmem=>?_) (O b o hb e)) v;rcases aK1.mp hmem with P | hmem
  ·exact hb P
  ·rw[List.mem_singleton.mp hmem]at e;exact absurd (aJy e) (Nat.not_lt.mpr it.new)
 have c:=it.kept _ _ p;have k:sC (eI w) s2.heap a es:=B.keep λo e=>it.kept _ _ e;refine aJn (aKd (QM k.typeIs ?_));refine aN1 (λ_=>?_) (λ_=>aJo ⟨aMx PySem.F.plain_extend_loop _,u s2.heap j s2.toks st (λb o _ e=>it.kept _ _ e) c⟩);refine aJn (aKq ?_);refine aJn ?_;show wpAny _ _ (updateSeq S (·.push .none) >>=λ_=>updateSeq S (·.pop)) _ _ _;refine aJn (aN2 c rfl ?_);have i:=aLe (Obj.mapSeq (·.push Value.none)) c rfl;refine aN2 (hz:=by seq_fits) i rfl ?_;have l:=aLe (Obj.mapSeq (·.pop)) i rfl;refine aJo ⟨aMx PySem.F.plain_extend_loop _,u _ _ s2.toks ?_ (λb o hb e=>?_) l⟩
 ·refine(W A.in1 E).frame 0 _ _ st λb hb o e=>?_;have y:b≠S:=λh=>t (h▸hb);exact(aL1 _ _ (aL4 y)).trans ((aL1 _ _ (aL4 y)).trans e)
 ·exact(aL1 _ _ (aL4 hb)).trans ((aL1 _ _ (aL4 hb)).trans (it.kept _ _ e))
theorem zV{R:List Value->Shared->Prop}(r:sC (eI w) s.heap a es)(t:A.handled=none)(u:es.size<=sizeLine)
  (h:∀(c :Shared) (vs:List Value),vs.Perm (es.toList.map (·.2))->c.gens=s.gens->c.os=s.os->(∀b o,s.heap.get? b=some o->c.heap.get? b=some o)->R vs c):
  wpAny (model prog w) A (collect (.ref a)) R E s:=by
 have n:a<s.heap.objs.size:=by obtain⟨o,_,_,ho,_⟩:=r;exact aJy ho
 unfold collect;refine aJn (wpAny_runValue (aLv PySem.F.entry_proto_collect ?_));rw[Around.under_plainId PySem.F.plain_proto_collect _];show wpAny _ A.in1 (newList [] >>=λl=>again (.builtin "list.__iadd__" ⟨[l,.ref a],[]⟩)) _ _ s;refine aJn (aKf ?_);refine aJo ⟨aMx PySem.F.plain_list_iadd _,aLv PySem.F.entry_list_iadd ?_⟩;rw[Around.under_plainId PySem.F.plain_list_iadd _];have g:(s.heap.push {cls:= .type "list",data:= .seq ([]:List Value).toArray}).get? s.heap.objs.size=some {cls:= .type "list",data:= .seq #[]}:=aJv _ rfl;show wpAny _ A.in1 (Builtin.List.listExtendWith (.ref s.heap.objs.size) (.ref a) (.ref s.heap.objs.size)) _ _ _
 have p:=FV (prog:=prog) (A:=A) (s:={s with heap:=s.heap.push {cls:= .type "list",data:= .seq ([]:List Value).toArray}}) (es:=es)
  (R:=λ(q:Result) (c :Shared)=>∃(vs:List Value) (i :Nat),q= .ok (.ret (.ref s.heap.objs.size))/\vs.Perm (es.toList.map (·.2))/\c.gens=s.gens/\c.os=s.os/\
   (∀b o,s.heap.get? b=some o->c.heap.get? b=some o)/\c.heap.get? s.heap.objs.size=some {cls:= .type "list",dict:=none,data:= .seq vs.toArray i,slots:= #[]})
  (r.keep λo e=>aJp _ e) t s.heap.objs.size (aL8 n) (.ref s.heap.objs.size) 0 g
  (λc vs i j hg ho k d =>⟨vs,i,rfl,j,hg,ho,λb o e=>k b o (aK2 (aJy e)) (aJp _ e),d⟩) u
 refine aL9 p (λfin c x=>?_) λe c x=>?_
 ·cases fin with
  | done f=>
   obtain⟨vs,i,e,j,hg,ho,k,d⟩:=x;cases e;show wpAny _ A (load s.heap.objs.size >>=_) _ _ _;refine aJn (wpAny_load d ?_);exact aJo (by simpa using h c vs j hg ho k)
  | again c₁=>
   refine⟨x.1,aMm x.2 λq m y=>?_⟩;obtain⟨vs,i,rfl,j,hg,ho,k,d⟩:=y;show wpAny _ A (load s.heap.objs.size >>=_) _ _ _;refine aJn (wpAny_load d ?_);exact aJo (by simpa using h m vs j hg ho k)
 ·obtain⟨_,_,v,_⟩:=x;cases v
end
def F5:Nat->Nat->Nat
 | 0,x=>x
 | n+1,x=>5*F5 n x+1
theorem RV(m:Nat):∀n x,F5 (m+n) x=F5 m (F5 n x):=by
 induction m with
 | zero=>intro n x;simp[F5]
 | succ m ih=>intro n x;rw[Nat.succ_add];simp only[F5,ih]
theorem RT:∀k,∃u,∀x,F5 (2^k) x=x+2^k*((2*u+1)*(4*x+1))
 | 0=>⟨0,λx=>by simp[F5];lia⟩
 | k+1=>by
  obtain⟨u,h⟩:=RT k;refine⟨u+2^k*((2*u+1)*(2*u+1)),λx=>?_⟩;rw[Nat.pow_succ,Nat.mul_two,RV,h,h];generalize 2^k=p
  grind
theorem half{p y e:Nat}(b:0<p)(h:y % p=e % p)(a:y % (p*2)≠e % (p*2)):(y+p) % (p*2)=e % (p*2):=by
 rw[Nat.mod_mul,Nat.mod_mul]at a⊢;rw[Nat.add_mod_right,Nat.add_div_right _ b];rw[h]at a⊢;have:y / p % 2≠e / p % 2:=λz=>a (by rw[z]);have:(y / p).succ % 2=e / p % 2:=by lia
 rw[this]
theorem RU:∀k x e,∃s,s<2^k/\F5 s x % 2^k=e % 2^k
 | 0,x,e=>⟨0,by simp,by simp[Nat.mod_one]⟩
 | k+1,x,e=>by
  obtain⟨s,hs,h⟩:=RU k x e;have a:0<2^k:=Nat.pow_pos (by lia);rw[Nat.pow_succ];by_cases c:F5 s x % (2^k*2)=e % (2^k*2)
  ·exact⟨s,by lia,c⟩
  ·refine⟨2^k+s,by lia,?_⟩;obtain⟨u,b⟩:=RT k;rw[RV,b,<-half a h c];generalize F5 s x=y;generalize 2^k=p;have:y+p*((2*u+1)*(4*y+1))=y+p+p*2*(u*(4*y+1)+2*y):=by grind
   rw[this,Nat.add_mul_mod_self_left]
def lp(M:Nat)(h:Int):Nat->Nat×Nat
 | 0=>(bits h % (M+1),bits h)
 | r+1=>leap M (lp M h r).1 (lp M h r).2
variable {M:Nat}{h:Int}
theorem PY:∀r,(lp M h r).2=bits h / 32^r
 | 0=>by simp[lp]
 | r+1=>by
  show (lp M h r).2 / 32=_;rw[PY r,Nat.div_div_eq_div_mul,Nat.pow_succ]
theorem WL:bits h<2^64:=by
 unfold bits;have:=aLb h (show (0:Int)<2^64 by decide);have:=aLw h (show (2^64:Int)≠0 by decide)
 lia
theorem XN:∀r,(lp M h r).1<=M
 | 0=>by have:=aNj (bits h) (show 0<M+1 by lia);show bits h % (M+1)<=M;lia
 | r+1=>by
  show ((lp M h r).1*5+1+(lp M h r).2 / 32) % (M+1)<=M;have:=aNj ((lp M h r).1*5+1+(lp M h r).2 / 32) (show 0<M+1 by lia)
  lia
theorem JB:∀s,(lp M h (13+s)).1=F5 s (lp M h 13).1 % (M+1)
 | 0=>by rw[show F5 0 (lp M h 13).1=(lp M h 13).1 from rfl,Nat.mod_eq_of_lt (by have:=XN (M:=M) (h:=h) 13;lia)]
 | s+1=>by
  have e:(lp M h (13+s)).2=0:=by
   rw[PY,Nat.div_eq_of_lt];have:=WL (h:=h);have:(2:Nat)^64<=32^13:=by decide
   have:(32:Nat)^13<=32^(13+s):=Nat.pow_le_pow_right (by lia) (by lia)
   lia
  show ((lp M h (13+s)).1*5+1+(lp M h (13+s)).2 / 32) % (M+1)=(5*F5 s (lp M h 13).1+1) % (M+1);rw[e,JB s];generalize F5 s (lp M h 13).1=y;simp only[Nat.zero_div,Nat.add_zero];rw[Nat.add_mod,Nat.mod_mul_mod,<-Nat.add_mod,Nat.mul_comm]
theorem PZ{k e:Nat}(hm:M+1=2^k)(he:e<=M):∃r,r<=M+13/\(lp M h r).1=e:=by
 obtain⟨s,hs,a⟩:=RU k (lp M h 13).1 e;refine⟨13+s,by lia,?_⟩;rw[JB,hm,a,Nat.mod_eq_of_lt (by lia)]
def adv(M:Nat)(p:Probe):Probe:=
 if p.more > 0 then {p with j:=p.j+1,more:=p.more-1} else
 {p with j:=(leap M p.i p.perturb).1,more:=runEnd M (leap M p.i p.perturb).1-(leap M p.i p.perturb).1,i:=(leap M p.i p.perturb).1,perturb:=(leap M p.i p.perturb).2}
def dW(M:Nat)(h:Int):Nat->Probe
 | 0=>{j:=bits h % (M+1),more:=runEnd M (bits h % (M+1))-bits h % (M+1),i:=bits h % (M+1),perturb:=bits h,dummy:=none}
 | n+1=>adv M (dW M h n)
def ln(M:Nat)(h:Int)(r:Nat):Nat:=runEnd M (lp M h r).1-(lp M h r).1
def Nr(M:Nat)(h:Int):Nat->Nat
 | 0=>0
 | r+1=>Nr M h r+ln M h r+1
theorem XO(r:Nat):ln M h r<=9/\(lp M h r).1+ln M h r<=M:=by
 have:=XN (M:=M) (h:=h) r;unfold ln runEnd;split <;> lia
theorem X1:∀r,Nr M h r<=10*r
 | 0=>by simp[Nr]
 | r+1=>by have:=X1 r;have:=XO (M:=M) (h:=h) r;simp only[Nr];lia
theorem hC:∀r d,d<=ln M h r->dW M h (Nr M h r+d)=⟨(lp M h r).1+d,ln M h r-d,(lp M h r).1,(lp M h r).2,none⟩
 | 0,0,_=>by simp[Nr,dW,lp,ln]
 | r,d+1,hd=>by
  show adv M (dW M h (Nr M h r+d))=_;rw[hC r d (by lia)];unfold adv;rw[if_pos (by simp only;lia)];simp only[Probe.mk.injEq,and_true,true_and]
  lia
 | r+1,0,_=>by
  have e:Nr M h (r+1)+0=Nr M h r+ln M h r+1:=rfl;rw[e];show adv M (dW M h (Nr M h r+ln M h r))=_;rw[hC r (ln M h r) (Nat.le_refl _)];unfold adv;rw[if_neg (by simp)];simp[lp,ln]
theorem FZ:∀n,∃r d,d<=ln M h r/\n=Nr M h r+d
 | 0=>⟨0,0,by lia,rfl⟩
 | n+1=>by
  obtain⟨r,d,hd,rfl⟩:=FZ n;by_cases c:d<ln M h r
  ·exact⟨r,d+1,by lia,by lia⟩
  ·exact⟨r+1,0,by lia,by simp only[Nr];lia⟩
theorem FY(n:Nat):(dW M h n).j<=M:=by
 obtain⟨r,d,hd,rfl⟩:=FZ (M:=M) (h:=h) n;rw[hC r d hd];have:=XO (M:=M) (h:=h) r;simp only;lia
theorem TU(n:Nat):(dW M h n).dummy=none:=by
 obtain⟨r,d,hd,rfl⟩:=FZ (M:=M) (h:=h) n;rw[hC r d hd]
theorem TV{k e:Nat}(hm:M+1=2^k)(he:e<=M):∃n,n<10*turns M/\(dW M h n).j=e:=by
 obtain⟨r,b,a⟩:=PZ (h:=h) hm he;have:=X1 (M:=M) (h:=h) r;refine⟨Nr M h r,by unfold turns;lia,?_⟩;have:=hC (M:=M) (h:=h) r 0 (by lia);rw[Nat.add_zero]at this;rw[this,<-a];rfl
theorem E6(n:Nat):∀fuel j,∃i,j<=i/\sizeAbove.go n fuel (2^j)=2^i/\(n<2^(j+fuel)->n<2^i)/\(2^i<=2^j\/2^i<=2*n)
 | 0,j=>⟨j,aJq _,rfl,λh=>by simpa using h,.inl (aJq _)⟩
 | fuel+1,j=>by
  unfold sizeAbove.go;split
  ·rename_i c;obtain⟨i,d,a,b,h4⟩:=E6 n fuel (j+1);rw[Nat.pow_succ]at a;refine⟨i,by lia,a,λz=>b (by rw[show j+1+fuel=j+(fuel+1) by lia];exact z),?_⟩;rcases h4 with h4 | h4
   ·rw[Nat.pow_succ]at h4;exact .inr (by lia)
   ·exact .inr h4
  ·rename_i c;exact⟨j,aJq _,rfl,λ_=>by lia,.inl (aJq _)⟩
theorem RM{n:Nat}(e:n<2^64):∃i,3<=i/\sizeAbove n=2^i/\n<2^i/\(2^i<=8\/2^i<=2*n):=by
 obtain⟨i,a,b,c,d⟩:=E6 n 64 3;have:(2:Nat)^64<=2^(3+64):=Nat.pow_le_pow_right (by lia) (by lia);exact⟨i,a,b,c (by lia),d⟩
section
variable {M:Nat}{owner:Array (Option Nat)}{h:Int}
theorem J0:∀fuel r a,r<=a->a<r+fuel->(owner.getD (lp M h a).1 (some 0)).isNone=true->
  ∃n,layClean.free M owner fuel (lp M h r).1 (lp M h r).2=some (dW M h n).j/\(owner.getD (dW M h n).j (some 0)).isNone=true/\Nr M h r<=n/\∀m,Nr M h r<=m->m<n->(owner.getD (dW M h m).j (some 0)).isNone=false
 | 0,r,a,h1,h2,_=>by lia
 | fuel+1,r,a,h1,h2,h3=>by
  unfold layClean.free
  have l:runEnd M (lp M h r).1+1-(lp M h r).1=ln M h r+1:=by
   unfold ln runEnd;split <;> lia
  rw[l]
  cases hf:(List.range (ln M h r+1)).find? λk=>(owner.getD ((lp M h r).1+k) (some 0)).isNone with
  | some k=>
   obtain⟨o,as,bs,e,p⟩:=List.find?_eq_some_iff_append.mp hf;have f:k∈List.range (ln M h r+1):=by rw[e];simp
   have b:k<=ln M h r:=by simp at f;lia
   refine⟨Nr M h r+k,?_,?_,by lia,λm m1 g=>?_⟩
   ·rw[hC r k b]
   ·rw[hC r k b];exact o
   ·obtain⟨d,rfl⟩:∃d,m=Nr M h r+d:=⟨m-Nr M h r,by lia⟩
    rw[hC r d (by lia)]
    have hd:d∈as:=by
     have i:as.length=k:=by
      have:=aKo (·[as.length]?) e;simp at this;by_cases c:as.length<ln M h r+1
      ·simp[c]at this;exact this
      ·simp[c]at this
     have:(List.range (ln M h r+1))[d]? =as[d]? :=by rw[e,List.getElem?_append_left (by lia)]
     rw[List.getElem?_range (by lia)]at this;exact aJu this.symm
    have:=p d hd;simpa using this
  | none=>
   have all:=List.find?_eq_none.mp hf
   have q:r≠a:=λz=>by
    subst z;have:=all 0 (by simp);simp only[Nat.add_zero]at this;exact this h3
   obtain⟨n,s,t,u,v⟩:=J0 fuel (r+1) a (by lia) (by lia) h3;refine⟨n,s,t,by simp only[Nr]at u;lia,λm m1 g=>?_⟩;by_cases c:Nr M h (r+1)<=m
   ·exact v m c g
   ·obtain⟨d,rfl⟩:∃d,m=Nr M h r+d:=⟨m-Nr M h r,by lia⟩
    simp only[Nr]at c;rw[hC r d (by lia)];have:=all d (by simp;lia);simp only[Bool.not_eq_true]at this;exact this
end
structure Ow(M:Nat)(owner:Array (Option Nat))(pre:List Int):Prop where
 size:owner.size=M+1
 val:∀(j q:Nat),owner[j]? =some (some q)->q<pre.length
 inj:∀(j j' q:Nat),owner[j]? =some (some q)->owner[j']? =some (some q)->j=j'
 at' :∀(q:Nat) (h:Int),pre[q]? =some h->∃n,owner[(dW M h n).j]? =some (some q)/\∀m,m<n->∃q',owner[(dW M h m).j]? =some (some q')
theorem ndl{b:Type}[DecidableEq b]:∀(l m:List b),l.Nodup->(∀x∈l,x∈m)->l.length<=m.length
 | [],m,_,_=>by simp
 | a::l,m,nd,h=>by
  have c:=aMe.mp nd;have hm:=h a aJs;have:=ndl l (m.erase a) c.2 λx hx=>(List.mem_erase_of_ne (λz:x=a=>c.1 (by rw[<-z];exact hx))).mpr (h x (aJt _ hx));rw[List.length_erase_of_mem hm]at this;have:=List.length_pos_of_mem hm;simp only[List.length_cons];lia
variable{owner:Array (Option Nat)}
theorem p6{M:Nat}(hs:owner.size=M+1)(b:j<=M):((owner.getD j (some 0)).isNone=true↔owner[j]? =some none)/\((owner.getD j (some 0)).isNone=false↔∃q,owner[j]? =some (some q)):=by
 have a:j<owner.size:=by lia
 have e:owner.getD j (some 0)=owner[j]:=by simp[Array.getD,a]
 rw[e];cases o:owner[j] <;> simp[a,o]
theorem Ow.room{M:Nat}{pre:List Int}(w:Ow M owner pre)(l:pre.length<=M):∃e,e<=M/\owner[e]? =some none:=by
 apply aK3;intro i
 have all:∀j,j<=M->∃q,owner[j]? =some (some q):=λj d=>by
  have:=p6 w.size d
  cases c:(owner.getD j (some 0)).isNone with
  | true=>exact absurd ⟨j,d,this.1.mp c⟩ i
  | false=>exact this.2.mp c
 have f:=ndl ((List.range (M+1)).map λj=>((owner[j]?).join).getD 0) (List.range pre.length) ?_ ?_
 ·simp at f;lia
 ·rw[List.nodup_iff_pairwise_ne,List.pairwise_map];refine aMs.imp_of_mem λ{a b} ha hb k=>?_;obtain⟨m,g⟩:=all a (by simp at ha;lia);obtain⟨n,h⟩:=all b (by simp at hb;lia);rw[g,h];simp;intro z;subst z;have:=w.inj a b _ g h
  lia
 ·intro x hx;obtain⟨j,d,rfl⟩:=aK0.mp hx;obtain⟨q,e⟩:=all j (by simp at d;lia);rw[e];simpa using w.val j q e
def stp(M:Nat)(a:Option (Array (Option Nat)×Nat))(h:Int):Option (Array (Option Nat)×Nat):=do
  let (owner,k)<-a
  let j<-layClean.free M owner (turns M) (bits h % (M+1)) (bits h)
  pure (owner.setIfInBounds j (some k),k+1)
theorem NQ{M k:Nat}(f:M+1=2^k):∀(hs pre:List Int) (owner:Array (Option Nat)),Ow M owner pre->pre.length+hs.length<=M->∃a,hs.foldl (stp M) (some (owner,pre.length))=some (a,(pre++hs).length)/\Ow M a (pre++hs)
 | [],pre,owner,w,_=>⟨owner,by simp,by simpa using w⟩
 | h::hs,pre,owner,w,hl=>by
  simp only[List.length_cons]at hl;obtain⟨e,he,g⟩:=w.room (by lia);obtain⟨l,B,o⟩:=PZ (h:=h) f he;obtain⟨n,p,r,_,s⟩:=J0 (M:=M) (owner:=owner) (h:=h) (turns M) 0 l (by lia) (by unfold turns;lia) (by rw[o];exact(p6 w.size he).1.mpr g);have t:=FY (M:=M) (h:=h) n;have u:=(p6 w.size t).1.mp r;have v:(dW M h n).j<owner.size:=by rw[w.size];lia
  have st:stp M (some (owner,pre.length)) h=some (owner.setIfInBounds (dW M h n).j (some pre.length),pre.length+1):=by
   show (do let j<-layClean.free M owner (turns M) (lp M h 0).1 (lp M h 0).2;pure (owner.setIfInBounds j (some pre.length),pre.length+1))=_;rw[p];rfl
  have d:∀j,(owner.setIfInBounds (dW M h n).j (some pre.length))[j]? =if j=(dW M h n).j then some (some pre.length) else owner[j]? :=λj=>by
   rw[Array.getElem?_setIfInBounds];split
   ·rename_i c;rw[if_pos c.symm]
   ·rename_i c;rw[if_neg (λz=>c z.symm)]
  have x :Ow M (owner.setIfInBounds (dW M h n).j (some pre.length)) (pre++[h]):=by
   refine⟨by simp[w.size],λj q e=>?_,λj j' q e b =>?_,λq h' e=>?_⟩
   ·rw[d]at e;split at e
    ·simp at e;subst e;simp
    ·have:=w.val j q e;simp;lia
   ·rw[d]at e b;split at e <;> split at b
    ·lia
    ·simp at e;subst e;have:=w.val j' _ b;lia
    ·simp at b;subst b;have:=w.val j _ e;lia
    ·exact w.inj j j' q e b
   ·by_cases c:q<pre.length
    ·rw[List.getElem?_append_left c]at e;obtain⟨m,m1,y⟩:=w.at' q h' e;refine⟨m,?_,λi hi=>?_⟩
     ·rw[d,if_neg]
      ·exact m1
      ·intro z;rw[z,u]at m1;cases m1
     ·obtain⟨q',b⟩:=y i hi;rw[d];split
      ·exact⟨_,rfl⟩
      ·exact⟨q',b⟩
    ·have A:q=pre.length:=by
      have:=(aJr.mp e).1;simp at this;lia
     subst A;simp at e;subst e;refine⟨n,by rw[d,if_pos rfl],λi hi=>?_⟩;obtain⟨q',b⟩:=(p6 w.size (FY i)).2.mp (s i (by simp[Nr]) hi);rw[d];split
     ·exact⟨_,rfl⟩
     ·exact⟨q',b⟩
  rw[List.foldl_cons,st];have:=NQ f hs (pre++[h]) _ x (by simp;lia);simpa using this
theorem aAr{M k:Nat}(b:M+1=2^k)(hs:Array Int)(c:hs.size<=M):∃owner,layClean M hs=some owner/\Ow M owner hs.toList:=by
 have d:Ow M (Array.replicate (M+1) none) []:=by
  refine⟨by simp,λj q e=>?_,λj j' q e _=>?_,λq h e=>by simp at e⟩
  ·rw[Array.getElem?_replicate]at e;split at e <;> simp at e
  ·rw[Array.getElem?_replicate]at e;split at e <;> simp at e
 obtain⟨owner,f,g⟩:=NQ b hs.toList [] _ d (by simpa using c);refine⟨owner,?_,by simpa using g⟩;unfold layClean;rw[<-Array.foldl_toList];change ((hs.toList.foldl (stp M) (some (Array.replicate (M+1) none,0))).map (·.1))=_;have a :hs.toList.foldl (stp M) (some (Array.replicate (M+1) none,0))=some (owner,([]++hs.toList).length):=f;rw[a];rfl
structure Tb(t:SetTable)(hs:List Int):Prop where
 R5:KG t.place
 dum:t.dummies= #[]
 pow:∃k,3<=k/\t.mask+1=2^k
 le:∀j∈t.place.toList,j<=t.mask
 len:t.place.size=hs.length
 FF:t.place.size<=t.mask
 small:t.mask+1<=8*(hs.length+1)
 reach:∀q∈t.place.toList.zip hs,∃n,(dW t.mask q.2 n).j=q.1/\∀m,m<n->(dW t.mask q.2 m).j∈t.place.toList
theorem Tb.fresh(f m:Nat)(l:Bool):Tb (.fresh f m l) []:=
 ⟨by unfold KG SetTable.fresh;simp,rfl,⟨3,by lia,rfl⟩,by simp[SetTable.fresh],rfl,by simp[SetTable.fresh],by simp[SetTable.fresh],by simp⟩
variable {t:SetTable}{hs:List Int}
theorem Tb.tok(T:Tb t hs):TOk t.led t:=⟨T.R5,T.dum,rfl⟩
theorem Tb.plain(T:Tb t hs)(b:Bool):Tb {t with plain:=b} hs:=⟨T.R5,T.dum,T.pow,T.le,T.len,T.FF,T.small,T.reach⟩
theorem Tb.odd(T:Tb t hs):t.gaveWay=false:=by
 obtain⟨k,a,e⟩:=T.pow;have:2^k=2*2^(k-1):=by rw[<-Nat.pow_succ'];congr 1;lia
 unfold SetTable.gaveWay;simp
 lia
theorem Tb.fits(T:Tb t hs){n:Nat}(a:n=hs.length):t.fits n=true:=by
 have:=T.len;have:=T.FF;simp[SetTable.fits,SetTable.fill,T.dum]
 lia
theorem Tb.slot(T:Tb t hs)(j:Nat):(j∈t.place.toList->∃i:Nat,t.slot j= .live i/\t.place[i]? =some j)/\(j∉t.place.toList->t.slot j= .empty):=by
 unfold SetTable.slot;constructor
 ·intro hm
  have e:t.place[below t.place j]? =some j:=by
   apply aK3;intro z;exact UM T.R5 z hm
  exact⟨below t.place j,by simp[e],e⟩
 ·intro hm;have:t.place[below t.place j]? ≠some j:=λz=>hm (by obtain⟨a,e⟩:=aKx.mp z;rw[<-e];simp);simp[this,T.dum,SetTable.has]
theorem least{P:Nat->Prop}:∀n,P n->∃e,e<=n/\P e/\∀m,m<e->¬P m:=by
 intro n
 induction n using Nat.strongRecOn with
 | _ n b=>
  intro h;by_cases c:∃m,m<n/\P m
  ·obtain⟨m,hm,a⟩:=c;obtain⟨e,g,d,f⟩:=b m hm a;exact⟨e,by lia,d,f⟩
  ·exact⟨n,aJq _,h,λm hm a=>c ⟨m,hm,a⟩⟩
theorem Tb.first(T:Tb t hs)(h:Int):∃E,E<10*turns t.mask/\(dW t.mask h E).j∉t.place.toList/\∀n,n<E->(dW t.mask h n).j∈t.place.toList:=by
 obtain⟨k,_,b⟩:=T.pow
 obtain⟨e,he,c⟩:∃e,e<=t.mask/\e∉t.place.toList:=by
  apply aK3;intro z
  have:=ndl (List.range (t.mask+1)) t.place.toList aLq λx hx=>by
   apply aK3;intro y;exact z ⟨x,by simp at hx;lia,y⟩
  have:=T.FF;simp at*
  lia
 obtain⟨n,d,a⟩:=TV (h:=h) b he;obtain⟨E,i,f,g⟩:=least (P:=λn=>(dW t.mask h n).j∉t.place.toList) n (by rw[a];exact c);exact⟨E,by lia,f,λm hm=>by have:=g m hm;simpa using this⟩
theorem C9(T:Tb t hs){h:Int}{E:Nat}{hashAt:Nat->Int}(k:(dW t.mask h E).j∉t.place.toList)(l:∀n,n<E->(dW t.mask h n).j∈t.place.toList):∀fuel n,n<=E->E<n+fuel->
  (∃a i:Nat,n<=a/\a<E/\t.place[i]? =some (dW t.mask h a).j/\t.slot (dW t.mask h a).j= .live i/\hashAt i=h/\probe.go t hashAt h fuel (dW t.mask h n)=some (.candidate (dW t.mask h a).j i (dW t.mask h (a+1)))/\
   ∀m,n<=m->m<a->∃i:Nat,t.place[i]? =some (dW t.mask h m).j/\hashAt i≠h)\/
  (probe.go t hashAt h fuel (dW t.mask h n)=some (.empty (dW t.mask h E).j none)/\∀m,n<=m->m<E->∃i:Nat,t.place[i]? =some (dW t.mask h m).j/\hashAt i≠h)
 | 0,n,h3,h4=>by lia
 | fuel+1,n,h3,h4=>by
  unfold probe.go;by_cases c:n=E
  ·subst c;rw[(T.slot _).2 k];exact .inr ⟨by simp[TU],λm _ _=>by lia⟩
  ·obtain⟨i,o,b⟩:=(T.slot _).1 (l n (by lia));rw[o];simp only;by_cases d:hashAt i=h
   ·exact .inl ⟨n,i,aJq _,by lia,b,o,d,by rw[if_pos (by simp[d])];rfl,λm _ _=>by lia⟩
   ·rw[if_neg (by simpa using d)];have q:t.advance (dW t.mask h n)=dW t.mask h (n+1):=rfl;rw[q]
    rcases C9 T k l fuel (n+1) (by lia) (by lia) with ⟨a,r,p,e,s,f,u,a5,a6⟩ | ⟨p,e⟩
    ·refine .inl ⟨a,r,by lia,e,s,f,u,a5,λm m1 g=>?_⟩;by_cases z:m=n
     ·subst z;exact⟨i,b,d⟩
     ·exact a6 m (by lia) g
    ·refine .inr ⟨p,λm m1 g=>?_⟩;by_cases z:m=n
     ·subst z;exact⟨i,b,d⟩
     ·exact e m (by lia) g
theorem SF{c d:Type}{l:List c}{m:List d}{a:c}{b:d}{p:Nat}(e:l.length=m.length){q:c×d}(h:q∈(l.take p++a::l.drop p).zip (m.take p++b::m.drop p)):q∈l.zip m\/q=(a,b):=by
 rw[List.zip_append (by simp;lia),List.zip_cons_cons,List.mem_append,List.mem_cons]at h;rw[<-List.take_append_drop p l,<-List.take_append_drop p m,List.zip_append (by simp;lia),List.mem_append];rcases h with h | h | h
 ·exact .inl (.inl h)
 ·exact .inr h
 ·exact .inl (.inr h)
theorem Tb.put(T:Tb t hs){h:Int}{E:Nat}(e:(dW t.mask h E).j∉t.place.toList)(f:∀n,n<E->(dW t.mask h n).j∈t.place.toList)(g:t.place.size+1<=t.mask):
  Tb (t.put (dW t.mask h E).j).1 (hs.take (t.put (dW t.mask h E).j).2++h::hs.drop (t.put (dW t.mask h E).j).2)/\(t.put (dW t.mask h E).j).2<=hs.length/\(t.put (dW t.mask h E).j).1.mask=t.mask/\(t.put (dW t.mask h E).j).1.led=t.led:=by
 have b:=(iS (dW t.mask h E).j T.R5).1;have a:(insertAt t.place (below t.place (dW t.mask h E).j) (dW t.mask h E).j).toList=_:=mZ _ _ _ b
 have sz:(insertAt t.place (below t.place (dW t.mask h E).j) (dW t.mask h E).j).size=t.place.size+1:=by
  rw[<-Array.length_toList,a];simp;lia
 have mem:∀x,x∈t.place.toList->x∈(insertAt t.place (below t.place (dW t.mask h E).j) (dW t.mask h E).j).toList:=λx hx=>by
  rw[a];rw[<-List.take_append_drop (below t.place (dW t.mask h E).j) t.place.toList]at hx;rcases aJx.mp hx with z | z
  ·exact aLn _ z
  ·exact aKh _ (aJt _ z)
 have tl:=T.len;unfold SetTable.put;refine⟨⟨FX T.R5 e,by simp[T.dum,SetTable.has],T.pow,λj c=>?_,?_,?_,?_,λq d=>?_⟩,by simp only;lia,rfl,rfl⟩
 ·simp only at c;rw[a]at c;rcases aJx.mp c with z | z
  ·exact T.le j (aKp z)
  ·rcases aK1.mp z with z | z
   ·rw[z];exact FY E
   ·exact T.le j (aM2 z)
 ·simp only[sz];simp;lia
 ·simp only[sz];exact g
 ·have:=T.small;simp;lia
 ·simp only at d⊢;rw[a]at d;rcases SF (by simpa using tl) d with z | z
  ·obtain⟨n,i,k⟩:=T.reach q z;exact⟨n,i,λm hm=>mem _ (k m hm)⟩
  ·subst z;exact⟨E,rfl,λm hm=>mem _ (f m hm)⟩
theorem VC{M k:Nat}(I:3<=k)(C:M+1=2^k)(hs:Array Int)(J:hs.size<=M)(K:M+1<=8*(hs.size+1))(f N:Nat)(l v:Bool):
  ∃t g,laid M f N l v hs=some (t,g)/\g.toList.Perm (List.range hs.size)/\t.mask=M/\t.led=l/\Tb t (g.toList.filterMap (hs[·]?)):=by
 obtain⟨owner,e,w⟩:=aAr C hs J;unfold laid;rw[e];refine⟨_,_,rfl,?_⟩;generalize D:(List.range (M+1)).filterMap (λj=>(owner.getD j none).map (j, ·))=L
 have mem:∀j q,(j,q)∈L↔owner[j]? =some (some q):=λj q=>by
  rw[<-D];simp only[List.mem_filterMap,List.mem_range,Option.map_eq_some_iff];constructor
  ·rintro⟨j',i,q',p,O⟩;cases O;have r :j<owner.size:=by rw[w.size];exact i
   simp[Array.getD,r]at p;simp[r,p]
  ·intro h;obtain⟨i,p⟩:=aKx.mp h;refine⟨j,by rw[w.size]at i;exact i,q,by simp[Array.getD,i,p],rfl⟩
 have up:L.Pairwise λa b=>a.1<b.1:=by
  rw[<-D,List.pairwise_filterMap];refine aMs.imp_of_mem λ{a b} _ _ s x hx y E=>?_;simp at hx E;obtain⟨c,T,rfl⟩:=hx;obtain⟨d,hd,rfl⟩:=E;exact s
 have nd:(L.map (·.2)).Nodup:=by
  rw[List.nodup_iff_pairwise_ne,List.pairwise_map];refine up.imp_of_mem λ{a b} ha hb s z=>?_;have P:=(mem a.1 a.2).mp ha;have F:=(mem b.1 b.2).mp hb;rw[<-z]at F;have:=w.inj _ _ _ P F
  lia
 have pm:(L.map (·.2)).Perm (List.range hs.size):=by
  refine(List.perm_ext_iff_of_nodup nd aLq).mpr λq=>?_;simp only[List.mem_map,List.mem_range];constructor
  ·rintro⟨a,ha,rfl⟩;have:=w.val _ _ ((mem a.1 a.2).mp ha);simpa using this
  ·intro o;obtain⟨n,A,_⟩:=w.at' q hs[q] (by simp[o]);exact⟨_,(mem _ _).mpr A,rfl⟩
 have U:L.length=hs.size:=by have:=pm.length_eq;simpa using this
 have Q:(L.map (·.2)).filterMap (hs[·]?)=L.map λa=>hs.getD a.2 0:=by
  rw[List.filterMap_map]
  have:∀l:List (Nat×Nat),(∀a∈l,a.2<hs.size)->l.filterMap ((hs[·]?) ∘ (·.2))=l.map λa=>hs.getD a.2 0:=by
   intro l
   induction l with
   | nil=>intro _;rfl
   | cons a l ih=>
    intro G;have ha:=G a aJs;have p:((hs[·]?) ∘ (·.2)) a=some (hs.getD a.2 0):=by simp[Array.getD,ha]
    rw[List.filterMap_cons,p];simp only[List.map_cons];rw[ih λb hb=>G b (List.mem_cons_of_mem _ hb)]
  exact this L λa ha=>by have:=w.val _ _ ((mem a.1 a.2).mp ha);simpa using this
 refine⟨by simpa using pm,rfl,rfl,?_⟩;have B :((L.map (·.2)).toArray.toList.filterMap (hs[·]?))=L.map λa=>hs.getD a.2 0:=Q;rw[B]
 have v:∀j,j∈L.map (·.1)↔∃q,owner[j]? =some (some q):=λj=>by
  simp only[List.mem_map];constructor
  ·rintro⟨a,ha,rfl⟩;exact⟨_,(mem _ _).mp ha⟩
  ·rintro⟨q,o⟩;exact⟨(j,q),(mem _ _).mpr o,rfl⟩
 refine⟨?_,rfl,⟨k,I,C⟩,λj i=>?_,?_,?_,?_,λq o=>?_⟩
 ·show (L.map (·.1)).Pairwise (· < ·);rw[List.pairwise_map];exact up
 ·obtain⟨q,o⟩:=(v j).mp i;have:=(aKx.mp o).1;rw[w.size]at this;show j<=M
  lia
 ·simp
 ·show (L.map (·.1)).toArray.size<=M;simp;lia
 ·show M+1<=_;simp;lia
 ·have u :q∈(L.map (·.1)).zip (L.map λa=>hs.getD a.2 0):=o;rw[List.zip_map']at u;obtain⟨a,ha,rfl⟩:=aK0.mp u;have ho:=(mem a.1 a.2).mp ha;have H:a.2<hs.size:=by have:=w.val _ _ ho;simpa using this
  have R:hs.getD a.2 0=hs[a.2]:=by simp[Array.getD,H]
  obtain⟨n,A,S⟩:=w.at' a.2 (hs.getD a.2 0) (by rw[R];simp[H]);refine⟨n,w.inj _ _ _ A ho,λm hm=>?_⟩;exact(v _).mpr (S m hm)
section
variable {prog:Program}{w:World}{K:Type}[DecidableEq K]{knd:KeyKind prog w K}{A:Around}{E:aNn}{s:Shared}
variable{Q:Bool->Shared->Prop}
theorem DF{ks:List K}{b:Addr}(i:IsTupleKey knd s.heap ks b)(h:Q false s):wpAny (model prog w) A (ofAClassStatement 8 (.ref b)) Q E s:=by
 have j:=i.typeIs;obtain⟨o,items,n,ho,_,hd,hi⟩:=i;unfold ofAClassStatement;refine aJn (aMo j ?_);refine aJn (m:=if ("tuple"== "tuple")=true then pure true else isSubtype (.type "tuple") (.type "tuple")) (aJo ?_);simp only[Bool.not_true,Bool.false_eq_true,if_false];refine aJn (aKs ho hd ?_);refine aJn ?_;show wpAny _ _ (forIn items _ _) _ _ s;rw[<-Array.forIn_toList];refine aL6 _ (λa r d =>r.1=none/\d =s/\∀v∈a,carriedByValue v=true) _ ?_ ?_ _ _ ⟨rfl,rfl,hi.byValue⟩
 ·rintro v a r d ⟨f,rfl,c⟩;have k:=c v aJs
  have e:ofAClassStatement 7 v=pure false:=by
   cases v <;> simp_all[ofAClassStatement,carriedByValue]
  rw[e];refine aJn (aJo ?_);simp only[Bool.false_eq_true,if_false];exact aJo ⟨rfl,rfl,λu g =>c u (aJt _ g)⟩
 ·rintro⟨l,p⟩ d ⟨f,rfl,_⟩;simp only at f;subst f;exact aJo h
theorem UN{k:List K}{b:Addr}(l:IsTupleKey knd s.heap k b)(stored:List Value)(f:∀y∈stored,∃k b,y= .ref b/\IsTupleKey knd s.heap k b)(h:Q false s):wpAny (model prog w) A (searchCouldBeSeen (.ref b) stored) Q E s:=by
 unfold searchCouldBeSeen;refine aJn ?_;refine aL6 _ (λc r g =>r.1=none/\g =s/\∀y∈c,∃k b,y= .ref b/\IsTupleKey knd s.heap k b) _ ?_ ?_ _ _ ⟨rfl,rfl,f⟩
 ·rintro v c r g ⟨i,rfl,d⟩;obtain⟨m,n,rfl,e⟩:=d v aJs;have a :=λu j =>d u (aJt _ j);dsimp only;split
  ·exact aJo ⟨rfl,rfl,a⟩
  ·refine aJn (wpAny_eqIsQuiet_tuple l ?_);simp only[Bool.not_true,Bool.false_eq_true,if_false];refine aJn (wpAny_eqIsQuiet_tuple e ?_);simp only[Bool.not_true,Bool.false_eq_true,if_false];refine aJn (DF l ?_);simp only[Bool.false_eq_true,if_false];refine aJn (DF e ?_);simp only[Bool.false_eq_true,if_false];exact aJo ⟨rfl,rfl,a⟩
 ·rintro⟨o,p⟩ g ⟨i,rfl,_⟩;simp only at i;subst i;exact aJo h
theorem byValue{k:List K}{b:Addr}(hsc:∀k v,knd.is k v=true->v.scannable=true)(g:IsTupleKey knd s.heap k b)(h:∀r,Q r s):wpAny (model prog w) A (hashByValue 8 (.ref b)) Q E s:=by
 have i:=g.typeIs;obtain⟨o,items,n,ho,_,hd,hi⟩:=g
 have a:∀v∈items.toList,v.scannable=true:=by
  clear hd;generalize items.toList=vs at hi
  induction hi with
  | nil=>intro v hv;cases hv
  | cons j _ l=>
   intro v hv;rcases aK1.mp hv with rfl | hv
   ·exact hsc _ _ j
   ·exact l v hv
 unfold hashByValue;refine aJn (aLm i aLz.lookup ?_);dsimp only;refine aJn (aKs ho hd ?_);refine aJn ?_;show wpAny _ _ (forIn items _ _) _ _ s;rw[<-Array.forIn_toList];refine aL6 _ (λc r d =>r.1=none/\d =s/\∀v∈c,v.scannable=true) _ ?_ ?_ _ _ ⟨rfl,rfl,a⟩
 ·rintro v c r d ⟨e,rfl,a⟩;rw[hashByValue_scannable 7 (a v List.mem_cons_self)];refine aJn (aJo ?_);split
  ·exact aJo (aJo (h _))
  ·exact aJo ⟨rfl,rfl,λu f =>a u (aJt _ f)⟩
 ·rintro⟨m,p⟩ d ⟨e,rfl,_⟩;simp only at e;subst e;exact aJo (h _)
end
section
variable {prog:Program}{w:World}{K:Type}[DecidableEq K]{knd:KeyKind prog w K}{A:Around}{E:aNn}{s:Shared}
def MY(knd:KeyKind prog w K)(p:List K×Addr):Int×Value:=(tupleKeyHash knd p.1,.ref p.2)
structure HL(knd:KeyKind prog w K)(h:Heap)(a:Addr)(o:Obj)(es:Array (Int×Value))(ep:Nat)(t:SetTable)(ps:List (List K×Addr)):Prop where
 ho:h.get? a=some o
 hx:o.ExactSet
 hd:o.data= .set es ep t
 he:es.toList=ps.map (MY knd)
 is:∀p∈ps,IsTupleKey knd h p.1 p.2
 tb:Tb t (ps.map λp=>tupleKeyHash knd p.1)
variable {a:Addr}{o:Obj}{es:Array (Int×Value)}{ep:Nat}{t:SetTable}{ps:List (List K×Addr)}
theorem HL.size(S:HL knd s.heap a o es ep t ps):es.size=ps.length:=by
 have:=aKo List.length S.he;simpa using this
theorem HL.fits(S:HL knd s.heap a o es ep t ps):t.fits es.size=true:=S.tb.fits (by rw[S.size];simp)
theorem HL.at'(S:HL knd s.heap a o es ep t ps)(h:t.place[i]? =some j):∃p,ps[i]? =some p/\es[i]? =some (MY knd p):=by
 have b:=S.tb.len;have hi:=(aKx.mp h).1;simp at b;have L1:i<ps.length:=by lia
 refine⟨ps[i],by simp[L1],?_⟩;rw[<-Array.getElem?_toList,S.he,List.getElem?_map];simp[L1]
theorem HL.absent(S:HL knd s.heap a o es ep t ps){k:List K}{F:Nat}(b:(dW t.mask (tupleKeyHash knd k) F).j∉t.place.toList)
  (l:∀m,m<F->∃(i:Nat) (p:List K×Addr),t.place[i]? =some (dW t.mask (tupleKeyHash knd k) m).j/\ps[i]? =some p/\p.1≠k):k∉ps.map (·.1):=by
 intro hm;obtain⟨p,q,rfl⟩:=aK0.mp hm;obtain⟨i,hi⟩:=aKi.mp q;have r:=S.tb.len;simp at r;have L1:=(aJr.mp hi).1;have u :t.place[i]? =some (t.place[i]'(by lia)):=by simp[show i<t.place.size by lia]
 obtain⟨n,c,e⟩:=S.tb.reach (t.place[i]'(by lia),tupleKeyHash knd p.1) (by
  refine aKi.mpr ⟨i,?_⟩;rw[List.getElem?_zip_eq_some]
  exact⟨by simp[show i<t.place.size by lia],by simp[hi]⟩)
 simp only at c e
 have v:n<F:=by
  apply aK3;intro z;rcases aMh (aM6 z) with z | z
  ·exact b (e F z)
  ·rw[z,c]at b;exact b (by simp)
 obtain⟨f,y,g,h,w⟩:=l n v;rw[c]at g
 have d :=(aKx.mp g)
 have:f =i:=by
  obtain⟨x,A⟩:=d;rcases aNd f i with z | z | z
  ·have:=u5 S.tb.R5 z (by lia);lia
  ·exact z
  ·have:=u5 S.tb.R5 z x;lia
 subst this;rw[hi]at h;cases h;exact w rfl
theorem IK{k:List K}{b:Addr}{Q:SetFound->Shared->Prop}{F:Nat}(C:A.units<cLine)(S:HL knd s.heap a o es ep t ps)(B:IsTupleKey knd s.heap k b)(D:(dW t.mask (tupleKeyHash knd k) F).j∉t.place.toList)
  (N:∀n,n<F->(dW t.mask (tupleKeyHash knd k) n).j∈t.place.toList) (W:F<10*turns t.mask) (G:k∈ps.map (·.1)->Q (.there none) s) (O:k∉ps.map (·.1)->Q (.free (dW t.mask (tupleKeyHash knd k) F).j false) s):
  ∀fuel n g,g.getD (t.probeStart (tupleKeyHash knd k))=dW t.mask (tupleKeyHash knd k) n->n<=F->F<n+fuel->
   (∀m,m<n->∃(i:Nat) (p:List K×Addr),t.place[i]? =some (dW t.mask (tupleKeyHash knd k) m).j/\ps[i]? =some p/\p.1≠k)->wpAny (model prog w) A (setSearchFrom a (.ref b) (tupleKeyHash knd k) true fuel g) Q E s
 | 0,n,g,_,h3,h4,_=>by lia
 | fuel+1,n,g,hst,h3,h4,hno=>by
  unfold setSearchFrom;refine aJn (aKn S.ho S.hd S.fits ?_);dsimp only;rw[S.tb.odd,if_neg Bool.false_ne_true];rw[hst]
  have P:∀m i:Nat,t.place[i]? =some (dW t.mask (tupleKeyHash knd k) m).j->(es[i]?.map (·.1)).getD 0≠tupleKeyHash knd k->∃(i:Nat) (p:List K×Addr),t.place[i]? =some (dW t.mask (tupleKeyHash knd k) m).j/\ps[i]? =some p/\p.1≠k:=λm i h u=>by
   obtain⟨p,l,q⟩:=S.at' h;exact⟨i,p,h,l,λz=>u (by rw[q,<-z];rfl)⟩
  rcases C9 S.tb (hashAt:=λi=>(es[i]?.map (·.1)).getD 0) D N (10*turns t.mask) n h3 (by lia) with ⟨r,i,R,T,U,v,a4,a5,a6⟩ | ⟨R,T⟩
  ·have e:∀f:Nat->Int,(∀i,f i=(es[i]?.map (·.1)).getD 0)->t.probe f (tupleKeyHash knd k) (dW t.mask (tupleKeyHash knd k) n)=some (.candidate (dW t.mask (tupleKeyHash knd k) r).j i (dW t.mask (tupleKeyHash knd k) (r+1))):=λf H=>by rw[funext H];exact a5
   rw[e]
   ·dsimp only;obtain⟨p,l,q⟩:=S.at' U;have V:=S.is p (aJu l)
    have step:p.1≠k->wpAny (model prog w) A (setSearchFrom a (.ref b) (tupleKeyHash knd k) true fuel (some (dW t.mask (tupleKeyHash knd k) (r+1)))) Q E s:=λI=>
     IK C S B D N W G O fuel (r+1) _ rfl (by lia) (by lia) λm hm=>by
      by_cases c:m<n
      ·exact hno m c
      ·by_cases d:m<r
       ·obtain⟨J,h,u⟩:=a6 m (by lia) d;exact P m J h u
       ·have:m=r:=by lia
        subst this;exact⟨i,p,U,l,I⟩
    refine aN1 (λ_=>?_) (λ_=>?_)
    ·refine aJn (UN B _ (λy X=>?_) ?_)
     ·obtain⟨Y,L,rfl⟩:=aK0.mp X
      have x:Y ∈es.toList:=by
       have:=Array.mem_toList_iff.mp L;exact Array.mem_toList_iff.mpr (Array.mem_of_mem_filter this)
      rw[S.he]at x;obtain⟨Z,M,rfl⟩:=aK0.mp x;exact⟨_,_,rfl,S.is Z M⟩
     ·simp only[Bool.false_eq_true,if_false];rw[q];dsimp only[MY];refine aJn (aKd (wpAny_eqBool_tuple C V B ?_));refine aJn (aKn S.ho S.hd S.fits ?_);dsimp only;by_cases c:p.1=k
      ·rw[decide_eq_true c];exact aJo (G (by rw[<-c];exact aKl (aJu l)))
      ·rw[decide_eq_false c];simp only[Bool.and_false,Bool.false_eq_true,if_false,SetTable.sameMemory,beq_self_eq_true,if_true,v];rw[q];dsimp only[MY];refine aJn (wpAny_isSame_ref_self ?_);simp only[if_true];exact aJn (aJo (step c))
    ·rw[q];dsimp only[MY];refine aJn (aKd (wpAny_eqBool_tuple C V B ?_));refine aJn (aKn S.ho S.hd S.fits ?_);dsimp only;by_cases c:p.1=k
     ·rw[decide_eq_true c];exact aJo (G (by rw[<-c];exact aKl (aJu l)))
     ·rw[decide_eq_false c];simp only[Bool.and_false,Bool.false_eq_true,if_false,SetTable.sameMemory,beq_self_eq_true,if_true,v];rw[q];dsimp only[MY];refine aJn (wpAny_isSame_ref_self ?_);simp only[if_true];exact aJn (aJo (step c))
   ·intro i;rfl
  ·have e:∀f:Nat->Int,(∀i,f i=(es[i]?.map (·.1)).getD 0)->t.probe f (tupleKeyHash knd k) (dW t.mask (tupleKeyHash knd k) n)=some (.empty (dW t.mask (tupleKeyHash knd k) F).j none):=λf H=>by rw[funext H];exact R
   rw[e]
   ·dsimp only;refine aJo (O (S.absent D λm hm=>?_));by_cases c:m<n
    ·exact hno m c
    ·obtain⟨J,h,u⟩:=T m (by lia) hm;exact P m J h u
   ·intro i;rfl
end
section
variable {prog:Program}{w:World}{K:Type}[DecidableEq K]{knd:KeyKind prog w K}{A:Around}{E:aNn}{s:Shared}{a:Addr}
variable{es:Array (Int×Value)}
theorem QC{h h' :Heap}{k:List K}{b:Addr}{o:Obj}{ep:Nat}{t:SetTable}(x:IsTupleKey knd h k b)(ho:h.get? a=some o)(hd:o.data= .set es ep t)(hs:Heap.SameBut a h h'):IsTupleKey knd h' k b:=by
 obtain⟨o',items,n,d,f,c,hi⟩:=x
 have e:b≠a:=by
  rintro rfl;obtain rfl:o' =o:=aK5 (d.symm.trans ho);rw[hd]at c;exact nomatch c
 exact⟨o',items,n,(hs.2 b e).trans d,f,c,hi⟩
def FC(knd:KeyKind prog w K)(Ad:List K->Addr->Prop)(l:Bool)(h:Heap)(a:Addr)(ks:List (List K)):Prop:=
 ∃o es ep t ps,HL knd h a o es ep t ps/\(ps.map (·.1)).Perm ks/\ks.Nodup/\t.led=l/\t.place.size*5<t.mask*3/\∀p∈ps,Ad p.1 p.2
variable {Ad:List K->Addr->Prop}{l:Bool}
theorem HL.store{o:Obj}{es b :Array (Int×Value)}{ep:Nat}{t t' :SetTable}{ps c :List (List K×Addr)}(S:HL knd s.heap a o es ep t ps)(he:b.toList=c.map (MY knd))(e:∀p∈c,IsTupleKey knd s.heap p.1 p.2)(tb:Tb t' (c.map λp=>tupleKeyHash knd p.1)):
  HL knd (s.heap.update a (Obj.putSet b t')) a {o with data:= .set b (ep+1) t'} b (ep+1) t' c :=by
 have hg:(s.heap.update a (Obj.putSet b t')).get? a=some {o with data:= .set b (ep+1) t'}:=by
  have:=aLe (Obj.putSet b t') S.ho (by rw[putSet_of b t' S.hd];rfl);rw[putSet_of b t' S.hd]at this;exact this
 exact⟨hg,S.hx,rfl,he,λp d =>QC (e p d) S.ho S.hd (aKj _ _ _),tb⟩
theorem YZ{o:Obj}{ep:Nat}{t:SetTable}{ps:List (List K×Addr)}{Q:Unit->Shared->Prop}(S:HL knd s.heap a o es ep t ps)(C:0<ps.length)(D:ps.length<=1000)
  (q:∀h' o' f g t' c,Heap.SameBut a s.heap h' ->HL knd h' a o' f g t' c ->c.Perm ps->t'.led=t.led->t'.place.size*5<t'.mask*3->Q () {s with heap:=h'}):
  wpAny (model prog w) A (setRelay a (grown ps.length)) Q E s:=by
 have sz:=S.size;have m:grown ps.length=ps.length*4:=by unfold grown;rw[if_neg (by lia)]
 have big:(1000*4:Nat)<2^64:=by decide
 obtain⟨i,r,l,F,G⟩:=RM (n:=ps.length*4) (by lia);have H:=PySem.sizeLine_eq;unfold setRelay;refine aJn (aKn S.ho S.hd S.fits ?_);dsimp only;rw[m,l,if_neg (by lia)];obtain⟨t',b,u,v,I,x,y⟩:=VC (M:=2^i-1) (k:=i) r (by lia) (es.map (·.1)) (by simp;lia) (by simp;lia) t.finger (t.movedTo (2^i-1)) t.led t.plain;have z:t.relaid (es.map (·.1)) (ps.length*4)=some (t',b):=by unfold relaid;rw[l];exact u
 rw[z]
 have pm:(b.toList.filterMap (ps[·]?)).Perm ps:=by
  have e:=v.filterMap (ps[·]?)
  have h:(List.range (es.map (·.1)).size).filterMap (ps[·]?)=ps:=by
   have:=rF ps;simpa[sz] using this
  rw[h]at e;exact e
 have d :(b.filterMap (es[·]?)).toList=(b.toList.filterMap (ps[·]?)).map (MY knd):=by
  rw[Array.toList_filterMap,List.map_filterMap];congr 1;funext j;rw[<-Array.getElem?_toList,S.he,List.getElem?_map]
 have hs:(b.filterMap (es[·]?)).size=es.size:=by
  rw[<-Array.length_toList,d,List.length_map,pm.length_eq,sz]
 have tb:Tb t' ((b.toList.filterMap (ps[·]?)).map λp=>tupleKeyHash knd p.1):=by
  have:(b.toList.filterMap (ps[·]?)).map (λp=>tupleKeyHash knd p.1)=b.toList.filterMap ((es.map (·.1))[·]?):=by
   rw[List.map_filterMap];congr 1;funext j;rw[Array.getElem?_map,<-Array.getElem?_toList,S.he,List.getElem?_map,Option.map_map];rfl
  rw[this];exact y
 refine aJn (aNc (a:=(b.filterMap (es[·]?),t')) ?_ ?_)
 ·show (if ((b.filterMap (es[·]?)).size !=es.size)=true then _ else _)=_;rw[if_neg (by simp[hs])]
 ·dsimp only;refine wpAny_storeSet_of S.ho S.hd (q _ _ _ _ _ _ (aKj _ _ _) (S.store d (λp B=>S.is p (pm.mem_iff.mp B)) tb) pm x ?_) (by lia);have e:=tb.len;have h:=pm.length_eq;rw[List.length_map,h]at e
  lia
def kM(ks:List (List K))(k:List K):List (List K):=if k∈ks then ks else ks++[k]
theorem aJc{k:List K}{b:Addr}{ks:List (List K)}{Q:Bool->Shared->Prop}(hu:A.units<cLine)(hsc:∀k v,knd.is k v=true->v.scannable=true)(P:IsTupleKey knd s.heap k b)(ha:Ad k b)(S:FC knd Ad l s.heap a ks)(hl:ks.length<1000)
  (q:∀r h',Heap.SameBut a s.heap h' ->FC knd Ad l h' a (kM ks k)->Q r {s with heap:=h'}):wpAny (model prog w) A (setAddHashed a (.ref b) (tupleKeyHash knd k)) Q E s:=by
 obtain⟨o,es,ep,t,ps,S,pm,nd,h,C,D⟩:=S;have ln:=pm.length_eq;simp at ln;obtain⟨F,hF,f1,f2⟩:=S.tb.first (tupleKeyHash knd k);have sm:=S.tb.small;have tl:=S.tb.len;simp at sm tl;unfold setAddHashed;refine aKd ?_;unfold setAddHashedIn;refine aJn (aKn S.ho S.hd S.fits ?_);dsimp only;rw[if_neg (by simp[byScan,Value.scannable])];refine aJn ?_;unfold setSearch;refine IK hu S P f1 f2 hF (λhm=>?_) (λhm=>?_) 100000 0 none rfl (by lia) (by unfold turns at hF;lia) (λm hm=>by lia)
 ·dsimp only;refine aJo ?_;have e:s={s with heap:=s.heap}:=by cases s;rfl
  have g:k∈ks:=pm.mem_iff.mp hm;have:=q false s.heap (Heap.SameBut.refl a s.heap) ⟨o,es,ep,t,ps,S,by unfold kM;rw[if_pos g];exact pm,by unfold kM;rw[if_pos g];exact nd,h,C,D⟩;rw[e];exact this
 ·dsimp only;have g:k∉ks:=λz=>hm (pm.mem_iff.mpr z);refine aJn (aKn S.ho S.hd S.fits ?_);dsimp only;obtain⟨tb,R,d,f⟩:=S.tb.put f1 f2 (by lia);generalize hput:t.put (dW t.mask (tupleKeyHash knd k) F).j=pt at tb R d f⊢;obtain⟨t1,c⟩:=pt;dsimp only at tb R d f⊢;have p1l:c<=ps.length:=by simpa using R
  have sz:=S.size;have T:((ps.map λp=>tupleKeyHash knd p.1).take c++tupleKeyHash knd k::(ps.map λp=>tupleKeyHash knd p.1).drop c)=(ps.take c++(k,b)::ps.drop c).map λp=>tupleKeyHash knd p.1:=by simp[List.map_take,List.map_drop]
  rw[T]at tb
  have G :(insertAt es c (tupleKeyHash knd k,Value.ref b)).toList=(ps.take c++(k,b)::ps.drop c).map (MY knd):=by
   rw[mZ _ _ _ (by lia),S.he];simp[List.map_take,List.map_drop,MY]
  have mem:∀p,p∈ps.take c++(k,b)::ps.drop c↔p∈ps\/p=(k,b):=λp=>by
   rw[List.mem_append,List.mem_cons];have:=aLf c ps
   conv=>rhs;rw[<-this,List.mem_append]
   constructor
   ·rintro(z | z | z);exact .inl (.inl z);exact .inr z;exact .inl (.inr z)
   ·rintro((z | z) | z);exact .inl z;exact .inr (.inr z);exact .inr (.inl z)
  have H:((ps.take c++(k,b)::ps.drop c).map (·.1)).Perm (kM ks k):=by
   unfold kM;rw[if_neg g]
   have h1:(ps.take c++(k,b)::ps.drop c).Perm (ps++[(k,b)]):=by
    have:(ps.take c++(k,b)::ps.drop c).Perm ((k,b)::(ps.take c++ps.drop c)):=List.perm_middle;rw[List.take_append_drop]at this;exact this.trans (aL5 (l₁:=[(k,b)]))
   have h2:=h1.map (·.1);have h3:((ps++[(k,b)]).map (·.1)).Perm (ks++[k]):=by rw[List.map_append];exact pm.append_right [k]
   exact h2.trans h3
  have I:(kM ks k).Nodup:=by
   unfold kM;rw[if_neg g,List.nodup_append];exact⟨nd,by simp,λx hx y hy=>by simp at hy;subst hy;exact λz=>g (z▸hx)⟩
  have i:(ps.take c++(k,b)::ps.drop c).length=ps.length+1:=by simp;lia
  have esz:(insertAt es c (tupleKeyHash knd k,Value.ref b)).size=ps.length+1:=by rw[<-Array.length_toList,G,List.length_map,i]
  have zl:=PySem.sizeLine_eq
  have U:∀p∈ps.take c++(k,b)::ps.drop c,IsTupleKey knd s.heap p.1 p.2:=λp J=>by
   rcases(mem p).mp J with z | z
   ·exact S.is p z
   ·rw[z];exact P
  have L:∀p∈ps.take c++(k,b)::ps.drop c,Ad p.1 p.2:=λp J=>by
   rcases(mem p).mp J with z | z
   ·exact D p z
   ·rw[z];exact ha
  have n:∀u:SetTable,Tb u ((ps.take c++(k,b)::ps.drop c).map λp=>tupleKeyHash knd p.1)->u.mask=t.mask->u.led=t.led->
    wpAny (model prog w) A (do
     storeSet a (insertAt es c (tupleKeyHash knd k,Value.ref b)) u
     if (!false && u.tooFull)=true then do setRelay a (grown (es.size+1));pure true else pure true) Q E s:=λu B m2 l2=>by
   refine aJn (wpAny_storeSet_of S.ho S.hd ?_ (by lia));have S1:=S.store (s:=s) G U B;have M:=aKj s.heap a (Obj.putSet (insertAt es c (tupleKeyHash knd k,Value.ref b)) u);have V :=B.len;rw[List.length_map,i]at V;split
   ·rename_i hfull;rw[sz,<-i];refine aJn (YZ (s:={s with heap:=s.heap.update a (Obj.putSet (insertAt es c (tupleKeyHash knd k,Value.ref b)) u)}) S1 (by lia) (by lia) λh' o' W X t' Y Z S2 N l3 O=>?_);exact aJo (q true h' (M.trans Z) ⟨o',W,X,t',Y,S2,(N.map _).trans H,I,by rw[l3,l2];exact h,O,λp J=>L p (N.mem_iff.mp J)⟩)
   ·rename_i hfull
    have hf2:u.place.size*5<u.mask*3:=by
     simp[SetTable.tooFull,SetTable.fill,B.dum]at hfull;exact hfull
    exact aJo (q true _ M ⟨_,_,_,_,_,S1,H,I,by rw[l2];exact h,hf2,L⟩)
  split
  ·refine aJn (byValue hsc P λr=>?_)
   cases r with
   | true=>exact n t1 tb d f
   | false=>exact n _ (tb.plain false) d f
  ·exact aJn (aJo (n t1 tb d f))
end
section
variable {prog:Program}{w:World}{K:Type}[DecidableEq K]{knd:KeyKind prog w K}{A:Around}{E:aNn}{s:Shared}{a:Addr}{Ad:List K->Addr->Prop}{l:Bool}
theorem G0{h:Heap}(ho:h.get? a=some {cls:= .type "set",dict:=none,data:= .set #[] 0 (.fresh 0 0 (eI w))}):FC knd Ad (eI w) h a []:=
 ⟨_,#[],0,_,[],⟨ho,⟨rfl,rfl,rfl⟩,rfl,rfl,by simp,.fresh 0 0 _⟩,by simp,by simp,rfl,by simp[SetTable.fresh],by simp⟩
def dS(ks:List (List K))(xs:List (List K)):List (List K):=xs.foldl kM ks
theorem jI:∀(xs ks:List (List K)),(dS ks xs).length<=ks.length+xs.length
 | [],ks=>by simp[dS]
 | x::xs,ks=>by
  have a:=jI xs (kM ks x);have b:(kM ks x).length<=ks.length+1:=by unfold kM;split <;> simp
  simp only[dS,List.foldl_cons,List.length_cons]at*
  lia
theorem sS{j:List K}:∀{xs ks:List (List K)},j∈dS ks xs↔j∈ks\/j∈xs
 | [],ks=>by simp[dS]
 | x::xs,ks=>by
  have:=sS (j:=j) (xs:=xs) (ks:=kM ks x);simp only[dS,List.foldl_cons]at*;rw[this];unfold kM;split
  ·rename_i h;simp only[List.mem_cons];constructor
   ·rintro(z | z);exact .inl z;exact .inr (.inr z)
   ·rintro(z | z | z);exact .inl z;exact .inl (z▸h);exact .inr z
  ·simp[or_assoc]
theorem FC.keep{h h' :Heap}{ks:List (List K)}{x:Addr}(S:FC knd Ad l h a ks)(k:∀b o,b≠x->h.get? b=some o->h'.get? b=some o)(ha:a≠x)(hx:∀k b,Ad k b->b≠x):FC knd Ad l h' a ks:=by
 obtain⟨o,es,ep,t,ps,S,f,g,i,j,c⟩:=S;refine⟨o,es,ep,t,ps,⟨k _ _ ha S.ho,S.hx,S.hd,S.he,λp d=>?_,S.tb⟩,f,g,i,j,c⟩;obtain⟨o',aJ,n,e,r⟩:=S.is p d;exact⟨o',aJ,n,k _ _ (hx _ _ (c p d)) e,r⟩
theorem FU{c:Addr}{items:Array Value}{xs:List (List K)}{Q:aNn}(O:A.units+3<cLine)(hsc:∀k v,knd.is k v=true->v.scannable=true)
  (I:A.handled=none) (J:s.heap.IsList c items\/s.heap.IsTuple c items) (hx:xs.length=items.size) (hi:∀(i:Nat) (v:Value),items[i]? =some v->∃k b,xs[i]? =some k/\v= .ref b/\IsTupleKey knd s.heap k b/\Ad k b) (x:∀k b,Ad k b->b<s.heap.objs.size) (hb:items.size<1000)
  (h:∀(h' :Heap) (y:Nat),FC knd Ad (eI w) h' s.heap.objs.size (dS [] xs)->
   (∀b o,b<s.heap.objs.size->s.heap.get? b=some o->h'.get? b=some o)->Q (.ref s.heap.objs.size) {s with heap:=h',toks:=y}):
  wpAny (model prog w) A (call (.type "set") [.ref c]) Q E s:=by
 refine YQ I J (λi h=>FC knd Ad (eI w) h s.heap.objs.size (dS [] (xs.take i))/\∀(j:Nat) (v:Value),items[j]? =some v->∃k b,xs[j]? =some k/\v= .ref b/\IsTupleKey knd h k b/\Ad k b)
  (λi h h' v k=>⟨v.1.keep k (aK2 (aKt _)) (λk b z=>by have:=x k b z;lia),λj L e=>?_⟩) (λi v G P R H l q=>?_) (λh' e k=>⟨G0 e,λj v e=>?_⟩) λh' y l k=>h h' y (by have:=l.1;rw[List.take_of_length_le (by lia)]at this;exact this) k
 ·obtain⟨a,b,m,p,⟨o,aJ,n,t,r⟩,g⟩:=v.2 j L e;exact⟨a,b,m,p,⟨o,aJ,n,k b o (by have:=x a b g;lia) t,r⟩,g⟩
 ·obtain⟨a,b,B,rfl,d,C⟩:=l.2 i v H;have M:i<items.size:=(aKx.mp H).1;unfold setAdd;refine aKd (aJn (wpAny_pyHash_tuple (show A.units+1+1+1<cLine by lia) d ?_));have N:(dS [] (xs.take i)).length<1000:=by have:=jI (xs.take i) [];simp at this;lia
  refine aJc (s:={G with toks:=G.toks+(a.length+1)}) (show A.units+1+1+1<cLine by lia) hsc d C l.1 N λr h' u D=>q r _ h' (by simp) u ⟨?_,λj v e=>?_⟩
  ·rw[List.take_add_one,B];simpa[dS] using D
  ·obtain⟨f,F,m,p,⟨o,aJ,n,t,r⟩,g⟩:=l.2 j v e;exact⟨f,F,m,p,⟨o,aJ,n,(u.2 F (by have:=x f F g;lia)).trans t,r⟩,g⟩
 ·obtain⟨a,b,m,p,⟨o,aJ,n,t,r⟩,g⟩:=hi j v e;exact⟨a,b,m,p,⟨o,aJ,n,k b o t,r⟩,g⟩
end
end ST
namespace L2
open PySem PySem.Spec PyProof.Rows
def nA:List (Str×NameKind)->List (Str×Addr)->List (Str×Addr)->List (Str×Addr)
 | [],_,acc=>acc
 | (n,k)::r,cells,acc=>nA r cells (if k== .free then (n,(cells.lookup n).getD 0)::acc else acc)
theorem zC{env:Env}:∀(names:List (Str×NameKind)) (b:List (Str×Addr)),(∀x∈names,x.2= .free->∃c,env.cells.lookup x.1=some c)->
  (forIn names b λ(x:Str×NameKind) (cs:List (Str×Addr))=>(if (x.2==NameKind.free)=true then do let a<-cellOf env x.1;pure (ForInStep.yield ((x.1,a)::cs)) else pure (ForInStep.yield cs):Sem _))=(pure (nA names env.cells b):Sem _)
 | [],b,_=>by simp[nA]
 | (n,k)::r,b,h=>by
  have f:=λd =>zC (env:=env) r d λx hx=>h x (aJt _ hx);rw[List.forIn_cons];by_cases g:k= .free
  ·subst g;obtain⟨c,i⟩:=h (n,.free) aJs rfl;have e :env.cells.lookup n=some c:=i;simp only[nA,beq_self_eq_true,if_true,cellOf,e,pure_bind,Option.getD_some];exact f _
  ·have hb:(k==NameKind.free)=false:=by simpa using g
   simp only[nA,hb,Bool.false_eq_true,if_false,pure_bind];exact f _
variable{scope:Scope}{env:Env}
theorem xR(h:∀x∈scope.names,x.2= .free->∃c,env.cells.lookup x.1=some c):closureFor scope env=pure (nA scope.names env.cells []):=by
 have e:=zC (env:=env) scope.names [] h;unfold closureFor;simp only[bind_pure_comp]at e⊢
 first
  | (rw[<-e];rfl)
  | (simp at e⊢;rw[<-e];rfl)
  | (simp at e⊢;exact e)
theorem zD{cells:List (Str×Addr)}{P:Str->Addr->Prop}:∀(names:List (Str×NameKind)) (a:List (Str×Addr)),(∀x∈a,P x.1 x.2)->(∀n,(n,NameKind.free)∈names->P n ((cells.lookup n).getD 0))->∀x∈nA names cells a,P x.1 x.2
 | [],a,h,_,x,hx=>h x hx
 | (n,k)::r,a,h,b,x,hx=>by
  refine zD (cells:=cells) r _ (λy hy=>?_) (λm hm=>b m (aJt _ hm)) x hx;by_cases c:k= .free
  ·subst c;simp only[beq_self_eq_true,if_true]at hy;rcases aK1.mp hy with rfl | hy
   ·exact b n aJs
   ·exact h y hy
  ·have hb:(k==NameKind.free)=false:=by simpa using c
   simp only[hb,Bool.false_eq_true,if_false]at hy;exact h y hy
theorem gA{a:Type}:∀{l:List (Str×a)} {n:Str} {c:a},(n,c)∈l->∃b,l.lookup n=some b
 | (k,v)::r,n,c,h=>by
  rw[List.lookup_cons]
  cases hb:n==k with
  | true=>exact⟨v,rfl⟩
  | false=>
   rcases aK1.mp h with e | h
   ·injection e with d _;rw[d]at hb;simp at hb
   ·exact gA h
theorem tF{cells:List (Str×Addr)}:∀(names:List (Str×NameKind)) (a:List (Str×Addr)) (x:Str×Addr),x∈a->x∈nA names cells a
 | [],_,_,h=>h
 | (n,k)::r,a,x,h=>by
  refine tF r _ x ?_;by_cases b:(k==NameKind.free)=true
  ·rw[if_pos b];exact aJt _ h
  ·rw[if_neg b];exact h
theorem zE{cells:List (Str×Addr)}:∀(names:List (Str×NameKind)) (a:List (Str×Addr)) (n:Str),(n,NameKind.free)∈names->∃c,(n,c)∈nA names cells a
 | (m,k)::r,a,n,h=>by
  rcases aK1.mp h with e | h
  ·injection e with b d;subst b d;exact⟨(cells.lookup n).getD 0,tF r _ _ (by simp)⟩
  ·exact zE r _ n h
theorem p5{x:Str}{b :NameKind}:(relabel scope env).names.lookup x=some b ->∃k,scope.names.lookup x=some k/\(b =k\/(k= .free/\b = .cell)):=by
 unfold relabel;dsimp only;generalize scope.names=l
 induction l with
 | nil=>intro h;simp at h
 | cons p r ih=>
  obtain⟨n,k⟩:=p;intro h;rw[List.map_cons]at h;by_cases a:(k==NameKind.free && env.scope.kind== .function && env.kindOf n==some .cell)=true
  ·simp only[a,if_true,List.lookup_cons]at h⊢
   cases hb:x==n with
   | true=>
    rw[hb]at h;simp only[Bool.and_eq_true,beq_iff_eq]at a;exact⟨k,rfl,.inr ⟨a.1.1,(aK5 h).symm⟩⟩
   | false=>rw[hb]at h;exact ih h
  ·have c :(k==NameKind.free && env.scope.kind== .function && env.kindOf n==some .cell)=false:=by simpa using a
   simp only[c,Bool.false_eq_true,if_false,List.lookup_cons]at h⊢
   cases hb:x==n with
   | true=>rw[hb]at h;exact⟨k,rfl,.inl (aK5 h).symm⟩
   | false=>rw[hb]at h;exact ih h
theorem AA{x:Str}:scope.names.lookup x=some .free->(relabel scope env).names.lookup x=some .cell\/(relabel scope env).names.lookup x=some .free:=by
 unfold relabel;dsimp only;generalize scope.names=l
 induction l with
 | nil=>intro h;simp at h
 | cons p r ih=>
  obtain⟨n,k⟩:=p;intro h;rw[List.map_cons];rw[List.lookup_cons]at h
  cases hb:x==n with
  | true=>
   rw[hb]at h;have c:k= .free:=aK5 h;subst c;by_cases b:(NameKind.free==NameKind.free && env.scope.kind== .function && env.kindOf n==some .cell)=true
   ·simp only[b,if_true,List.lookup_cons,hb];first | exact .inl rfl | exact .inl trivial
   ·have a :(NameKind.free==NameKind.free && env.scope.kind== .function && env.kindOf n==some .cell)=false:=by simpa using b
    simp only[a,Bool.false_eq_true,if_false,List.lookup_cons,hb];first | exact .inr rfl | exact .inr trivial
  | false=>
   rw[hb]at h;by_cases b:(k==NameKind.free && env.scope.kind== .function && env.kindOf n==some .cell)=true
   ·simp only[b,if_true,List.lookup_cons,hb];exact ih h
   ·have a :(k==NameKind.free && env.scope.kind== .function && env.kindOf n==some .cell)=false:=by simpa using b
    simp only[a,Bool.false_eq_true,if_false,List.lookup_cons,hb];exact ih h
def aW(X:Cx)(own:List Str)(aK:List Nat)(scope:Scope)(cl:List (Str×Addr))(C:Addr)(fp:List Addr)(s₀:Shared)(H₀:Hp):Cx where
 prog:=X.prog
 w:=X.w
 K:=X.K
 mg:=X.mg
 base:=X.base
 A:=X.A
 N:=own++aK.map λi=>X.N.getD i ""
 s₀:=s₀
 H₀:=H₀
 env:=compEnvC scope cl C X.env
 outer:=X.stack
 stack:=X.stack
 ex:=fp
 fn:=λ_=>false
 calm:=X.calm
 pn:=[]
 xe:=λ_ _=>False
def rW(own:List Str)(aK:List Nat)(σ:St):St:=own.map (λ_=>none)++aK.map λi=>(σ[i]?).join
def fW(N:List Str)(sc scope:Scope)(aK:List Nat):Bool:=
 scope.kind== .function && scope.names.all (λy=>y.2 != .cell) && scope.names.all (λy=>y.2 != .local || scope.names.lookup y.1==some .local) &&
 scope.names.all (λy=>y.2 != .free || (sc.names.lookup y.1==some .cell || sc.names.lookup y.1==some .free)) &&
 aK.all (λi=>match N[i]? with | some x=>scope.names.lookup x==some .free | none=>false)
structure HP(X:Cx)(scope:Scope)(aK:List Nat):Prop where
 kind:scope.kind= .function
 OW:∀y∈scope.names,y.2≠ .cell
 loc:∀y∈scope.names,y.2= .local->scope.names.lookup y.1=some .local
 fr:∀y∈scope.names,y.2= .free->X.env.kindOf y.1=some .cell\/X.env.kindOf y.1=some .free
 cap:∀i∈aK,∃x,X.N[i]? =some x/\scope.names.lookup x=some .free
variable{X:Cx}{sc:Scope}{N:List Str}
theorem HP.of{aK:List Nat}(hN:X.N=N)(hs:X.env.scope=sc)(h:fW N sc scope aK=true):HP X scope aK:=by
 subst hN hs;unfold fW at h;simp only[Bool.and_eq_true,List.all_eq_true]at h;obtain⟨⟨⟨⟨b,c⟩,d⟩,f⟩,g⟩:=h;refine⟨beq_iff_eq.mp b,λy a z=>?_,λy a z=>?_,λy a z=>?_,λi hi=>?_⟩
 ·have:=c y a;rw[z]at this;exact absurd this (by decide)
 ·have:=d y a;rw[z]at this;simpa using this
 ·have:=f y a;rw[z]at this;have this:(X.env.scope.names.lookup y.1==some NameKind.cell || X.env.scope.names.lookup y.1==some NameKind.free)=true:=by simpa using this
  rcases Bool.or_eq_true_iff.mp this with q | q
  ·exact .inl (beq_iff_eq.mp q)
  ·exact .inr (beq_iff_eq.mp q)
 ·have:=g i hi
  cases e:X.N[i]? with
  | none=>rw[e]at this;simp at this
  | some x=>rw[e]at this;exact⟨x,rfl,beq_iff_eq.mp this⟩
def PTs(X:Cx)(a:List Expr)(t:TT):Prop:=
 ∀(pins:List (Addr×Obj)) (s:Shared) (σ:St) (H:Hp) (Q:Bool->Hp->Prop),Inv X pins σ H s->t σ H Q->
  wpAny (model X.prog X.w) X.A (forIn a true λc r=>if r=true then do let ok<-isTrue c X.env (eval c X.env);pure (ForInStep.yield ok) else pure (ForInStep.yield r)) (TP X pins σ Q) X.xe s
def aH8:TT:=λ_ H Q=>Q true H
theorem TR:PTs X [] aH8:=λ_ _ _ H _ I h=>wpAny_tests_nil ⟨H,I,h⟩
theorem TQ{c:Expr}{t:TT}(h:PT X c t):PTs X [c] t:=λpins s σ H Q I q=>wpAny_tests_one (h pins s σ H Q I q)
def wY(n:Nat)(g:TG):Prop:=∀v σ H Q,g v σ H Q->g v σ H λa H' =>Q a H' /\a.length=σ.length/\∀j,n<=j->a[j]? =σ[j]?
def KI(n:Nat)(g:FA):Prop:=∀vs σ H Q,g vs σ H Q->g vs σ H λa H' =>Q a H' /\a.length=σ.length/\∀j,n<=j->a[j]? =σ[j]?
variable{n i:Nat}
theorem L8(h:i<n):wY n (sW i):=λv σ H Q q=>⟨q,by simp,λj a=>by rw[List.getElem?_set_ne (by lia)]⟩
theorem QU:KI n QY:=λvs σ H Q q=>⟨q.1,q.2,rfl,λ_ _=>rfl⟩
theorem L9{t:TG}{u:FA}(mt:∀v σ H Q b,(∀a H',Q a H' ->b a H')->t v σ H Q->t v σ H b)(d:∀v σ H Q b,(∀a H',Q a H' ->b a H')->u v σ H Q->u v σ H b)(f:wY n t)(g:KI n u):KI n (EA t u):=by
 intro vs σ H Q q;obtain⟨v,r,e,q⟩:=q;refine⟨v,r,e,mt _ _ _ _ _ (λa H' ⟨q',l,k⟩=>?_) (f _ _ _ _ q)⟩;refine d _ _ _ _ _ (λh o ⟨i,m,k2⟩=>?_) (g _ _ _ _ q');exact⟨i,m.trans l,λj c=>(k2 j c).trans (k j c)⟩
theorem QT{n m:Nat}{K:aNm}{u:FA}(h:KI n u):wY n (aBq K m u):=by
 intro v σ H Q q;obtain⟨a,xs,e,hs,b,q⟩:=q;exact⟨a,xs,e,hs,b,h _ _ _ _ q⟩
theorem GU:∀v σ H Q b,(∀a H',Q a H' ->b a H')->sW i v σ H Q->sW i v σ H b :=λ_ _ _ _ _ h q=>h _ _ q
theorem MB:∀v σ H Q b,(∀a H',Q a H' ->b a H')->QY v σ H Q->QY v σ H b :=λ_ _ _ _ _ h q=>⟨q.1,h _ _ q.2⟩
theorem GV{t:TG}{u:FA}(mt:∀v σ H Q b,(∀a H',Q a H' ->b a H')->t v σ H Q->t v σ H b)(c:∀v σ H Q b,(∀a H',Q a H' ->b a H')->u v σ H Q->u v σ H b):
  ∀v σ H Q b,(∀a H',Q a H' ->b a H')->EA t u v σ H Q->EA t u v σ H b :=by
 intro vs σ H Q b h ⟨v,r,e,q⟩;exact⟨v,r,e,mt _ _ _ _ _ (λa H' q' =>c _ _ _ _ _ h q') q⟩
variable{w:World}{A:Around}{R:Result->Shared->Prop}{s:Shared}{ifs:List Expr}{pos:Pos}
theorem EU{prog:Program}{k a iter:Expr}{it l:Value}(I:Nat->Shared->Prop)
  (o:∀n s,I n s->wpAny (model prog w) A (pyNext it) (λr b=>match r with
   | none=>R (.ok .next) b
   | some v=>wpAny (model prog w) A (letOwnedTupleGo a it v) (λ_ b=>wpAny (model prog w) A (assign a env v) (λ_ f=>
     wpAny (model prog w) A (forIn ifs true λc r=>if r=true then do let ok<-isTrue c env (eval c env);pure (ForInStep.yield ok) else pure (ForInStep.yield r)) (λok e=>
      if ok=true then wpAny (model prog w) A (eval k env) (λx g=>
       wpAny (model prog w) A (call (.builtin "list.append") [l,x]) (λ_ i=>∃m,m<n/\I m i) (λ_ _=>False) g) (λ_ _=>False) e
      else ∃m,m<n/\I m e) (λ_ _=>False) f) (λ_ _=>False) b) (λ_ _=>False) b) (λ_ _=>False) s)
  (n:Nat) (h:I n s):codeAny (model prog w) A (.compLoop (.ListComp k [⟨a,iter,ifs,0⟩] scope pos) 0 it l env) R s:=by
 refine codeAny_loop rfl I (λn s u=>?_) n h;show wpAny _ A ((compTurn (.ListComp k [⟨a,iter,ifs,0⟩] scope pos) 0 it l env).onRaise (λx=>do noteFrame x env;theTreesLotGoes x)) _ _ s;refine wpAny_noted ?_;rw[compTurn_list];refine aJn (aMc (aJn (aL9 (o n s u) (λr b d=>?_) λ_ _ h' =>h'.elim)))
 cases r with
 | none=>exact aJo d
 | some v=>
  refine aJn (aL9 d (λ_ b d=>?_) λ_ _ h' =>h'.elim);refine aJn (aL9 d (λ_ f p=>aJn (aL9 p (λok e j=>?_) λ_ _ h' =>h'.elim)) λ_ _ h' =>h'.elim)
  cases ok with
  | false=>exact aJo ⟨rfl,j⟩
  | true=>
   exact aJn (aJn (aL9 j (λx g q=>aJn (aL9 q (λ_ i t=>aJo (aJo ⟨rfl,t⟩)) λ_ _ h' =>h'.elim)) λ_ _ h' =>h'.elim))
def aG1(P:Program)(w:World)(p:Addr)(ks:List Key):HO:= .ext λ_ h=>ST.MU (aM P w) (ST.eI w) h p ks
variable{P:Program}{h:Heap}
theorem S5{H:Hp}{p:Addr}{ks:List Key}(x:ST.MU (aM P w) (ST.eI w) h p ks):cL P w H h p (aG1 P w p ks):=
 ⟨x,by obtain⟨o,_,_,_,ho,_⟩:=x;exact⟨o,ho⟩,λa b q k=>q.keep λo e=>k o e⟩
def aH6:V->Option Key
 | .int i=>some (.inl i)
 | .str x=>some (.inr x)
 | _=>none
abbrev R7(b:Bool)(a:Expr)(c:List Comprehension)(sc:Scope)(pos:Pos):Expr:=match b with
 | false=>.ListComp a c sc pos
 | true=>.SetComp a c sc pos
def cmO(P:Program)(w:World)(b:Bool)(a:Addr)(c:List V):HO:=match b with
 | false=>.lst c
 | true=>aG1 P w a (ST.aCf [] (c.filterMap aH6))
abbrev cmN(b:Bool):Sem Value:=match b with
 | false=>newList []
 | true=>newSet (.type "set")
variable{Q:aNn}
theorem aC0{E:aNn}{b:Bool}(h:∀G:Heap,(∀c o,s.heap.get? c=some o->G.get? c=some o)->G.objs.size=s.heap.objs.size+1->
  (∀H,cL P w H G s.heap.objs.size (cmO P w b s.heap.objs.size []))->Q (.ref s.heap.objs.size) {s with heap:=G}):wpAny (model P w) A (cmN b) Q E s:=by
 cases b with
 | false=>exact aKf (h _ (λc o e=>aJp _ e) (aM3 _ _) λH=>⟨aKz _,[],0,.nil,aJv _ rfl⟩)
 | true=>
  unfold cmN newSet;exact aJn (ST.kL (aKf (h _ (λc o e=>aJp _ e) (aM3 _ _) λH=>S5 (ST.GZ (aJv _ rfl)))))
theorem RE{prog:Program}{b:Bool}{a:Expr}{e:List Comprehension}{d:Nat}{g:Comprehension}{it c:Value}(j:e[d]? =some g)(ha:g.is_async=0)
  (h0:codeAny (model prog w) A (.compLoop (R7 b a e scope pos) d it c env) R s)
  (h:wpAny (model prog w) A (pyIter it) (λf i =>codeAny (model prog w) A (.compLoop (R7 b a e scope pos) d f c env) R i) (notedBy (model prog w) A env λx i =>R (.error x) i) s):
  codeAny (model prog w) A (.compStart (R7 b a e scope pos) d it c env) R s:=by
 have k:clausesOf (R7 b a e scope pos)=e:=by cases b <;> rfl
 have hd:(model prog w).den (.compStart (R7 b a e scope pos) d it c env)=(compStart (R7 b a e scope pos) d it c env).onRaise (λx=>do noteFrame x env;standAt theWindowsPlace):=by cases b <;> rfl
 refine codeAny_of_tree ?_;rw[hd];have l:A.under (.compStart (R7 b a e scope pos) d it c env)=A:=by cases b <;> rfl
 rw[l];refine wpAny_notedAt ?_;unfold compStart;rw[k,j];simp only[Option.elim,ha,bne_self_eq_false,Bool.false_eq_true,if_false];refine aJn (aMv (wpAny_ite ?_));split
 ·exact aJo (And.intro rfl h0)
 ·exact aJn (aKq (aJn (aMc (aJn (aL9 h (λf i h' =>aJo (And.intro rfl h')) λ_ _ x=>x)))))
abbrev TBd:=List V->St->Hp->(List V->Hp->Prop)->Prop
def aDg(P:Program)(w:World)(b:Bool)(own:List Str)(aK:List Nat)(wi:TI)(g:TG)(tt:TT)(tb:Addr->TBd):TE:=λσ H Q=>wi σ H λJ f=>∀a,f a=none->
 ∃W:Nat->Nat->List V->Hp->Prop,(∃m,W 0 m [] (upd f a (cmO P w b a [])))/\∀i m e H,W i m e H->H a=some (cmO P w b a e)/\
  ((J.stop i H/\Q (.ref a) H)\/(J.go i H/\∃N:List V->Hp->Prop,(∀c H',N c H' ->∃h,h<m/\W (i+1) h c H')/\
   ∀x H',J.yld i H x H' ->g x (rW own aK σ) H' λd k=>tt d k λb j=>if b=true then tb a e d j N else N e j))
def tbE(te:TE)(a:Addr):TBd:=λb σ H N=>b.length<sizeLine/\te σ H λy c=>c a=some (.lst b)/\N (b++[y]) (upd c a (.lst (b++[y])))
def tLC(own:List Str)(aK:List Nat)(wi:TI)(g:TG)(tt:TT)(te:TE):TE:=λσ H Q=>∀P w,aDg P w false own aK wi g tt (tbE te) σ H Q
variable{pins:List (Addr×Obj)}{use:Option (Value->Sem Unit)}
theorem MK{bm:Bool}{tg iter elt:Expr}{more:List Comprehension}{wi:TI}{g:TG}{tt:TT}{tb:Addr->TBd}(own:List Str)(o1:Nat)(aK:List Nat)(B:Env->Addr->(Shared->Prop)->Shared->Prop)
  (hN:X.N=N) (hsc:X.env.scope=sc) (chk:fW N sc scope aK=true) (hcalm:X.calm=true) (hi:PI X tg iter wi) (ho1:o1<=own.length) (ho:wY o1 g)
  (hg:∀cl C fp s₀ H₀,PG (aW X own aK scope cl C fp s₀ H₀) tg g) (ht:∀cl C fp s₀ H₀,PTs (aW X own aK scope cl C fp s₀ H₀) ifs tt)
  (hbody:∀t cl C fp s₀ H₀ pins s σ H ys NN K,Inv (aW X own aK scope cl C fp s₀ H₀) pins σ H s->(∀j,o1<=j->j<own.length->σ[j]? =some none)->tb t ys σ H NN->
   (∀D H' s',Inv (aW X own aK scope cl C fp s₀ H₀) pins σ H' s' ->NN D H' ->K s')->B (compEnvC scope cl C X.env) t K s)
  (hloop:∀(it t:Addr) (env:Env) (R:Result->Shared->Prop) (I:Nat->Shared->Prop),(∀n s,I n s->wpAny (model X.prog X.w) X.A (pyNext (.ref it)) (λr M=>match r with
   | none=>R (.ok .next) M
   | some v=>wpAny (model X.prog X.w) X.A (letOwnedTupleGo tg (.ref it) v) (λ_ M=>wpAny (model X.prog X.w) X.A (assign tg env v) (λ_ s₂=>
     wpAny (model X.prog X.w) X.A (forIn ifs true λc r=>if r=true then do let ok<-isTrue c env (eval c env);pure (ForInStep.yield ok) else pure (ForInStep.yield r)) (λok s₃=>
      if ok=true then B env t (λs=>∃m,m<n/\I m s) s₃ else ∃m,m<n/\I m s₃) (λ_ _=>False) s₂) (λ_ _=>False) M) (λ_ _=>False) M) (λ_ _=>False) s)->
   ∀n s,I n s->codeAny (model X.prog X.w) X.A (.compLoop (R7 bm elt (⟨tg,iter,ifs,0⟩::more) scope pos) 0 (.ref it) (.ref t) env) R s)
  (hs:∀x,foldedSetIterable iter X.env x=pure x)   {σ:St} {H:Hp} {Q:VK}  {Q' :aNn} (I:Inv X pins σ H s) (h:aDg X.prog X.w bm own aK wi g tt tb σ H Q)
  (hend:∀(t C:Addr) (m:aNp) (H5:Hp) (s6:Shared) (r:Flow),Inv X pins σ H5 s6->H5 C=none->C≠X.env.locals->X.s₀.heap.objs.size<=C->(∀x c,X.env.cells.lookup x=some c->c≠C)->(∀p∈X.pn++pins,p.1≠C)->s6.heap.Ns C m->Q (.ref t) H5->
   compPost (model X.prog X.w) X.A X.xe use Q' (.ref t) C (.ok r) s6):
  wpAny (model X.prog X.w) X.A (comprehension (R7 bm elt (⟨tg,iter,ifs,0⟩::more) scope pos) scope X.env (firstIterPos (⟨tg,iter,ifs,0⟩::more) pos) (cmN bm) (firstAsync (⟨tg,iter,ifs,0⟩::more)) (firstIter (⟨tg,iter,ifs,0⟩::more) X.env) use) Q' X.xe s:=by
 have ck:=HP.of hN hsc chk;have hcl:∀x∈scope.names,x.2= .free->∃c,X.env.cells.lookup x.1=some c:=λx hx hf=>I.ok.has x.1 (ck.fr x hx hf);refine wpAny_comprehension_free (use:=use) (cl:=nA scope.names X.env.cells []) (by cases bm <;> rfl) hs (xR hcl) ck.kind ck.loc (c8 (hi pins s σ H _ I h) λv s1 h1=>c8 h1 λitv s2 h2=>?_);obtain⟨it,fp,tn,J,H2,e,I2,T,st2,f2,hW⟩:=h2;subst e
 refine aC0 λG hGk hGs hGo=>(wpAny_newFunctionEnv ck.OW (by intro y hy;simp at hy) (λO S U=>?_) ck.kind)
 dsimp only at S U⊢;have hacc0:H2 s2.heap.objs.size=none:=I2.b9.fresh (aJq _);obtain⟨W,⟨m0,w0⟩,turn⟩:=hW s2.heap.objs.size hacc0;have a:Inv X pins σ (upd H2 s2.heap.objs.size (cmO X.prog X.w bm s2.heap.objs.size [])) {s2 with heap:=G}:=I2.laid (t' :=s2.toks) hGk (aJq _) (hGo _);generalize hH3:upd H2 s2.heap.objs.size (cmO X.prog X.w bm s2.heap.objs.size [])=H3 at a w0;generalize hcl' :nA scope.names X.env.cells []=cl at⊢
 have f:∀x c,cl.lookup x=some c->X.env.cells.lookup x=some c:=λx c e=>by
  have:=zD (cells:=X.env.cells) (P:=λx c=>X.env.cells.lookup x=some c) scope.names [] (by simp) (λn hn=>by
   obtain⟨c,hc⟩:=hcl (n,.free) hn rfl;have hc' :X.env.cells.lookup n=some c:=hc
   rw[hc'];rfl) (x,c) (by rw[hcl'];exact aKv e)
  exact this
 have E:∀x,scope.names.lookup x=some .free->∃c,cl.lookup x=some c:=λx e=>by
  obtain⟨c,hc⟩:=zE (cells:=X.env.cells) scope.names [] x (aKv e);rw[hcl']at hc;exact gA hc
 have fpObj:=T.obj _ _ st2;have fpLt:∀b∈fp,b<s2.heap.objs.size:=λb hb=>by obtain⟨o,e,_⟩:=fpObj b hb;exact aJy e
 have b9:(aW X own aK scope cl G.objs.size fp {s2 with heap:=G} H3).Ok:=by
  refine⟨a.ok.mod,ck.kind,a.ok.glob,a.ok.blt,aJq _,λx y c e1 l=>a.ok.inj x y c (f x c e1) (f y c l),λx hx=>?_,λx c hf _=>absurd hf (by simp[aW]),a.ok.hd,a.ok.frames,.inl rfl,λb hb=>⟨?_,λx c e=>?_⟩,a.bs,aKe a.ok.WK a.sz,λb o e hb=>?_,λb hb z=>?_,a.stack,a.II⟩
  ·have hx:(relabel scope X.env).names.lookup x=some .cell\/(relabel scope X.env).names.lookup x=some .free:=hx;rcases hx with q | q
   ·obtain⟨k,hk,z | ⟨z,_⟩⟩:=p5 q
    ·exact absurd z.symm (ck.OW _ (aKv hk))
    ·exact E x (by rw[hk,z])
   ·obtain⟨k,hk,z | ⟨_,z⟩⟩:=p5 q
    ·exact E x (by rw[hk,<-z])
    ·cases z
  ·exact aK2 (Nat.lt_trans (fpLt b hb) (by show s2.heap.objs.size<G.objs.size;rw[hGs];exact aKt _))
  ·exact(f2 b hb).2.2.2.2.1 x c (f x c e)
  ·rcases(f2 b hb).2.2.2.1 with z | z
   ·exact a.ok.OV b o e z
   ·exact absurd (aK6 (aJy e) (aKe a.ok.WK z)) (aLx _)
  ·rcases aK1.mp (a.FO b z) with q | q
   ·exact(f2 b hb).2.1 q
   ·exact(f2 b hb).2.2.1 q
 have kept:∀b o,G.get? b=some o->O.get? b=some o:=λb o e=>U.extBut b o (aK2 (aJy e)) (aJp _ e);have hCn:H3 G.objs.size=none:=a.b9.fresh (aJq _)
 have I4:Inv (aW X own aK scope cl G.objs.size fp {s2 with heap:=G} H3) [] (rW own aK σ) H3 {s2 with heap:=O,toks:=s2.toks+([]:List (Str×Value)).length}:=by
  refine⟨b9,rfl,a.bare,Un.kept kept,⟨_,S,λi x v e1 l e3=>?_⟩,λx c e=>?_,hCn,λx c e=>a.m4 x c (f x c e),λp hp=>absurd hp (by simp[aW]),a.b9.kept kept,by simp[rW,aW]⟩
  ·have hge:own.length<=i:=by
    refine aM6 λhlt=>?_;unfold rW at l;rw[List.getElem?_append_left (by simpa using hlt),List.getElem?_map]at l
    cases q:own[i]? with
    | none=>rw[q]at l;simp at l
    | some z=>rw[q]at l;simp at l
   unfold rW at l;have Y :(own++aK.map λi=>X.N.getD i "")[i]? =some x:=e1;rw[List.getElem?_append_right hge,List.getElem?_map]at Y;rw[List.getElem?_append_right (by simpa using hge),List.getElem?_map]at l;simp only[List.length_map]at l
   cases q:aK[i-own.length]? with
   | none=>rw[q]at Y;simp at Y
   | some k=>
    rw[q]at Y l;simp only[Option.map_some,Option.some.injEq]at Y l;obtain⟨x',hx',F⟩:=ck.cap k (aJu q);have ex:x' =x:=by rw[<-Y,List.getD_eq_getElem?_getD,hx'];rfl
    subst ex
    have e2' :σ[k]? =some (some v):=by
     cases w:σ[k]? with
     | none=>rw[w]at l;simp at l
     | some z=>rw[w]at l;simp at l;rw[l]
    have kx:=ck.fr _ (aKv F) rfl
    have visX:Vis X.env.scope x' :=by
     rcases kx with z | z
     ·exact .inr (.inl z)
     ·exact .inr (.inr z)
    obtain⟨m,hn,hl⟩:=a.loc;obtain⟨u,ru,lk⟩:=hl k x' v hx' e2' visX;refine⟨u,ru,.inr ⟨AA F,?_⟩⟩
    rcases lk with ⟨z,_⟩ | ⟨_,c,hc,hcell⟩
    ·rcases kx with z' | z' <;> (have z'' :=z.symm.trans z';cases z'')
    ·obtain⟨c',hc'⟩:=E x' F;have:=f x' c' hc';rw[hc]at this;cases this;obtain⟨o,ho,hd⟩:=hcell;exact⟨c,hc',⟨o,kept _ _ ho,hd⟩⟩
  ·obtain⟨v,o,ho,hd⟩:=a.cell x c (f x c e);exact⟨v,o,kept _ _ ho,hd⟩
 have st4:tn 0 O:=T.keep _ _ _ st2 λb hb o e=>kept b o (hGk b o e);have fp4:∀b∈fp,H3 b=none:=λb hb=>by rw[<-hH3,aV (Nat.ne_of_lt (fpLt b hb))];exact(f2 b hb).1
 have stat:∀{H' :Hp},(∀b∈fp,H' b=none)->∀b∈fp,wZ (aW X own aK scope cl G.objs.size fp {s2 with heap:=G} H3) [] H' b:=λhn b hb=>
  ⟨hn b hb,(b9.exf b hb).1,b9.Q6 b hb,.inl hb,(b9.exf b hb).2,λp hp=>absurd hp (by simp[aW])⟩
 have loop:codeAny (model X.prog X.w) X.A (.compLoop (R7 bm elt (⟨tg,iter,ifs,0⟩::more) scope pos) 0 (.ref it) (.ref s2.heap.objs.size) (compEnvC scope cl G.objs.size X.env))
   (compPost (model X.prog X.w) X.A X.xe use Q' (.ref s2.heap.objs.size) G.objs.size) {s2 with heap:=O,toks:=s2.toks+([]:List (Str×Value)).length}:=by
  refine hloop _ _ _ _ (λn s' =>∃i ys H',Inv (aW X own aK scope cl G.objs.size fp {s2 with heap:=G} H3) [] (rW own aK σ) H' s' /\tn i s'.heap/\(∀b∈fp,H' b=none)/\W i n ys H') ?_ m0 _ ⟨0,[],H3,I4,st4,fp4,w0⟩;rintro n s5 ⟨i,ys,H5,I5,st5,fr5,w5⟩;obtain⟨hacc,turn5⟩:=turn i n ys H5 w5
  rcases turn5 with ⟨stop,q⟩ | ⟨go,NN,hNN,step⟩
  ·refine c8 (T.done (aW X own aK scope cl G.objs.size fp {s2 with heap:=G} H3) rfl rfl rfl hcalm i [] s5 _ H5 (λ_ _=>False) I5 (stat fr5) st5 stop) λr s6 zz0=>?_;obtain⟨hr,I6⟩:=zz0;subst hr;obtain⟨m,hm,_⟩:=id I6.loc
   have I7:Inv X pins σ H5 s6:=a.aFv (ch:=fp) I6.os I6.base I6.b9 I6.bare λb hb=>⟨(f2 b hb).2.2.2.1,(f2 b hb).2.1,λx c e=>(f2 b hb).2.2.2.2.1 x c e,λp hp=>(f2 b hb).2.2.2.2.2 p hp⟩
   exact hend _ _ m H5 s6 _ I7 I6.free (aL8 (by have:=a.lt;exact this)) a.sz (λx c e=>by obtain⟨v,z⟩:=a.cell x c e;exact aK2 z.lt) (λp hp=>aK2 (aJy (a.pin p hp).1)) hm q
  ·refine c8 (T.item (aW X own aK scope cl G.objs.size fp {s2 with heap:=G} H3) rfl rfl rfl hcalm i [] s5 _ H5 (λ_ _=>False) I5 (stat fr5) st5 go) λr s6 zz1=>?_;obtain⟨u,hr,h6⟩:=zz1;subst hr;refine c8 h6 λ_ s7 zz2=>?_;obtain⟨x,H7,I7,r7,y7,st7,fr7⟩:=zz2;have I7' :=I7.pinned (stat fr7) (T.obj _ _ st7);refine c8 (hg _ _ _ _ _ _ s7 _ H7 x u _ I7' r7 (ho _ _ _ _ (step x H7 y7))) λ_ s8 zz3=>?_;obtain⟨σ8,H8,I8,q8,l8,k8⟩:=zz3;refine c8 (ht _ _ _ _ _ _ s8 σ8 H8 _ I8 q8) λok s9 zz4=>?_;obtain⟨H9,I9,q9⟩:=zz4
   have again:∀{D:List V} {L:Hp} {Z:Shared},Inv (aW X own aK scope cl G.objs.size fp {s2 with heap:=G} H3) ([]++u7 fp s7.heap) σ8 L Z->NN D L->
     ∃m,m<n/\∃i ys H',Inv (aW X own aK scope cl G.objs.size fp {s2 with heap:=G} H3) [] (rW own aK σ) H' Z/\tn i Z.heap/\(∀b∈fp,H' b=none)/\W i m ys H' :=λ{D L Z} I10 n10=>by
    obtain⟨m',hm,w10⟩:=hNN D L n10
    have I10' :Inv (aW X own aK scope cl G.objs.size fp {s2 with heap:=G} H3) ([]:List (Addr×Obj)) (rW own aK σ) L Z:=I10.pR.weak l8.symm λj v e=>by
     have hge:own.length<=j:=by
      refine aM6 λhlt=>?_;unfold rW at e;rw[List.getElem?_append_left (by simpa using hlt),List.getElem?_map]at e
      cases q:own[j]? with
      | none=>rw[q]at e;simp at e
      | some z=>rw[q]at e;simp at e
     rw[k8 j (Nat.le_trans ho1 hge)];exact e
    refine⟨m',hm,i+1,D,L,I10',T.keep _ _ _ st7 λb hb o e=>(I10.pin (b,o) (aKh _ (aKh _ (k6 hb e)))).1,λb hb=>?_,w10⟩;obtain⟨o,e,d⟩:=T.obj _ _ st7 b hb;exact(I10.pin (b,o) (aKh _ (aKh _ (k6 hb e)))).2.1
   cases ok with
   | false=>exact again I9 q9
   | true=>
    rw[if_pos rfl];refine hbody _ _ _ _ _ _ _ s9 σ8 H9 ys NN _ I9 (λj hj1 hj2=>?_) q9 λD L Z I10 q10=>again I10 q10;rw[k8 j hj1];unfold rW;rw[List.getElem?_append_left (by simpa using hj2),List.getElem?_map];simp[hj2]
 exact RE (g:=⟨tg,iter,ifs,0⟩) (by cases bm <;> rfl) rfl loop (T.self _ 0 _ _ _ st4 loop)
theorem RB{σ:St}{Q:VK}(a C:Addr)(m:aNp)(d:Hp)(f:Shared)(r:Flow)(g:Inv X pins σ d f)(h:d C=none)(i:C≠X.env.locals)(j:X.s₀.heap.objs.size<=C)(k:∀x c,X.env.cells.lookup x=some c->c≠C)(l:∀p∈X.pn++pins,p.1≠C)(hm:f.heap.Ns C m)(q:Q (.ref a) d):
  compPost (model X.prog X.w) X.A X.xe none (EP X pins σ Q) (.ref a) C (.ok r) f:=
 ⟨m,hm,λh' sb=>⟨.ref a,d,g.turned (t' :=f.toks) (it:=C) (λb o hb e=>sb.extBut b o hb e) h i (.inr j) k l,rfl,q⟩⟩
section
variable {X:Cx}{tg iter elt:Expr}{ifs:List Expr}{scope sc:Scope}{N:List Str}{pos:Pos}{wi:TI}{g:TG}{tt:TT}{te:TE}(own:List Str)(aK:List Nat)
  (hN:X.N=N) (hsc:X.env.scope=sc) (chk:fW N sc scope aK=true) (hcalm:X.calm=true) (hi:PI X tg iter wi) (ho:wY own.length g)
  (hg:∀cl C fp s₀ H₀,PG (aW X own aK scope cl C fp s₀ H₀) tg g) (ht:∀cl C fp s₀ H₀,PTs (aW X own aK scope cl C fp s₀ H₀) ifs tt)
  (he:∀cl C fp s₀ H₀,PE (aW X own aK scope cl C fp s₀ H₀) elt te)
include hN hsc chk hcalm hi ho hg ht he
theorem JG(hs:∀x,foldedSetIterable iter X.env x=pure x){σ:St}{H:Hp}{Q:VK}{E :aNn}(I:Inv X pins σ H s)(h:tLC own aK wi g tt te σ H Q)
  (d:∀(a C:Addr) (m:aNp) (f:Hp) (i:Shared) (r:Flow),Inv X pins σ f i->f C=none->C≠X.env.locals->X.s₀.heap.objs.size<=C->(∀x c,X.env.cells.lookup x=some c->c≠C)->(∀p∈X.pn++pins,p.1≠C)->i.heap.Ns C m->Q (.ref a) f->
   compPost (model X.prog X.w) X.A X.xe use E (.ref a) C (.ok r) i):
  wpAny (model X.prog X.w) X.A (comprehension (.ListComp elt [⟨tg,iter,ifs,0⟩] scope pos) scope X.env (firstIterPos [⟨tg,iter,ifs,0⟩] pos) (newList []) (firstAsync [⟨tg,iter,ifs,0⟩]) (firstIter [⟨tg,iter,ifs,0⟩] X.env) use) E X.xe s:=by
 refine MK (bm:=false) own own.length aK (λenv a K s=>wpAny (model X.prog X.w) X.A (eval elt env) (λx F=>wpAny (model X.prog X.w) X.A (call (.builtin "list.append") [.ref a,x]) (λ_ G=>K G) (λ_ _=>False) F) (λ_ _=>False) s)
  hN hsc chk hcalm hi (aJq _) ho hg ht (λa cl C fp s₀ H₀ pins s σ H J L K M _ q k=>?_) (λit a env R I e n s h=>EU I e n h) hs I (h _ _) d
 refine c8 (he _ _ _ _ _ _ s σ H _ M q.2) λN j l=>?_;obtain⟨y,o,t,O,b,u⟩:=l;refine c8 (yJ _ j σ o (.ref a) [y] (.ref a) [N] (λv H' =>v= .bY/\L (J++[y]) H') t rfl (.cons O .nil) ⟨_,_,_,rfl,rfl,b,q.1,rfl,u⟩) λ_ P z=>?_;obtain⟨_,S,B,_,_,D⟩:=z;exact k _ _ _ B D
theorem aEa(hs:∀x,foldedSetIterable iter X.env x=pure x:=by intro _;rfl):PE X (.ListComp elt [⟨tg,iter,ifs,0⟩] scope pos) (tLC own aK wi g tt te):=by
 intro pins s σ H Q I h;rw[eval_ListComp];exact JG own aK hN hsc chk hcalm hi ho hg ht he hs I h RB
end
theorem OE{tg iter f:Expr}{pos d k:Pos}{wi:TI}{g:TG}{tt:TT}{te:TE}{x:Str}(own:List Str)(aK:List Nat)
  (hN:X.N=N) (hsc:X.env.scope=sc) (chk:fW N sc scope aK=true) (hcalm:X.calm=true) (hi:PI X tg iter wi) (ho:wY own.length g)
  (hg:∀cl C fp s₀ H₀,PG (aW X own aK scope cl C fp s₀ H₀) tg g) (ht:∀cl C fp s₀ H₀,PTs (aW X own aK scope cl C fp s₀ H₀) ifs tt)
  (he:∀cl C fp s₀ H₀,PE (aW X own aK scope cl C fp s₀ H₀) f te)
  (nd:X.N.Nodup) (l:X.N[i]? =some x) (hx:Loc X.env.scope x) (y:swapsWith (.ListComp f [⟨tg,iter,ifs,0⟩] scope pos) (some (.Name x d)) k.line X.env=pure true)
  (A:X.fn x=true\/X.env.scope.names.lookup x=some .local) (hs:∀x,foldedSetIterable iter X.env x=pure x:=by intro _;rfl):
  PS X (.Assign [.Name x d] (.ListComp f [⟨tg,iter,ifs,0⟩] scope pos) k) (SY (tLC own aK wi g tt te) (sW i)):=by
 intro pins s σ H D I h;rw[arm_exec_Assign];refine aJn (aMc (aJn (aNc (show swapsWithSole [.Name x d] _ k.line X.env=pure true from y) ?_)));rw[if_pos rfl];refine aJn (aJn (JG (Q:=λv B=>D.nx (σ.set i (some v)) B) own aK hN hsc chk hcalm hi ho hg ht he hs I h λj C m E O r F G u J w K hm q=>?_));show wpAny _ _ (assign (.Name x d) X.env (.ref j)) _ _ _;refine PyProof.Rows.assign_Name (x9 F nd l hx (v:= .ref j) rfl (λL M n=>?_) A);obtain⟨a,sb,ha⟩:=n
 have p:C≠a:=by
  rcases ha with rfl | ha
  ·exact u
  ·exact λz=>w x a ha z.symm
 refine⟨m,?_,λh' t=>aJo (aJo ⟨_,E,?_,q⟩)⟩
 ·obtain⟨o,es,ep,e,c⟩:=hm;exact⟨o,es,ep,(sb.2 C p).trans e,c⟩
 ·exact M.turned (t' :=L.toks) (it:=C) (λb o hb e=>t.extBut b o hb e) G u (.inr J) w K
structure Src where
 it:Addr
 l:Addr
 tup:Bool
def Src.At(q:Src)(h:Heap)(i:Nat):Prop:=match q.tup with | true=>h.IsTupleIter q.it q.l i | false=>h.IsListIter q.it q.l i
def Src.Sq(q:Src)(h:Heap)(items:Array Value):Prop:=match q.tup with | true=>h.IsTuple q.l items | false=>h.IsList q.l items
variable{q:Src}{h':Heap}
theorem Src.At.to(x:q.At h i)(e:∀o,h.get? q.it=some o->h'.get? q.it=some o):q.At h' i:=by
 obtain⟨it,l,t⟩:=q;cases t <;> (obtain⟨o,ho,r⟩:=x;exact⟨o,e o ho,r⟩)
theorem Src.At.obj(x:q.At h i):∃o,h.get? q.it=some o/\o.data= .fields #[.ref q.l,.int i 0]:=by
 obtain⟨it,l,t⟩:=q;cases t <;> (obtain⟨o,ho,_,r⟩:=x;exact⟨o,ho,r⟩)
variable{items:Array Value}
theorem Src.Sq.to(x:q.Sq h items)(e:∀o,h.get? q.l=some o->h'.get? q.l=some o):q.Sq h' items:=by
 obtain⟨it,l,t⟩:=q;cases t <;> (obtain⟨o,ho,r⟩:=x;exact⟨o,e o ho,r⟩)
theorem Src.Sq.obj(x:q.Sq h items):∃o n,h.get? q.l=some o/\o.data= .seq items n:=by
 obtain⟨it,l,t⟩:=q;cases t <;> (obtain⟨o,ho,_,n,r⟩:=x;exact⟨o,n,ho,r⟩)
section
variable {prog:Program}{w:World}{A:Around}{E:aNn}{s:Shared}
theorem tI{it l:Addr}{x:Value}(c:s.heap.IsTupleIter it l i)(g:s.heap.IsTuple l items)(hx:items[i]? =some x)
  (h:∀h',h'.IsTupleIter it l (i+1)->Heap.SameBut it s.heap h' ->Q x {s with heap:=h'}):wpAny (model prog w) A (Builtin.SmallTypes.nextOf (.ref it)) Q E s:=by
 obtain⟨j,b,d,a⟩:=id c;obtain⟨os,e,_,ns,f⟩:=g;unfold Builtin.SmallTypes.nextOf;refine aJn (aK9 (name:=Str.ofString "__next__") c.typeIs aLc (aK8 aLc c.typeIs F.entry_tuple_iterator_next ?_ (F.args_tuple_iterator_next_1 _)));refine aJn (m:=field (.ref it) 0) (aKk b a (x:= .ref l) rfl ?_);show wpAny _ _ (if (Value.ref l==Value.none)=true then _ else field (.ref it) 1 >>=_) _ _ s;rw[if_neg (show ¬((Value.ref l==Value.none)=true) from Bool.false_ne_true)];refine aJn (aKk b a (x:= .int i 0) rfl ?_);refine aJn (m:=seqItems? (.ref l)) (aKs e f ?_);simp only[Int.toNat_natCast,hx];refine aJn (wpAny_setField b a (by simp) (aJo ⟨x,rfl,aJo (h _ ⟨_,aLe _ b (Obj.isFreed_of_fields (Obj.data_mapFields a _)),(Obj.cls_mapFields ..).trans d,?_⟩ (aKj ..))⟩));rw[Obj.data_mapFields a];simp[rawInt]
theorem vH{it l:Addr}(h:A.handled=none)(b:s.heap.IsTupleIter it l i)(j:s.heap.IsTuple l items)(hx:items[i]? =none)
  (k:∀h' e,Heap.ExtBut it s.heap h' ->(∃o,h'.get? e=some o/\o.cls= .type "StopIteration")->E (.ref e) {s with heap:=h'}):wpAny (model prog w) A (Builtin.SmallTypes.nextOf (.ref it)) Q E s:=by
 obtain⟨p,c,n,d⟩:=id b;obtain⟨os,f,_,ns,g⟩:=j;unfold Builtin.SmallTypes.nextOf;refine aJn (aK9 (name:=Str.ofString "__next__") b.typeIs aLc (aK8 aLc b.typeIs F.entry_tuple_iterator_next ?_ (F.args_tuple_iterator_next_1 _)));refine aJn (m:=field (.ref it) 0) (aKk c d (x:= .ref l) rfl ?_);show wpAny _ _ (if (Value.ref l==Value.none)=true then _ else field (.ref it) 1 >>=_) _ _ s;rw[if_neg (show ¬((Value.ref l==Value.none)=true) from Bool.false_ne_true)];refine aJn (aKk c d (x:= .int i 0) rfl ?_);refine aJn (m:=seqItems? (.ref l)) (aKs f g ?_);simp only[Int.toNat_natCast,hx];refine aJn (aKq (aJn (wpAny_setField c d (by simp) ?_)));refine aJn (m:=newExc (.type "StopIteration") []) ?_;simp only[newExc,newTuple];refine aJn (aKf ?_ (by size_fits));refine aJn (m:=firstArgMember _ _) (aNc (a:=Value.none) (by first | rfl | (simp only[firstArgMember];rfl)) ?_);refine aKf (?_:_) (by size_fits);simp only[raiseNew];refine aJn (wpAny_handled (?_:_))
 first | rw[show A.in1.handled=none from h] | rw[h]
 refine aJn (aJo (wpAny_throw (?_:_)));exact k _ _ (((aKj ..).extBut.push _).push _) ⟨_,aJv _ rfl,rfl⟩
theorem Src.item{x:Value}(a:q.At s.heap i)(b:q.Sq s.heap items)(hx:items[i]? =some x)
  (c:∀h',q.At h' (i+1)->Heap.SameBut q.it s.heap h' ->Q x {s with heap:=h'}):wpAny (model prog w) A (Builtin.SmallTypes.nextOf (.ref q.it)) Q E s:=by
 obtain⟨it,l,t⟩:=q;cases t
 ·exact wpAny_nextOf_list_item a b hx c
 ·exact tI a b hx c
theorem Src.done(b:A.handled=none)(a:q.At s.heap i)(c:q.Sq s.heap items)(hx:items[i]? =none)
  (d:∀h' e,Heap.ExtBut q.it s.heap h' ->(∃o,h'.get? e=some o/\o.cls= .type "StopIteration")->E (.ref e) {s with heap:=h'}):wpAny (model prog w) A (Builtin.SmallTypes.nextOf (.ref q.it)) Q E s:=by
 obtain⟨it,l,t⟩:=q;cases t
 ·exact wpAny_nextOf_list_end b a c hx d
 ·exact vH b a c hx d
theorem Src.start(a:q.Sq s.heap items)
  (c:∀h',(⟨s.heap.objs.size,q.l,q.tup⟩:Src).At h' 0->h'.objs.size=s.heap.objs.size+1->(∀b o,s.heap.get? b=some o->h'.get? b=some o)->Q (.ref s.heap.objs.size) {s with heap:=h'}):wpAny (model prog w) A (pyIter (.ref q.l)) Q E s:=by
 obtain⟨it,l,t⟩:=q;cases t
 ·exact aMq a (c _ ⟨_,aJv _ rfl,rfl,rfl⟩ (aM3 ..) λb o e=>aJp _ e)
 ·exact aN6 a (c _ ⟨_,aJv _ rfl,rfl,rfl⟩ (aM3 ..) λb o e=>aJp _ e)
structure lP(h:Heap)(z TI TO:Addr)(qs:List Src)(f0:Value)(i:Nat):Prop where
 obj:h.get? z=some {cls:= .type "zip",dict:=none,data:= .fields #[f0,.bool false,.bool false,.ref TI,.ref TO],slots:= #[]}
 aJ:∃n,h.get? TI=some {cls:= .type "tuple",data:= .seq (qs.map λq=>Value.ref q.it).toArray n}
 own:∃(xs:List Value) (n:Nat),xs.length=qs.length/\h.get? TO=some {cls:= .type "tuple",data:= .seq xs.toArray n}
 at_:∀q∈qs,q.At h i
structure pG(z TI TO:Addr)(qs:List Src):Prop where
 ne1:TI≠z
 ne2:TO≠z
 ne3:TI≠TO
 QD:∀q∈qs,q.it≠z/\q.it≠TI/\q.it≠TO
 nd:(qs.map (·.it)).Nodup
 src:∀q∈qs,q.l≠z/\q.l≠TO/\∀r∈qs,q.l≠r.it
end
section
variable {prog:Program}{w:World}{A:Around}{E:aNn}{s:Shared}
structure KJ(h0 h:Heap)(z TI TO:Addr)(qs:List Src)(vals:List Value)(i j:Nat):Prop where
 obj:h.get? z=some {cls:= .type "zip",dict:=none,data:= .fields #[.ellipsis,.bool false,.bool false,.ref TI,.ref TO],slots:= #[]}
 own:∃(xs:List Value) (n:Nat),xs.length=qs.length/\xs.take j=vals.take j/\h.get? TO=some {cls:= .type "tuple",data:= .seq xs.toArray n}
 done:∀q∈qs.take j,q.At h (i+1)
 todo:∀q∈qs.drop j,q.At h i
 size:h.objs.size=h0.objs.size
 keep:∀c o,c≠z->c≠TO->(∀q∈qs,c≠q.it)->h0.get? c=some o->h.get? c=some o
theorem NA{z TI TO:Addr}{qs:List Src}{vals:List Value}(D:pG z TI TO qs)(Z:lP s.heap z TI TO qs .none i)(H:qs≠[])
  (hv:vals.length=qs.length) (F:∀(k:Nat) q x,qs[k]? =some q->vals[k]? =some x->∃items,q.Sq s.heap items/\items[i]? =some x) (hsz:qs.length<=sizeLine)
  (hQ:∀h',lP h' z TI TO qs (rawInt s.heap.objs.size) (i+1)->h'.get? s.heap.objs.size=some {cls:= .type "tuple",data:= .seq vals.toArray}->h'.objs.size=s.heap.objs.size+1->
   (∀c o,c≠z->c≠TO->(∀q∈qs,c≠q.it)->s.heap.get? c=some o->h'.get? c=some o)->Q (.ref s.heap.objs.size) {s with heap:=h'}):
  wpAny (model prog w) A (Builtin.«zip.__next__» ⟨[.ref z],[]⟩) (λfin s' =>∃v,fin= .done (.ret v)/\Q v s') E s:=by
 obtain⟨nI,O⟩:=Z.aJ;obtain⟨xs0,n0,hx0,hTO⟩:=Z.own;refine aJn (m:=field (.ref z) 2) (aKk Z.obj rfl (x:= .bool false) rfl ?_);refine aJn (m:=field (.ref z) 3) (aKk Z.obj rfl (x:= .ref TI) rfl ?_);refine aJn (m:=seqItems? (.ref TI)) (aKs O rfl ?_)
 have P:(qs.map λq=>Value.ref q.it).toArray.isEmpty=false:=by cases qs with | nil=>exact absurd rfl H | cons a r=>rfl
 simp only[P];refine aJn (m:=Builtin.SmallTypes.ownedTupleIsFree (.ref z)) ?_;refine aJn (m:=field (.ref z) 0) (aKk Z.obj rfl (x:= .none) rfl (aJo ?_));simp only[if_true];refine aJn (aKq ?_);refine aJn (aKk Z.obj rfl (x:= .ref TO) rfl ?_);refine aJn (aKa Z.obj (by simp) λh1 z1 u=>?_);refine aJn ?_;refine aL6 _ (λG b s' =>b.1=none/\∃j h',s' ={s with heap:=h'}/\G=((qs.map λq=>Value.ref q.it).zipIdx).drop j/\j<=qs.length/\KJ s.heap h' z TI TO qs vals i j) _ ?turn ?fin _ _ ?start
 case start=>
  refine⟨rfl,0,h1,rfl,by simp,aKz _,?_⟩;refine⟨z1,⟨xs0,n0,hx0,by simp,u.extBut _ _ D.ne2 hTO⟩,by simp,λq F=>?_,u.1,λc o f _ _ e=>u.extBut _ _ f e⟩;have R :q∈qs:=by simpa using F
  exact(Z.at_ q R).to λo e=>u.extBut _ _ (D.QD q R).1 e
 case turn=>
  rintro x G b s5 ⟨hb,j,h',rfl,hd,hj,d⟩
  have g:j<qs.length:=by
   refine Nat.lt_of_not_le λhle=>?_;rw[List.drop_eq_nil_of_le (by simpa using hle)]at hd;cases hd
  have S :=hd;rw[List.drop_eq_getElem_cons (by simpa using g)]at S;injection S with ex er;have T:x=(Value.ref qs[j].it,j):=by rw[ex];simp
  have h:qs[j]? =some qs[j]:=aKu g;have I:vals[j]? =some vals[j]:=aKu (by lia);generalize hqq:qs[j]=q at h T;generalize hvv:vals[j]'(by lia)=v at I;subst T;have J:q∈qs:=aJu h;obtain⟨items,hSq,hit⟩:=F j q v h I;obtain⟨l1,l2,l3⟩:=D.src q J;have U :q.Sq h' items:=hSq.to λo e=>d.keep _ o l1 l2 l3 e;have hAt:q.At h' i:=d.todo q (by rw[List.drop_eq_getElem_cons g,hqq];exact aJs);refine aJn (wpAny_onRaise ?_);show wpAny _ _ (Builtin.SmallTypes.nextOf (.ref q.it) >>=_) _ _ _;refine aJn (Src.item (s:={s with heap:=h'}) hAt U hit λh2 at2 K=>aJo ?_);obtain⟨xs,n,y,B,hO⟩:=d.own;have L:=D.QD q J;have M:h2.get? TO=some {cls:= .type "tuple",data:= .seq xs.toArray n}:=K.extBut _ _ (aL4 L.2.2) hO;refine aJn (m:=seqItems? (.ref TO)) (aKs M rfl ?_);refine aJn (aN2 M rfl ?_);refine aJn (wpAny_letGo (aJo ?_))
  have l:∀(k:Nat) p,qs[k]? =some p->k≠j->p.it≠q.it:=λk p t H e=>by
   have h1:(qs.map (·.it))[k]? =some q.it:=by rw[List.getElem?_map,t];simp[e]
   have h2:(qs.map (·.it))[j]? =some q.it:=by rw[List.getElem?_map,h];rfl
   obtain⟨a1,b1⟩:=aJr.mp h1;obtain⟨a2,b2⟩:=aJr.mp h2;refine H ?_;have pw:=aM7.mp D.nd;rcases aNd k j with hlt | heq | hlt
   ·exact absurd (b1.trans b2.symm) (pw k j a1 a2 hlt)
   ·exact heq
   ·exact absurd (b2.trans b1.symm) (pw j k a2 a1 hlt)
  have up:∀c o,c≠TO->c≠q.it->h'.get? c=some o->(h2.update TO (Obj.mapSeq λx=>x.setIfInBounds j v)).get? c=some o:=λc o f N e=>(aKj ..).extBut _ _ f (K.extBut _ _ N e);refine⟨rfl,j+1,_,rfl,er,g,⟨up _ _ (aL4 D.ne2) (aL4 L.1) d.obj,⟨xs.set j v,n,by simpa using y,?_,?_⟩,λp V=>?_,λp V=>?_,?_,λc o f N c3 e=>up c o N (c3 q J) (d.keep c o f N c3 e)⟩⟩
  ·have W :vals[j]? =some v:=I;have hjx:j<xs.length:=by lia
   rw[List.take_add_one,List.take_add_one,W,List.getElem?_set_self hjx,List.take_set_of_le (Nat.le_refl j),B]
  ·rw[Heap.get?_update_self _ M (by rfl)];simp[Obj.mapSeq]
  ·rw[List.take_add_one,h]at V;rcases aJx.mp V with z | z
   ·obtain⟨k,t⟩:=aM4 z
    have hkj:k<j:=by
     have:=(aJr.mp t).1;rw[List.length_take]at this;lia
    rw[List.getElem?_take_of_lt hkj]at t;exact(d.done p z).to λo e=>up _ o (D.QD p (aJu t)).2.2 (l k p t (by lia)) e
   ·have:p=q:=by simpa using z
    subst this;exact at2.to λo e=>(aKj ..).extBut _ _ L.2.2 e
  ·obtain⟨k,t⟩:=aM4 V;rw[List.getElem?_drop]at t;have hp' :p∈qs.drop j:=by rw[List.drop_eq_getElem_cons g];exact aJt _ V
   exact(d.todo p hp').to λo e=>up _ o (D.QD p (aJu t)).2.2 (l _ p t (by lia)) e
  ·rw[Heap.size_update,K.1];exact d.size
 case fin=>
  rintro⟨b1,b2⟩ s5 ⟨hb,j,h',rfl,hd,hj,d⟩
  have hje:j=qs.length:=by
   have:=aKo List.length hd;simp at this
   lia
  subst hje;have hb' :b1=none:=hb;subst hb';obtain⟨xs,n,y,B,hO⟩:=d.own
  have hxv:xs=vals:=by
   rw[List.take_of_length_le (by lia),List.take_of_length_le (by lia)]at B;exact B
  subst hxv;refine aJn (m:=seqItems? (.ref TO)) (aKs hO rfl ?_);refine aJn (aM1 ?_ (by simpa using aKe (Nat.le_of_eq y) hsz));refine aJn (m:=Builtin.SmallTypes.ownedTupleHandOut (.ref z) (.ref h'.objs.size)) ?_;have z5:(h'.push {cls:= .type "tuple",data:= .seq xs.toArray}).get? z=some {cls:= .type "zip",dict:=none,data:= .fields #[.ellipsis,.bool false,.bool false,.ref TI,.ref TO],slots:= #[]}:=aJp _ d.obj;refine aJn (aKa z5 (by simp) λh7 z7 X=>?_);refine aKa z7 (by simp) λh8 z8 Y=>aJo ⟨_,rfl,?_⟩;have zlt:z<h'.objs.size:=aJy d.obj;have up:∀c o,c≠z->(h'.push {cls:= .type "tuple",data:= .seq xs.toArray}).get? c=some o->h8.get? c=some o:=λc o f e=>Y.extBut _ _ f (X.extBut _ _ f e);have C:∀c o,c≠z->h'.get? c=some o->h8.get? c=some o:=λc o f e=>up c o f (aJp _ e);show Q (.ref h'.objs.size) _;have hs:=d.size;rw[hs];refine hQ h8 ⟨?_,⟨nI,?_⟩,⟨xs,n,y,C _ _ D.ne2 hO⟩,λq F=>?_⟩ ?_ ?_ λc o f N c3 e=>C c o f (d.keep c o f N c3 e)
  ·rw[z8,hs];rfl
  ·exact C _ _ D.ne1 (d.keep _ _ D.ne1 D.ne3 (λq F=>aL4 (D.QD q F).2.1) O)
  ·exact(d.done q (by rw[List.take_length];exact F)).to λo e=>C _ o (D.QD q F).1 e
  ·rw[<-hs];exact up _ _ (aL8 zlt) (aJv _ rfl)
  ·rw[Y.1,X.1,Heap.size_push,hs]
end
section
variable {prog:Program}{w:World}{A:Around}{E:aNn}{s:Shared}
variable{qs:List Src}
theorem SG{z TI TO:Addr}{i k:Nat}{Q:PySem.Fin->Shared->Prop}(hh:A.handled=none)(D:pG z TI TO qs)(Z:lP s.heap z TI TO qs .none i)
  (Y:∀(j:Nat) q,qs[j]? =some q->j<k->∃items x,q.Sq s.heap items/\items[i]? =some x) (g:∃q items,qs[k]? =some q/\q.Sq s.heap items/\items[i]? =none) (hsz:qs.length<=sizeLine)
  (hE:∀h' e,(∀c o,c≠z->c≠TO->(∀q∈qs,c≠q.it)->s.heap.get? c=some o->h'.get? c=some o)->(∃o,h'.get? e=some o/\o.cls= .type "StopIteration")->E (.ref e) {s with heap:=h'}):
  wpAny (model prog w) A (Builtin.«zip.__next__» ⟨[.ref z],[]⟩) Q E s:=by
 obtain⟨nI,hTI⟩:=Z.aJ;obtain⟨L,n0,hx0,hTO⟩:=Z.own;obtain⟨qk,X,M,hSk,hik⟩:=g;have hkl:k<qs.length:=(aJr.mp M).1;refine aJn (m:=field (.ref z) 2) (aKk Z.obj rfl (x:= .bool false) rfl ?_);refine aJn (m:=field (.ref z) 3) (aKk Z.obj rfl (x:= .ref TI) rfl ?_);refine aJn (m:=seqItems? (.ref TI)) (aKs hTI rfl ?_)
 have N:(qs.map λq=>Value.ref q.it).toArray.isEmpty=false:=by cases qs with | nil=>simp at hkl | cons a r=>rfl
 simp only[N];refine aJn (m:=Builtin.SmallTypes.ownedTupleIsFree (.ref z)) ?_;refine aJn (m:=field (.ref z) 0) (aKk Z.obj rfl (x:= .none) rfl (aJo ?_));simp only[if_true];refine aJn (aKq ?_);refine aJn (aKk Z.obj rfl (x:= .ref TO) rfl ?_);refine aJn (aKa Z.obj (by simp) λh1 z1 u=>?_);refine aJn ?_;refine aL6 _ (λF b s' =>∃j h' vals,s' ={s with heap:=h'}/\F=((qs.map λq=>Value.ref q.it).zipIdx).drop j/\j<=k/\KJ s.heap h' z TI TO qs vals i j) _ ?turn ?fin _ _ ?start
 case start=>
  refine⟨0,h1,L,rfl,by simp,aKz _,?_⟩;refine⟨z1,⟨L,n0,hx0,by simp,u.extBut _ _ D.ne2 hTO⟩,by simp,λq Y=>?_,u.1,λc o G _ _ e=>u.extBut _ _ G e⟩;have O :q∈qs:=by simpa using Y
  exact(Z.at_ q O).to λo e=>u.extBut _ _ (D.QD q O).1 e
 case fin=>
  rintro b s5 ⟨j,h',vals,rfl,hd,hj,h⟩;have:=aKo List.length hd;simp at this
  lia
 case turn=>
  rintro x F b s5 ⟨j,h',vals,rfl,hd,hj,h⟩;have y:j<qs.length:=by lia
  have P :=hd;rw[List.drop_eq_getElem_cons (by simpa using y)]at P;injection P with ex er;have R:x=(Value.ref qs[j].it,j):=by rw[ex];simp
  have d:qs[j]? =some qs[j]:=aKu y;generalize hqq:qs[j]=q at d R;subst R;have B:q∈qs:=aJu d;have C:=D.QD q B;obtain⟨l1,l2,l3⟩:=D.src q B;have S:q.At h' i:=h.todo q (by rw[List.drop_eq_getElem_cons y,hqq];exact aJs);refine aJn (wpAny_onRaise ?_);show wpAny _ _ (Builtin.SmallTypes.nextOf (.ref q.it) >>=_) _ _ _;by_cases hjk:j=k
  ·subst hjk;obtain rfl:qk=q:=(aK5 (d.symm.trans M)).symm;have l :=hSk.to (h' :=h') λo e=>h.keep _ o l1 l2 l3 e;refine aJn (Src.done (s:={s with heap:=h'}) hh S l hik λJ e f he=>?_);obtain⟨oe,H,T⟩:=he;have z2:J.get? z=some {cls:= .type "zip",dict:=none,data:= .fields #[.ellipsis,.bool false,.bool false,.ref TI,.ref TO],slots:= #[]}:=f _ _ (aL4 C.1) h.obj;have hez:e≠z:=λx=>by subst x;rw[z2]at H;cases H;simp at T
   refine aKa z2 (by simp) λh3 _ U=>hE h3 e (λc o G K V q' =>U.extBut _ _ G (f _ _ (V _ B) (h.keep c o G K V q'))) ⟨oe,U.extBut _ _ hez H,T⟩
  ·obtain⟨items,v,hSq,hit⟩:=Y j q d (by lia);have l :q.Sq h' items:=hSq.to λo e=>h.keep _ o l1 l2 l3 e;refine aJn (Src.item (s:={s with heap:=h'}) S l hit λJ at2 f=>aJo ?_);obtain⟨xs,n,hxl,hxt,hO⟩:=h.own;have I:J.get? TO=some {cls:= .type "tuple",data:= .seq xs.toArray n}:=f.extBut _ _ (aL4 C.2.2) hO;refine aJn (m:=seqItems? (.ref TO)) (aKs I rfl ?_);refine aJn (aN2 I rfl ?_);refine aJn (wpAny_letGo (aJo ?_))
   have t:∀(k:Nat) p,qs[k]? =some p->k≠j->p.it≠q.it:=λk p g hne e=>by
    have h1:(qs.map (·.it))[k]? =some q.it:=by rw[List.getElem?_map,g];simp[e]
    have J:(qs.map (·.it))[j]? =some q.it:=by rw[List.getElem?_map,d];rfl
    obtain⟨a1,b1⟩:=aJr.mp h1;obtain⟨a2,b2⟩:=aJr.mp J;refine hne ?_;have pw:=aM7.mp D.nd;rcases aNd k j with hlt | heq | hlt
    ·exact absurd (b1.trans b2.symm) (pw k j a1 a2 hlt)
    ·exact heq
    ·exact absurd (b2.trans b1.symm) (pw j k a2 a1 hlt)
   have up:∀c o,c≠TO->c≠q.it->h'.get? c=some o->(J.update TO (Obj.mapSeq λx=>x.setIfInBounds j v)).get? c=some o:=λc o G K e=>(aKj ..).extBut _ _ G (f.extBut _ _ K e);refine⟨j+1,_,xs.set j v,rfl,er,by lia,⟨up _ _ (aL4 D.ne2) (aL4 C.1) h.obj,⟨xs.set j v,n,by simpa using hxl,rfl,?_⟩,λp W=>?_,λp W=>?_,?_,λc o G K V e=>up c o K (V q B) (h.keep c o G K V e)⟩⟩
   ·rw[Heap.get?_update_self _ I (by rfl)];simp[Obj.mapSeq]
   ·rw[List.take_add_one,d]at W;rcases aJx.mp W with z | z
    ·obtain⟨k,g⟩:=aM4 z
     have hkj:k<j:=by
      have:=(aJr.mp g).1;rw[List.length_take]at this;lia
     rw[List.getElem?_take_of_lt hkj]at g;exact(h.done p z).to λo e=>up _ o (D.QD p (aJu g)).2.2 (t k p g (by lia)) e
    ·have:p=q:=by simpa using z
     subst this;exact at2.to λo e=>(aKj ..).extBut _ _ C.2.2 e
   ·obtain⟨k,g⟩:=aM4 W;rw[List.getElem?_drop]at g;have hp' :p∈qs.drop j:=by rw[List.drop_eq_getElem_cons y];exact aJt _ W
    exact(h.todo p hp').to λo e=>up _ o (D.QD p (aJu g)).2.2 (t _ p g (by lia)) e
   ·rw[Heap.size_update,f.1];exact h.size
variable{Q:Option Value->Shared->Prop}
theorem xD{z TI TO:Addr}{vals:List Value}(D:pG z TI TO qs)(Z:lP s.heap z TI TO qs .none i)(a:qs≠[])
  (d:vals.length=qs.length) (e:∀(k:Nat) q x,qs[k]? =some q->vals[k]? =some x->∃items,q.Sq s.heap items/\items[i]? =some x) (hsz:qs.length<=sizeLine)
  (f:∀h',lP h' z TI TO qs (rawInt s.heap.objs.size) (i+1)->h'.get? s.heap.objs.size=some {cls:= .type "tuple",data:= .seq vals.toArray}->h'.objs.size=s.heap.objs.size+1->
   (∀c o,c≠z->c≠TO->(∀q∈qs,c≠q.it)->s.heap.get? c=some o->h'.get? c=some o)->Q (some (.ref s.heap.objs.size)) {s with heap:=h'}):
  wpAny (model prog w) A (pyNext (.ref z)) Q E s:=by
 have b:s.TypeIs (.ref z) "zip":=⟨_,Z.obj,rfl⟩
 unfold pyNext
 exact aJn (aLa (aK9 (name:=Str.ofString "__next__") b aMf (aK8 aMf b F.entry_zip_next
  (NA D Z a d e hsz λh' g h j l=>aJo (f h' g h j l)) (F.args_zip_next_1 _))))
theorem AG{z TI TO:Addr}{i k:Nat}(d:A.handled=none)(D:pG z TI TO qs)(Z:lP s.heap z TI TO qs .none i)
  (f:∀(j:Nat) q,qs[j]? =some q->j<k->∃items x,q.Sq s.heap items/\items[i]? =some x) (g:∃q items,qs[k]? =some q/\q.Sq s.heap items/\items[i]? =none) (hsz:qs.length<=sizeLine)
  (h:∀h',(∀c o,c≠z->c≠TO->(∀q∈qs,c≠q.it)->s.heap.get? c=some o->h'.get? c=some o)->Q none {s with heap:=h'}):wpAny (model prog w) A (pyNext (.ref z)) Q E s:=by
 have a:s.TypeIs (.ref z) "zip":=⟨_,Z.obj,rfl⟩
 unfold pyNext
 refine aJn (aLa (aK9 (name:=Str.ofString "__next__") a aMf (aK8 aMf a F.entry_zip_next
  (SG d D Z f g hsz λh' e kp he=>?_) (F.args_zip_next_1 _))))
 obtain⟨o,ho,l⟩:=he;refine aJn (aLp (T:= "StopIteration") (b:=true) ⟨o,ho,l⟩ isSubtype_stop ?_);exact aJo (h _ kp)
theorem aBp{elts:List Expr}{x1}{z TI TO T:Addr}{Q:Unit->Shared->Prop}(D:pG z TI TO qs)(Z:lP s.heap z TI TO qs (rawInt T) i)
  (c:∀h',lP h' z TI TO qs .none i->Heap.SameBut z s.heap h' ->Q () {s with heap:=h'}):wpAny (model prog w) A (letOwnedTupleGo (.Tuple elts x1 pos) (.ref z) (.ref T)) Q E s:=by
 unfold letOwnedTupleGo;refine aJn (wpAny_load Z.obj ?_);show wpAny _ _ (if (["enumerate","zip","dict_itemiterator","dict_reverseitemiterator","odict_iterator","itertools.zip_longest","itertools.pairwise"].contains "zip" && (#[rawInt T,.bool false,.bool false,.ref TI,.ref TO]:Array Value)[0]? ==some (rawInt T))=true then _ else _) Q E s;rw[if_pos (by simp)];refine aJn (aKq ?_);show wpAny _ _ (setField (.ref z) 0 .none) Q E s;refine aKa Z.obj (by simp) λh' a sb=>c h' ⟨a,?_,?_,λq b=>(Z.at_ q b).to λo e=>sb.extBut _ _ (D.QD q b).1 e⟩ sb
 ·obtain⟨n,e⟩:=Z.aJ;exact⟨n,sb.extBut _ _ D.ne1 e⟩
 ·obtain⟨xs,n,l,e⟩:=Z.own;exact⟨xs,n,l,sb.extBut _ _ D.ne2 e⟩
theorem D5{z TI TO:Addr}{f0:Value}{Q:aNn}(Z:lP s.heap z TI TO qs f0 i)(h:Q (.ref z) s):wpAny (model prog w) A (pyIter (.ref z)) Q E s:=by
 have a:s.TypeIs (.ref z) "zip":=⟨_,Z.obj,rfl⟩
 refine aMr a F.slot_zip_iter (aK8 F.slot_zip_iter a F.entry_zip_iter ?_ (F.args_zip_iter_1 _));exact aJo ⟨_,rfl,"zip",_,a,aMf.lookup,h⟩
end
section
variable {prog:Program}{w:World}{A:Around}{E:aNn}{s:Shared}
def bP:Nat->List Src->List Src
 | _,[]=>[]
 | n,q::r=>⟨n,q.l,q.tup⟩::bP (n+1) r
theorem jR:∀(n:Nat) (qs:List Src),(bP n qs).length=qs.length
 | _,[]=>rfl
 | n,_::r=>by simp[bP,jR (n+1) r]
theorem fL:∀{n:Nat} {qs:List Src} {p:Src},p∈bP n qs->n<=p.it/\p.it<n+qs.length/\∃q∈qs,p.l=q.l/\p.tup=q.tup
 | n,q::r,p,h=>by
  rcases aK1.mp h with rfl | h
  ·exact⟨aJq _,by simp,q,aJs,rfl,rfl⟩
  ·obtain⟨a,b,q',c,d⟩:=fL h;exact⟨Nat.le_of_succ_le a,Nat.lt_of_lt_of_eq b (by simp only[List.length_cons];lia),q',aJt _ c,d⟩
theorem qD:∀(n:Nat) (qs:List Src),((bP n qs).map (·.it)).Nodup
 | _,[]=>by simp[bP]
 | n,q::r=>by
  simp only[bP,List.map_cons,List.nodup_cons];refine⟨λh=>?_,qD (n+1) r⟩;obtain⟨p,a,e⟩:=aK0.mp h;have b:=(fL a).1;have c :p.it=n:=e;exact absurd b (by rw[c];exact Nat.not_succ_le_self n)
theorem sV{Q:Array Value->Shared->Prop}:∀(qs:List Src) (a:Array Value) (s:Shared),(∀q∈qs,∃items,q.Sq s.heap items)->
  (∀h',h'.objs.size=s.heap.objs.size+qs.length->(∀b o,s.heap.get? b=some o->h'.get? b=some o)->(∀p∈bP s.heap.objs.size qs,p.At h' 0)->Q (a++((bP s.heap.objs.size qs).map λp=>Value.ref p.it).toArray) {s with heap:=h'})->
  wpAny (model prog w) A (forIn (qs.map λq=>Value.ref q.l) a λx aJ=>do let r<-holding aJ.toList (pyIter x);pure (ForInStep.yield (aJ.push r))) Q E s
 | [],a,s,_,hQ=>by
  have:=hQ s.heap (by simp) (λ_ _ e=>e) (by simp[bP]);simp only[List.map_nil,List.forIn_nil];refine aJo ?_;simpa[bP] using this
 | q::r,a,s,hs,hQ=>by
  obtain⟨items,m⟩:=hs q aJs;simp only[List.map_cons,List.forIn_cons];refine aJn (aJn (aKd (Src.start m λh' at' sz kp=>aJo ?_)));refine sV r (a.push (.ref s.heap.objs.size)) {s with heap:=h'} (λq' h =>?_) λg i c j=>?_
  ·obtain⟨k,n⟩:=hs q' (aJt _ h);exact⟨k,n.to λo e=>kp _ o e⟩
  ·have t:g.objs.size=s.heap.objs.size+(q::r).length:=by
    have:g.objs.size=h'.objs.size+r.length:=i;rw[this,sz,List.length_cons];lia
   have d :h'.objs.size=s.heap.objs.size+1:=sz;have f :∀p∈bP (s.heap.objs.size+1) r,p.At g 0:=by rw[<-d];exact j
   have:=hQ g t (λb o e=>c b o (kp b o e)) (λp hp=>by
    rcases aK1.mp hp with rfl | hp
    ·exact at'.to λo e=>c _ o e
    ·exact f p hp)
   have u:(a.push (.ref s.heap.objs.size)++((bP h'.objs.size r).map λp=>Value.ref p.it).toArray)=(a++((bP s.heap.objs.size (q::r)).map λp=>Value.ref p.it).toArray):=by
    rw[d];simp[bP]
   show Q (a.push (.ref s.heap.objs.size)++((bP h'.objs.size r).map λp=>Value.ref p.it).toArray) _;rw[u];exact this
theorem V1:(5:Nat)<=sizeLine+2:=Nat.add_le_add_right (by decide:3<=sizeLine) 2
theorem GB(qs:List Src)(hsz:qs.length<=sizeLine):Meets (Builtin.«zip.__new__» ⟨.type "zip"::(qs.map λq=>Value.ref q.l),[]⟩) (λ_ R s=>(∀q∈qs,∃items,q.Sq s.heap items)/\
   ∀h' z TI TO,s.heap.objs.size+qs.length<=TI->TI≠TO->TI≠z->TO≠z->s.heap.objs.size+qs.length<=TO->s.heap.objs.size+qs.length<=z->lP h' z TI TO (bP s.heap.objs.size qs) .none 0->(∀b o,s.heap.get? b=some o->h'.get? b=some o)->R (.ok (.ret (.ref z))) {s with heap:=h'}):=
 .of_wp λprog w A R s h=>by
  obtain⟨hs,d⟩:=h;unfold Builtin.«zip.__new__»;have f:=sub_zip;refine aJn (m:=Builtin.SmallTypes.newClass "zip" _) ?_;unfold Builtin.SmallTypes.newClass
  wp_walk
  refine sV qs #[] s hs λh' sz kp at' =>?_;have a:(bP s.heap.objs.size qs).length=qs.length:=jR _ _;have j:((#[]:Array Value)++((bP s.heap.objs.size qs).map λp=>Value.ref p.it).toArray).toList=(bP s.heap.objs.size qs).map λp=>Value.ref p.it:=by simp
  refine aJo ?_;simp only[j];refine aJn (aM1 ?_ (by simp[a];exact hsz));refine aJn (aM1 ?_ (by simp[a];exact hsz));unfold Builtin.SmallTypes.newRecord;dsimp only;refine aJn (aKf ?_ V1);refine aJo ⟨_,rfl,?_⟩;generalize c:bP s.heap.objs.size qs=ls at a at' d⊢;have k:(h'.push {cls:= .type "tuple",data:= .seq ((ls.map λp=>Value.ref p.it).toArray)}).objs.size=h'.objs.size+1:=aM3 ..;have g:(h'.push {cls:= .type "tuple",data:= .seq ((ls.map λp=>Value.ref p.it).toArray)}).get? h'.objs.size=some _:=aJv _ rfl;have k1:∀b o,h'.get? b=some o->(h'.push {cls:= .type "tuple",data:= .seq ((ls.map λp=>Value.ref p.it).toArray)}).get? b=some o:=λb o e=>aJp _ e;generalize n:h'.push {cls:= .type "tuple",data:= .seq ((ls.map λp=>Value.ref p.it).toArray)}=h1 at k g k1⊢;have r:(h1.push {cls:= .type "tuple",data:= .seq ((List.map (λx=>Value.none) (ls.map λp=>Value.ref p.it)).toArray)}).objs.size=h1.objs.size+1:=aM3 ..;have i:(h1.push {cls:= .type "tuple",data:= .seq ((List.map (λx=>Value.none) (ls.map λp=>Value.ref p.it)).toArray)}).get? h1.objs.size=some _:=aJv _ rfl;have k2:∀b o,h1.get? b=some o->(h1.push {cls:= .type "tuple",data:= .seq ((List.map (λx=>Value.none) (ls.map λp=>Value.ref p.it)).toArray)}).get? b=some o:=λb o e=>aJp _ e;generalize t:h1.push {cls:= .type "tuple",data:= .seq ((List.map (λx=>Value.none) (ls.map λp=>Value.ref p.it)).toArray)}=h2 at r i k2⊢;refine d _ h2.objs.size h'.objs.size h1.objs.size (by lia) (by lia) (by lia) (by lia) (by lia) (by lia) ⟨?_,⟨0,?_⟩,⟨List.map (λx=>Value.none) (ls.map λp=>Value.ref p.it),0,by simp[c],?_⟩,λq u=>?_⟩ λb o e=>aJp _ (k2 _ _ (k1 _ _ (kp b o e)))
  ·exact aJv _ rfl
  ·exact aJp _ (k2 _ _ g)
  ·exact aJp _ i
  ·exact(at' q u).to λo e=>aJp _ (k2 _ _ (k1 _ _ e))
theorem MN{qs:List Src}(hsz:qs.length<=sizeLine)(j:checkTypeCall "zip" ⟨qs.map λq=>Value.ref q.l,[]⟩=pure ())(hN:checkBuiltinCall "zip.__new__" ⟨.type "zip"::qs.map λq=>Value.ref q.l,[]⟩=pure ())
  (k:∀obj,argsOk "object.__init__" ⟨obj::qs.map λq=>Value.ref q.l,[]⟩) (hs:∀q∈qs,∃items,q.Sq s.heap items)
  (h:∀h' z TI TO,s.heap.objs.size<=TI->s.heap.objs.size<=TO->s.heap.objs.size<=z->pG z TI TO (bP s.heap.objs.size qs)->lP h' z TI TO (bP s.heap.objs.size qs) .none 0->(∀b o,s.heap.get? b=some o->h'.get? b=some o)->Q (.ref z) {s with heap:=h'}):
  wpAny (model prog w) A (call (.type "zip") (qs.map λq=>Value.ref q.l)) Q E s:=by
 refine callType_new F.called_zip (by decide) j hN k F.entry_zip_new (GB qs hsz) ⟨hs,λh' z TI TO m p t u g i Z kp=>?_⟩;refine⟨⟨_,Z.obj,rfl⟩,h h' z TI TO (by lia) (by lia) (by lia) ⟨t,u,p,λq d=>?_,qD _ _,λq d=>?_⟩ Z kp⟩
 ·obtain⟨v,c,_⟩:=fL d;exact⟨aK2 (aK6 c i),aK2 (aK6 c m),aK2 (aK6 c g)⟩
 ·obtain⟨v,c,q',e,x,_⟩:=fL d;obtain⟨items,f⟩:=hs q' e;obtain⟨o,n,ho,_⟩:=f.obj;have a:q.l<s.heap.objs.size:=by rw[x];exact aJy ho
  exact⟨aK2 (aK6 a (aKe (Nat.le_add_right _ _) i)),aK2 (aK6 a (aKe (Nat.le_add_right _ _) g)),λr y=>aK2 (aK6 a (fL y).1)⟩
end
def FG(K:aNm)(H:Hp)(t:Bool)(a:Addr)(xs:List V):Prop:=match t with | true=>tQ K H a xs | false=>qU K H a xs
def Itz(K:aNm)(src:List (Addr×Bool)):It where
 go:=λi H=>∃vs:List V,vs.length=src.length/\∀(k:Nat) a t v,src[k]? =some (a,t)->vs[k]? =some v->∃xs,FG K H t a xs/\xs[i]? =some v
 yld:=λi H x H' =>∃p vs,H p=none/\x= .ref p/\H' =upd H p (.tup vs)/\vs.length=src.length/\∀(k:Nat) a t v,src[k]? =some (a,t)->vs[k]? =some v->∀xs,FG K H t a xs->xs[i]? =some v
 stop:=λi H=>∃(k:Nat) (a:Addr) (t:Bool) (xs:List V),src[k]? =some (a,t)/\FG K H t a xs/\xs.length<=i/\∀(j:Nat) b u,j<k->src[j]? =some (b,u)->∃c,FG K H u b c/\i<c.length
section
variable {X:Cx}{pins:List (Addr×Obj)}{σ:St}{H:Hp}{s:Shared}
theorem Inv.YL{t:Bool}{a:Addr}{xs:List V}(I:Inv X pins σ H s)(h:FG X.K H t a xs):∃aJ:List Value,Vals xs aJ/\∀it,(⟨it,a,t⟩:Src).Sq s.heap aJ.toArray:=by
 cases t with
 | true=>obtain⟨aJ,r,p,_⟩:=I.tuple h;exact⟨aJ,r,λ_=>p⟩
 | false=>obtain⟨aJ,r,p,_⟩:=I.list h;exact⟨aJ,r,λ_=>p.isList⟩
theorem Inv.IJ{t:Bool}{a:Addr}{xs b:List V}(I:Inv X pins σ H s)(h:FG X.K H t a xs)(h' :FG X.K H t a b):xs=b:=by
 cases t with
 | true=>exact I.x8 h h'
 | false=>exact I.DX h h'
theorem Inv.XY{fp:List Addr}{t' :Nat}{p:Addr}{o:HO}(I:Inv X pins σ H s)(a:∀b∈fp,wZ X pins H b)(k:∀b o,b∉fp->s.heap.get? b=some o->h'.get? b=some o)
  (g:s.heap.objs.size<=p) (new:cL X.prog X.w (upd H p o) h' p o):Inv X pins σ (upd H p o) {s with heap:=h',toks:=t'}:=by
 have d:H p=none:=I.b9.fresh g;have f:∀b u,H b=some u->b∉fp:=λb u e z=>by rw[(a b z).1]at e;cases e
 refine I.step (g' :=s.gens) (d' :=s.drawn) (ch:=fp) (λb hb=>⟨(a b hb).2.2.2.1,(a b hb).2.1,(a b hb).2.2.2.2.1,(a b hb).2.2.2.2.2⟩) (λb o _ _ hc e _=>k b o hc e) (λb o _ _ hc e _=>⟨o.slots,k b o hc e⟩)
  (λb o _ e n=>by rw[aV (Nat.ne_of_lt (Nat.lt_of_lt_of_le (Heap.lt_size e) g))];exact n) (λb o hc e=>⟨o,k b o hc e⟩) (λb xs e=>by rw[aV (bK e d)];exact e) (λb o u e=>by rw[aV (bK e d)];exact e)
  (λb ps e=>⟨#[],by rw[aV (bK e d),e];simp⟩) (λm hm=>?_) (λb u e=>?_) I.bare
 ·obtain⟨o,es,ep,ho,r⟩:=hm;exact⟨o,es,ep,k _ o (λz=>(a _ z).2.1 rfl) ho,r⟩
 ·by_cases hb:b=p
  ·subst hb;rw[bV]at e;cases e;exact new
  ·rw[aV hb]at e;refine(I.b9 b u e).FR (λc v hc q=>k c v ?_ q) (λc q=>by rw[aV (bK q d)];exact q) λc xs q=>by rw[aV (bK q d)];exact q
   rcases hc with rfl | hc
   ·exact f _ u e
   ·exact f _ _ hc
theorem Inv.Q0{fp:List Addr}{t' :Nat}(I:Inv X pins σ H s)(a:∀b∈fp,wZ X pins H b)(k:∀b o,b∉fp->s.heap.get? b=some o->h'.get? b=some o):Inv X pins σ H {s with heap:=h',toks:=t'}:=by
 have d:∀b u,H b=some u->b∉fp:=λb u e z=>by rw[(a b z).1]at e;cases e
 refine I.step (g' :=s.gens) (d' :=s.drawn) (ch:=fp) (λb hb=>⟨(a b hb).2.2.2.1,(a b hb).2.1,(a b hb).2.2.2.2.1,(a b hb).2.2.2.2.2⟩) (λb o _ _ hc e _=>k b o hc e) (λb o _ _ hc e _=>⟨o.slots,k b o hc e⟩)
  (λb o _ e n=>n) (λb o hc e=>⟨o,k b o hc e⟩) (λb xs e=>e) (λb o u e=>e) (λb ps e=>⟨#[],by rw[e];simp⟩) (λm hm=>?_) (λb u e=>?_) I.bare
 ·obtain⟨o,es,ep,ho,r⟩:=hm;exact⟨o,es,ep,k _ o (λz=>(a _ z).2.1 rfl) ho,r⟩
 ·refine(I.b9 b u e).FR (λc v hc q=>k c v ?_ q) (λ_ q=>q) λ_ _ q=>q;rcases hc with rfl | hc
  ·exact d _ u e
  ·exact d _ _ hc
end
theorem XH{P:Nat->Value->Prop}:∀{vs:List V},(∀(k:Nat) v,vs[k]? =some v->∃u,RelV v u/\P k u)->∃us,Vals vs us/\∀(k:Nat) u,us[k]? =some u->P k u
 | [],_=>⟨[],.nil,λk u e=>by simp at e⟩
 | v::r,h=>by
  obtain⟨u,a,b⟩:=h 0 v rfl;obtain⟨us,rs,ps⟩:=XH (P:=λk u=>P (k+1) u) (vs:=r) λk v e=>h (k+1) v (by simpa using e);refine⟨u::us,.cons a rs,λk w e=>?_⟩
  cases k with
  | zero=>simp at e;subst e;exact b
  | succ k=>exact ps k w (by simpa using e)
theorem NM{K:aNm}{elts:List Expr}{x1}{z TI TO:Addr}{qs:List Src}(D:pG z TI TO qs)(B:qs≠[])(hsz:qs.length<=sizeLine):
  Turn P w K (.Tuple elts x1 pos) (Itz K (qs.map λq=>(q.l,q.tup))) (z::TI::TO::qs.map (·.it)) z (λi h=>lP h z TI TO qs .none i) where
 mem:=aJs
 obj:=λi h Z b hb=>by
  rcases aK1.mp hb with rfl | hb
  ·exact⟨_,Z.obj,λv e=>by cases e⟩
  rcases aK1.mp hb with rfl | hb
  ·obtain⟨n,e⟩:=Z.aJ;exact⟨_,e,λv e=>by cases e⟩
  rcases aK1.mp hb with rfl | hb
  ·obtain⟨xs,n,_,e⟩:=Z.own;exact⟨_,e,λv e=>by cases e⟩
  obtain⟨q,c,rfl⟩:=aK0.mp hb;obtain⟨o,ho,hd⟩:=(Z.at_ q c).obj;exact⟨o,ho,λv e=>by rw[hd]at e;cases e⟩
 keep:=λi h h' Z k=>by
  refine⟨k z (by simp) _ Z.obj,?_,?_,λq c=>(Z.at_ q c).to λo e=>k q.it (by simp;exact .inr (.inr (.inr ⟨q,c,rfl⟩))) o e⟩
  ·obtain⟨n,e⟩:=Z.aJ;exact⟨n,k TI (by simp) _ e⟩
  ·obtain⟨xs,n,l,e⟩:=Z.own;exact⟨xs,n,l,k TO (by simp) _ e⟩
 item:=by
  intro X C F G V i pins s σ H E I p Z hg;subst C F G;obtain⟨vs,y,W⟩:=hg;have J:vs.length=qs.length:=by simpa using y
  obtain⟨us,Y,pu⟩:=XH (P:=λk u=>∀q,qs[k]? =some q->∃items,q.Sq s.heap items/\items[i]? =some u) (vs:=vs) λk v e=>by
   have g:k<qs.length:=by have:=(aJr.mp e).1;lia
   have d:qs[k]? =some qs[k]:=aKu g;obtain⟨xs,hx,hi⟩:=W k qs[k].l qs[k].tup v (by rw[List.getElem?_map,d];rfl) e;obtain⟨aJ,rv,hs⟩:=I.YL hx;obtain⟨u,L,r⟩:=rv.get hi;refine⟨u,r,λq c=>?_⟩;rw[d]at c;cases c;exact⟨aJ.toArray,hs qs[k].it,by simpa using L⟩
  have M:us.length=qs.length:=by rw[<-Y.length,J]
  refine xD D Z B M (λk q x c hx=>pu k x hx q c) hsz λh1 Z1 t1 z1 k1=>?_;refine⟨_,rfl,aBp (s:={s with heap:=h1}) D Z1 λh2 Z2 m=>?_⟩;have f:s.heap.objs.size≠z:=aL8 (aJy Z.obj)
  have kk:∀b o,b∉(z::TI::TO::qs.map (·.it))->s.heap.get? b=some o->h2.get? b=some o:=λb o hb e=>by
   have b1:b≠z:=λz=>hb (by simp[z]);have b2:b≠TO:=λz=>hb (by simp[z]);exact m.extBut _ _ b1 (k1 b o b1 b2 (λq c z=>hb (by simp;exact .inr (.inr (.inr ⟨q,c,z.symm⟩)))) e)
  refine⟨.ref s.heap.objs.size,upd H s.heap.objs.size (.tup vs),I.XY (t' :=s.toks) p kk (aJq _) ⟨by lia,us,Y,⟨_,m.extBut _ _ f t1,rfl,0,rfl⟩,λo e=>by rw[m.extBut _ _ f t1]at e;cases e;rfl⟩,rfl,?_,Z2,λb hb=>?_⟩
  ·refine⟨s.heap.objs.size,vs,I.b9.fresh (aJq _),rfl,rfl,y,λk a t v hs N xs hx=>?_⟩;obtain⟨ys,O,hi⟩:=W k a t v hs N;rw[I.IJ hx O];exact hi
  ·have R:=(p b hb).1
   have:b≠s.heap.objs.size:=by
    rintro rfl
    have ho:∃o,s.heap.get? s.heap.objs.size=some o:=by
     rcases aK1.mp hb with e | hb
     ·rw[e];exact⟨_,Z.obj⟩
     rcases aK1.mp hb with e | hb
     ·rw[e];obtain⟨n,e⟩:=Z.aJ;exact⟨_,e⟩
     rcases aK1.mp hb with e | hb
     ·rw[e];obtain⟨xs,n,_,e⟩:=Z.own;exact⟨_,e⟩
     obtain⟨q,c,e⟩:=aK0.mp hb;have e' :q.it=s.heap.objs.size:=e;rw[<-e'];obtain⟨o,ho,_⟩:=(Z.at_ q c).obj;exact⟨o,ho⟩
    obtain⟨o,ho⟩:=ho;exact absurd (aJy ho) (aLx _)
   rw[aV this];exact R
 done:=by
  intro X C F G V i pins s σ H E I p Z hg;subst C F G;obtain⟨k,a,t,xs,g,hx,hle,S⟩:=hg;rw[List.getElem?_map]at g
  cases d:qs[k]? with
  | none=>rw[d]at g;cases g
  | some q=>
   rw[d]at g;have T :(q.l,q.tup)=(a,t):=aK5 g;injection T with e1 e2;subst e1 e2
   refine AG (k:=k) (I.ok.hd V) D Z (λj q' hj U=>?_) ⟨q,?_⟩ hsz λh' kp=>⟨rfl,I.Q0 (t' :=s.toks) p λb o hb e=>kp b o (λz=>hb (by simp[z])) (λz=>hb (by simp[z])) (λq c z=>hb (by simp;exact .inr (.inr (.inr ⟨q,c,z.symm⟩)))) e⟩
   ·obtain⟨ys,O,y⟩:=S j q'.l q'.tup U (by rw[List.getElem?_map,hj];rfl);obtain⟨aJ,r,hs⟩:=I.YL O;obtain⟨u,L,_⟩:=r.get (aKu y);exact⟨aJ.toArray,u,hs q'.it,by simpa using L⟩
   ·obtain⟨aJ,r,hs⟩:=I.YL hx;refine⟨aJ.toArray,d,hs q.it,?_⟩;have:=r.length;rw[List.getElem?_toArray];exact aLj.mpr (by lia)
 self:=λA i s Q E Z h=>D5 Z h
structure aG0(m:Nat):Prop where
 t:∀us:List Value,us.length=m->checkTypeCall "zip" ⟨us,[]⟩=pure ()
 n:∀us:List Value,us.length=m->checkBuiltinCall "zip.__new__" ⟨.type "zip"::us,[]⟩=pure ()
 i:∀(us:List Value) (o:Value),us.length=m->argsOk "object.__init__" ⟨o::us,[]⟩
theorem aCy:aG0 2:=⟨λus h=>match us,h with | [a,b],_=>F.typeCall_zip_2 a b,λus h=>match us,h with | [a,b],_=>F.newCall_zip_2 a b,λus o h=>match us,h with | [a,b],_=>F.args_object_init_3 o a b⟩
def aIy(K:aNm)(n:Nat)(b:TA):TI:=λσ H R=>b σ H λvs a=>∃src:List (Addr×Bool),vs=src.map (λp=>V.ref p.1)/\src.length=n/\(∀p∈src,∃xs,FG K a p.2 p.1 xs)/\R (Itz K src) a
theorem x5:∀{src:List (Addr×Bool)} {us:List Value},Vals (src.map λp=>V.ref p.1) us->us=src.map λp=>Value.ref p.1
 | [],us,h=>by cases h;rfl
 | p::r,us,h=>by
  cases h with
  | cons a b=>rw[x5 b];cases a;rfl
theorem vK:∀(src:List (Addr×Bool)) (m:Nat),((bP m (src.map λp=>(⟨0,p.1,p.2⟩:Src))).map λq=>(q.l,q.tup))=src
 | [],_=>rfl
 | p::r,m=>by simp only[List.map_cons,bP];rw[vK r (m+1)]
theorem Y9{e:Expr}{es:List Expr}{v:TA}{p pos:Pos}{elts:List Expr}{x1}{a:Pos}(z:aG0 n)(Q:0<n/\n<=1000)(hg:Gl X "zip")(hm:X.mg "zip"=none)(ha:PA X (e::es) v)
  (x:bootBuiltins "zip"=some (.type "zip"):=by decide+kernel)
  (he:starEach (e::es) X.env=(false,eval e X.env)::starEach es X.env:=by rfl) (m:(backTo pos (starEach es X.env)).any (·.1)=false:=by rfl):
  PI X (.Tuple elts x1 a) (.Call (.Name "zip" p) (e::es) [] pos) (aIy X.K n v):=by
 intro pins s σ H R I h;refine aLs (pB I hg hm x ?_);refine aL0 (c8 (ha pos pins s σ H _ I h) λus s1 ⟨vs,o,j,y,A⟩=>?_) he m;obtain⟨src,rfl,r,hs,B⟩:=A;have C:=x5 y;subst C;have em:(src.map λp=>Value.ref p.1)=(src.map λp=>(⟨0,p.1,p.2⟩:Src)).map λq=>Value.ref q.l:=by rw[List.map_map];rfl
 have hz:src.length<=sizeLine:=aM5 (KS (by lia));rw[em];refine MN (by simpa using hz) (z.t _ (by simpa using r)) (z.n _ (by simpa using r)) (λobj=>z.i _ obj (by simpa using r)) (λq k=>?_) λh' E TI TO F G J D Z kp=>?_
 ·obtain⟨p,L,rfl⟩:=aK0.mp k;obtain⟨xs,hx⟩:=hs p L;obtain⟨aJ,_,u⟩:=j.YL hx;exact⟨aJ.toArray,u 0⟩
 ·generalize c:bP s1.heap.objs.size (src.map λp=>(⟨0,p.1,p.2⟩:Src))=qs at D Z;have f:qs.length=src.length:=by rw[<-c,jR];simp
  have d:(qs.map λq=>(q.l,q.tup))=src:=by rw[<-c];exact vK _ _
  have M:Inv X pins σ o {s1 with heap:=h'}:=j.kept (t' :=s1.toks) kp;have T:=NM (P:=X.prog) (w:=X.w) (K:=X.K) (elts:=elts) (x1:=x1) (pos:=a) D (by intro N;rw[N]at f;simp at f;lia) (by lia);rw[d]at T;refine D5 Z ⟨E,_,_,Itz X.K src,o,rfl,M,T,Z,λb hb=>?_,B⟩
  have g:s1.heap.objs.size<=b:=by
   rcases aK1.mp hb with e | hb
   ·rw[e];exact J
   rcases aK1.mp hb with e | hb
   ·rw[e];exact F
   rcases aK1.mp hb with e | hb
   ·rw[e];exact G
   obtain⟨q,k,e⟩:=aK0.mp hb;rw[<-c]at k;have O :q.it=b:=e;rw[<-O];exact(fL k).1
  exact(j.Q1 g (j.b9.fresh g):wZ X pins o b)
variable {b:Bool}
variable {b:Bool}
end L2
namespace TS
open PySem PyProof.Rows
structure Wk(lt:aNo):Prop where
 r9:∀x y,lt x y=true->lt y x=false
 tr:∀x y z,lt y x=false->lt z y=false->lt z x=false
theorem Wk.LY{lt:aNo}(O:Wk lt)(x:Keyed):lt x x=false:=by
 cases h:lt x x with
 | false=>rfl
 | true=>exact(O.r9 x x h).symm.trans h |>.symm▸rfl
def aS(xs:aNq)(i:Nat):Keyed:=(xs[i]?).getD (Value.none,Value.none)
variable{i j:Nat}
theorem LQ{xs a:aNq}(h:xs[i]? =a[j]?):aS xs i=aS a j:=by unfold aS;rw[h]
variable{xs:aNq}
theorem hJ(h:i<xs.size):xs[i]? =some (aS xs i):=by unfold aS;rw[getElem?_pos xs i h];rfl
def Seg(lt:aNo)(xs:aNq)(i j:Nat):Prop:=∀p q,i<=p->p<=q->q<j->lt (aS xs q) (aS xs p)=false
def W4(lt:aNo)(xs:aNq)(i j:Nat):Prop:=∀p q,i<=p->p<=q->q<j->lt (aS xs p) (aS xs q)=false
structure Base(κ:SortKind)(a₀:aNq)(st:SortSt):Prop where
 perm:(arrOf st).Perm a₀
 kind:kindOf st=κ
 cR:failedOf st=none
variable{κ:SortKind}{st:SortSt}
theorem Base.size{a₀:aNq}(h:Base κ a₀ st):(arrOf st).size=a₀.size:=h.perm.size_eq
theorem Base.arr{a₀:aNq}(h:Base κ a₀ st)(p:xs.Perm (arrOf st)):Base κ a₀ (setArr st xs):=⟨p.trans h.perm,h.kind,h.cR⟩
theorem Base.mem{a₀:aNq}(h:Base κ a₀ st)(hi:i<a₀.size):aS (arrOf st) i∈a₀.toList:=by
 have hz:i<(arrOf st).size:=by rw[h.size];exact hi
 have e:=hJ hz;have:aS (arrOf st) i∈arrOf st:=Array.mem_of_getElem? e;exact(Array.perm_iff_toList_perm.mp h.perm).mem_iff.mp this.val
def nC(prog:Program)(w:World)(A:Around)(s:Shared)(κ:SortKind)(lt:aNo)(a₀:aNq):Prop:=
 ∀x y,x∈a₀.toList->y∈a₀.toList->∀Q:Bool->Shared->Prop,Q (lt x y) s->wpAny (model prog w) A (keyLt' κ x.1 y.1) Q (λ_ _=>False) s
section
variable {prog:Program}{w:World}{A:Around}{E:aNn}{s:Shared}{a₀:aNq}{κ:SortKind}{lt:aNo}
variable{Q:Option Bool->SortSt->Prop}
theorem wlt{x y:Keyed}(C:nC prog w A s κ lt a₀)(c:kindOf st=κ)(hx:x∈a₀.toList)(d:y∈a₀.toList)(h:Q (some (lt x y)) st):wpS (model prog w) A E s (lt' x y) Q st:=by
 rw[lt'_eq];refine aJw (wpS_get ?_);rw[c];refine aJw (wpS_lift (aLa (aL9 (C x y hx d (λb a =>b=lt x y/\a =s) ⟨rfl,rfl⟩) (λb a hb=>?_) λ_ _ e=>e.elim)));obtain⟨rfl,rfl⟩:=hb;exact⟨rfl,aJz h⟩
theorem c9{arr:aNq}{Q:Keyed->SortSt->Prop}(hi:i<arr.size)(h:Q (aS arr i) st):wpS (model prog w) A E s (elem' arr i) Q st:=by
 rw[elem'_eq,hJ hi];exact aJz h
theorem B8(C:nC prog w A s κ lt a₀)(a:Base κ a₀ st)(hi:i<a₀.size)(b:j<a₀.size)(h:Q (some (lt (aS (arrOf st) i) (aS (arrOf st) j))) st):
  wpS (model prog w) A E s (ltAt' i j) Q st:=by
 rw[ltAt'_eq];refine aJw (wpS_get ?_);have z:=a.size;exact aJw (c9 (by rw[z];exact hi) (aJw (c9 (by rw[z];exact b) (wlt C a.kind (a.mem hi) (a.mem b) h))))
theorem pC{src d:Nat}(hs:src<xs.size)(hd:d<=src)(k:Nat):aS (bubble xs src d) k=if k=src-d then aS xs src else if src-d<k/\k<=src then aS xs (k-1) else aS xs k:=by
 have e:=getElem?_bubble hs d hd k;unfold aS;rw[e]
 repeat' split
 all_goals rfl
theorem iO(a:j<=xs.size)(k:Nat):aS (mirror xs i j ((j-i) / 2)) k=if i<=k/\k<j then aS xs (i+j-1-k) else aS xs k:=by
 have e:=getElem?_mirror_all (i:=i) a k;unfold aS;rw[e];split <;> rfl
theorem SK(O:Wk lt)(C:nC prog w A s κ lt a₀){lo n ok:Nat}{Q:Bool->SortSt->Prop}(H:lo+n<=a₀.size)(b9:ok<=n)(K:Base κ a₀ st)(hs:Seg lt (arrOf st) lo (lo+ok))
  (h:∀a,Base κ a₀ a ->Seg lt (arrOf a) lo (lo+n)->(∀k,k<lo->aS (arrOf a) k=aS (arrOf st) k)->pendingOf a =pendingOf st->Q true a):wpS (model prog w) A E s (binarySort' lo n ok) Q st:=by
 rw[binarySort'_eq]
 refine aJw (aLd (aL2 (I:=λk c a =>c=(none,())/\Base κ a₀ a /\Seg lt (arrOf a) lo (lo+min k n)/\(∀k,k<lo->aS (arrOf a) k=aS (arrOf st) k)/\pendingOf a =pendingOf st)
  (Q:=λc a =>c=(none,())/\Base κ a₀ a /\Seg lt (arrOf a) lo (lo+n)/\(∀k,k<lo->aS (arrOf a) k=aS (arrOf st) k)/\pendingOf a =pendingOf st) ?step ?fin ?init) ?post)
 case post=>
  rintro c a ⟨rfl,e,d,m,o⟩;exact aJz (h a e d m o)
 case init=>
  refine⟨rfl,K,λp q z t J=>?_,λ_ _=>rfl,rfl⟩;by_cases y:p=q
  ·subst y;exact O.LY _
  ·exact hs p q z t (by lia)
 case fin=>
  rintro c a ⟨L,e,d,r⟩;refine⟨L,e,?_,r⟩
  rwa [show min (max (max ok 1) n) n=n by (clear r b9 H;lia)]at d
 case step=>
  rintro k c a B D ⟨rfl,e,d,m,o⟩;rw[show min k n=k by lia]at d;have F:lo+k<a₀.size:=by lia
  refine aJw (aLd (aL2 (I:=λx c b =>b =a /\∃l r,c=(none,l,r)/\l<=r/\r<=k/\r-l<=k-x/\
    (∀i,i<l->lt (aS (arrOf a) (lo+k)) (aS (arrOf a) (lo+i))=false)/\(∀i,r<=i->i<k->lt (aS (arrOf a) (lo+k)) (aS (arrOf a) (lo+i))=true))
   (Q:=λc b =>b =a /\∃l r,c=(none,l,r)/\l<=k/\
    (∀i,i<l->lt (aS (arrOf a) (lo+k)) (aS (arrOf a) (lo+i))=false)/\(∀i,l<=i->i<k->lt (aS (arrOf a) (lo+k)) (aS (arrOf a) (lo+i))=true)) ?istep ?ifin ?iinit) ?ipost)
  case iinit=>exact⟨rfl,0,k,rfl,by lia,by lia,by lia,λi hi=>by lia,λi y M=>by lia⟩
  case ifin=>
   rintro c b ⟨rfl,l,r,rfl,G,u,hm,f,g⟩;obtain rfl:l=r:=by lia
   exact⟨rfl,l,l,rfl,u,f,g⟩
  case istep=>
   rintro x c b _ N ⟨rfl,l,r,rfl,G,u,hm,f,g⟩;dsimp only;by_cases v:l>=r
   ·rw[if_pos v];obtain rfl:l=r:=by lia
    exact aJz ⟨rfl,l,l,rfl,u,f,g⟩
   ·rw[if_neg v];refine aJw (B8 C e F (by lia) ?_)
    cases hless:lt (aS (arrOf b) (lo+k)) (aS (arrOf b) (lo+(l+r) / 2)) with
    | true=>
     simp only[if_true];refine aJz ⟨rfl,l,(l+r) / 2,rfl,by lia,by lia,by lia,f,λi y M=>?_⟩
     cases hx:lt (aS (arrOf b) (lo+k)) (aS (arrOf b) (lo+i)) with
     | true=>rfl
     | false=>rw[O.tr _ _ _ (d (lo+(l+r) / 2) (lo+i) (by lia) (by lia) (by lia)) hx]at hless;cases hless
    | false=>
     simp only[Bool.false_eq_true,if_false];refine aJz ⟨rfl,(l+r) / 2+1,r,rfl,by lia,by lia,by lia,λi y=>?_,g⟩;exact O.tr _ _ _ (d (lo+i) (lo+(l+r) / 2) (by lia) (by lia) (by lia)) hless
  case ipost=>
   rintro c b ⟨rfl,l,r,rfl,P,f,g⟩;show wpS _ _ _ _ (do moveDown' (lo+k) (lo+l);pure (ForInStep.yield (none,()))) _ _;rw[moveDown'_eq];have xK:lo+k<(arrOf b).size:=by rw[e.size];exact F
   have R:lo+k-(lo+l)=k-l:=by lia
   refine aJw (aMw (aJz ⟨rfl,e.arr (bubble_perm _ _ _),?_,λj S=>?_,o⟩))
   ·rw[show min (k+1) n=k+1 by lia];intro p q z t J;show lt (aS (bubble (arrOf b) (lo+k) (lo+k-(lo+l))) q) (aS (bubble (arrOf b) (lo+k) (lo+k-(lo+l))) p)=false;rw[pC xK (by lia),pC xK (by lia),show lo+k-(lo+k-(lo+l))=lo+l by (clear J t z R xK F D B b9 H;lia)]
    repeat' split
    all_goals first
     | (exfalso;lia)
     | exact O.LY _
     | (have:=f (p-lo) (by lia);rwa [show lo+(p-lo)=p by lia]at this)
     | (have:=O.r9 _ _ (g (q-1-lo) (by lia) (by lia));rwa [show lo+(q-1-lo)=q-1 by lia]at this)
     | exact d _ _ (by lia) (by lia) (by lia)
   ·show aS (bubble (arrOf b) (lo+k) (lo+k-(lo+l))) j=_;rw[pC xK (by lia),if_neg (by lia),if_neg (by lia)];exact m j S
end
def upL(lo a d:Nat):StateT SortSt Sem (Option (Option Nat)×Nat):=
 forIn [a:d] ((none,a):Option (Option Nat)×Nat) λ_ c=>do
  let x<-ltAt' (lo+c.snd) (lo+c.snd-1)
  match x with
  | some b=>if b=true then pure (ForInStep.done (none,c.snd)) else pure (ForInStep.yield (none,c.snd+1))
  | _=>pure (ForInStep.done (some none,c.snd))
def DY(lo n a:Nat):StateT SortSt Sem (Option Nat):=do
 reverseSlice' lo (lo+n)
 let c<-upL lo n a
 match c.fst with
 | some r=>pure r
 | none=>pure (some c.snd)
def J4(lo n d:Nat):StateT SortSt Sem (Option (Option Nat)×Nat×Nat):=
 forIn [n:d] ((none,n,0):Option (Option Nat)×Nat×Nat) λ_ c=>do
  let x<-ltAt' (lo+c.snd.fst) (lo+c.snd.fst-1)
  match x with
  | some a=>
   if a=true then
    if c.snd.snd > 0 then do
     reverseSlice' (lo+c.snd.fst-(c.snd.snd+1)) (lo+c.snd.fst)
     pure (ForInStep.yield (none,c.snd.fst+1,0))
    else pure (ForInStep.yield (none,c.snd.fst+1,0))
   else do
    let y<-ltAt' (lo+c.snd.fst-1) (lo+c.snd.fst)
    match y with
    | some b=>if b=true then pure (ForInStep.done (none,c.snd.fst,c.snd.snd)) else pure (ForInStep.yield (none,c.snd.fst+1,c.snd.snd+1))
    | _=>pure (ForInStep.done (some none,c.snd.fst,c.snd.snd))
  | _=>pure (ForInStep.done (some none,c.snd.fst,c.snd.snd))
def EE(lo n a:Nat):StateT SortSt Sem (Option Nat):=do
 liftM (rule "list.sort.descending-run")
 let c<-J4 lo (n+1) a
 match c.fst with
 | some r=>pure r
 | none=>
  if c.snd.snd > 0 then do
   reverseSlice' (lo+c.snd.fst-(c.snd.snd+1)) (lo+c.snd.fst)
   DY lo c.snd.fst a
  else DY lo c.snd.fst a
theorem MJ(lo e:Nat):countRun' lo e=(do
  let c<-upL lo 1 e
  match c.fst with
  | some r=>pure r
  | none=>
   if (c.snd==e)=true then pure (some c.snd)
   else if c.snd > 1 then do
    let x<-ltAt' lo (lo+c.snd-1)
    match x with
    | some b=>if b=true then pure (some c.snd) else do
      reverseSlice' lo (lo+c.snd)
      EE lo c.snd e
    | _=>pure none
   else EE lo c.snd e):=by
 rw[countRun'_eq];dsimp only;unfold EE DY J4 upL;congr 1;funext c;obtain⟨r,n⟩:=c
 cases r with
 | some r=>rfl
 | none=>
  dsimp only;have fin:∀(a:Option (Option Nat)×Nat),(match a.fst with | some r=>(pure r:StateT SortSt Sem (Option Nat)) | none=>pure (some a.snd))=(match a.fst with | some r=>pure r | none=>pure (some a.snd)):=λ_=>rfl;split
  ·rfl
  ·split
   ·congr 1;funext x
    cases x with
    | none=>rfl
    | some b=>
     dsimp only;split
     ·rfl
     ·congr 1;funext u;congr 1;funext u1;congr 1;congr 1;funext c2;obtain⟨f,h,i⟩:=c2
      cases f with
      | some f=>rfl
      | none=>
       dsimp only;split
       ·congr 1;funext v;congr 1;funext v1;congr 1;funext a;obtain⟨d,g⟩:=a;cases d <;> rfl
       ·congr 1;funext v1;congr 1;funext a;obtain⟨d,g⟩:=a;cases d <;> rfl
   ·congr 1;funext u1;congr 1;congr 1;funext c2;obtain⟨f,h,i⟩:=c2
    cases f with
    | some f=>rfl
    | none=>
     dsimp only;split
     ·congr 1;funext v;congr 1;funext v1;congr 1;funext a;obtain⟨d,g⟩:=a;cases d <;> rfl
     ·congr 1;funext v1;congr 1;funext a;obtain⟨d,g⟩:=a;cases d <;> rfl
section
variable {prog:Program}{w:World}{A:Around}{E:aNn}{s:Shared}{a₀:aNq}{κ:SortKind}{lt:aNo}
theorem SH{Q:Unit->SortSt->Prop}(h:Q () (setArr st (mirror (arrOf st) i j ((j-i) / 2)))):wpS (model prog w) A E s (reverseSlice' i j) Q st:=by
 rw[reverseSlice'_eq];exact aMw h
def kO(lo:Nat)(st a :SortSt):Prop:=(∀k,k<lo->aS (arrOf a) k=aS (arrOf st) k)/\pendingOf a =pendingOf st
variable{lo:Nat}
theorem kO.refl:kO lo st st:=⟨λ_ _=>rfl,rfl⟩
theorem kO.trans{a b c:SortSt}(h:kO lo a b)(h' :kO lo b c):kO lo a c:=⟨λk d=>(h'.1 k d).trans (h.1 k d),h'.2.trans h.2⟩
theorem kO.mirror(hi:lo<=i)(a:j<=(arrOf st).size):kO lo st (setArr st (PyProof.Rows.mirror (arrOf st) i j ((j-i) / 2))):=
 ⟨λk b=>by show aS (PyProof.Rows.mirror (arrOf st) i j ((j-i) / 2)) k=_;rw[iO a,if_neg (by lia)],rfl⟩
theorem wup(O:Wk lt)(C:nC prog w A s κ lt a₀){lo a e:Nat}{Q:Option (Option Nat)×Nat->SortSt->Prop}(r:lo+e<=a₀.size)(ha:1<=a)(f:a<=e)(m:Base κ a₀ st)(hs:Seg lt (arrOf st) lo (lo+a))
  (h:∀n,a<=n->n<=e->Seg lt (arrOf st) lo (lo+n)->(n=e\/lt (aS (arrOf st) (lo+n)) (aS (arrOf st) (lo+n-1))=true)->Q (none,n) st):wpS (model prog w) A E s (upL lo a e) Q st:=by
 unfold upL;refine aL2 (I:=λx c d =>d =st/\c=(none,x)/\Seg lt (arrOf st) lo (lo+x)) ?step ?fin ⟨rfl,rfl,hs⟩
 case fin=>
  rintro c d ⟨rfl,rfl,b⟩;rw[show max a e=e by lia]at b ⊢;exact h e f (aJq _) b (.inl rfl)
 case step=>
  rintro x c d g o ⟨rfl,rfl,b⟩;dsimp only;refine aJw (B8 C m (by lia) (by lia) ?_)
  cases hless:lt (aS (arrOf d) (lo+x)) (aS (arrOf d) (lo+x-1)) with
  | true=>
   simp only[if_true];exact aJz (h x g (by lia) b (.inr hless))
  | false=>
   simp only[Bool.false_eq_true,if_false];refine aJz ⟨rfl,rfl,λp q l i t=>?_⟩;by_cases j:q<lo+x
   ·exact b p q l i j
   ·obtain rfl:q=lo+x:=by lia
    by_cases k :p=lo+x
    ·subst k;exact O.LY _
    ·exact O.tr _ _ _ (b p (lo+x-1) l (by lia) (by lia)) hless
variable{n b7:Nat}{Q:Option Nat->SortSt->Prop}
theorem W8(O:Wk lt)(C:nC prog w A s κ lt a₀)(g:lo+b7<=a₀.size)(i:1<=n)(c:n<=b7)(f:Base κ a₀ st)(hs:W4 lt (arrOf st) lo (lo+n))
  (h:∀m a,Base κ a₀ a ->1<=m->m<=b7->Seg lt (arrOf a) lo (lo+m)->kO lo st a ->Q (some m) a):wpS (model prog w) A E s (DY lo n b7) Q st:=by
 unfold DY;have hsz:lo+n<=(arrOf st).size:=by rw[f.size];lia
 refine aJw (SH ?_);have b :Base κ a₀ (setArr st (mirror (arrOf st) lo (lo+n) ((lo+n-lo) / 2))):=f.arr (mirror_perm _ _ _ _);refine aJw (wup O C g i c b ?_ λm j d e _=>aJz (h m _ b (by lia) d e (kO.mirror (aJq _) hsz)));intro p q l k o;show lt (aS (mirror (arrOf st) lo (lo+n) ((lo+n-lo) / 2)) q) (aS (mirror (arrOf st) lo (lo+n) ((lo+n-lo) / 2)) p)=false;rw[iO hsz,iO hsz,if_pos (by lia),if_pos (by lia)];exact hs _ _ (by lia) (by lia) (by lia)
def Alike(lt:aNo)(xs:aNq)(i j:Nat):Prop:=∀p q,i<=p->p<j->i<=q->q<j->lt (aS xs p) (aS xs q)=false
theorem pE(O:Wk lt)(c:j<=xs.size)(he:Alike lt xs i j)(hs:W4 lt xs lo n)(hi:lo<=i)(g:j<=n):W4 lt (mirror xs i j ((j-i) / 2)) lo n:=by
 intro p q d b e;rw[iO c,iO c];by_cases f:i<=p/\p<j
 ·rw[if_pos f];by_cases a:i<=q/\q<j
  ·rw[if_pos a];exact he _ _ (by lia) (by lia) (by lia) (by lia)
  ·rw[if_neg a];exact hs _ _ (by lia) (by lia) e
 ·rw[if_neg f];by_cases a:i<=q/\q<j
  ·rw[if_pos a];exact hs _ _ d (by lia) (by lia)
  ·rw[if_neg a];exact hs _ _ d b e
theorem aD7(O:Wk lt)(C:nC prog w A s κ lt a₀){Q:Option (Option Nat)×Nat×Nat->SortSt->Prop}(H:lo+b7<=a₀.size)(t:1<=n)(u:n<=b7)(z:Base κ a₀ st)(hs:W4 lt (arrOf st) lo (lo+n))
  (h:∀m b a,Base κ a₀ a ->n<=m->m<=b7->W4 lt (arrOf a) lo (lo+m)->b+1<=m->Alike lt (arrOf a) (lo+m-(b+1)) (lo+m)->kO lo st a ->Q (none,m,b) a):wpS (model prog w) A E s (J4 lo n b7) Q st:=by
 unfold J4
 have one:∀(xs:aNq) (x:Nat),1<=x->Alike lt xs (lo+x-(0+1)) (lo+x):=λxs x hx p q t B D F=>by
  obtain rfl:p=q:=by lia
  exact O.LY _
 refine aL2 (I:=λx c a =>∃b,c=(none,x,b)/\Base κ a₀ a /\W4 lt (arrOf a) lo (lo+x)/\b+1<=x/\Alike lt (arrOf a) (lo+x-(b+1)) (lo+x)/\kO lo st a) ?step ?fin ⟨0,rfl,z,hs,by lia,one _ _ t,kO.refl⟩
 case fin=>
  rintro c a ⟨b,rfl,d,e,l,he,o⟩;rw[show max n b7=b7 by lia]at e l he⊢;exact h b7 b a d u (aJq _) e l he o
 case step=>
  rintro x c a v G ⟨b,rfl,d,e,l,he,o⟩;dsimp only;have hsz:lo+x<=(arrOf a).size:=by rw[d.size];lia
  refine aJw (B8 C d (by lia) (by lia) ?_)
  cases hless:lt (aS (arrOf a) (lo+x)) (aS (arrOf a) (lo+x-1)) with
  | true=>
   simp only[if_true]
   have g:W4 lt (arrOf a) lo (lo+x+1):=by
    intro p q r j l;by_cases f:q<lo+x
    ·exact e p q r j f
    ·obtain rfl:q=lo+x:=by lia
     by_cases k :p=lo+x
     ·subst k;exact O.LY _
     ·exact O.tr _ _ _ (O.r9 _ _ hless) (e p (lo+x-1) r (by lia) (by lia))
   by_cases i:b > 0
   ·rw[if_pos i];refine aJw (SH (aJz ⟨0,rfl,d.arr (mirror_perm _ _ _ _),?_,by lia,one _ _ (by lia),o.trans (kO.mirror (by lia) hsz)⟩));exact pE O hsz he g (by lia) (by lia)
   ·rw[if_neg i];exact aJz ⟨0,rfl,d,g,by lia,one _ _ (by lia),o⟩
  | false=>
   simp only[Bool.false_eq_true,if_false];refine aJw (B8 C d (by lia) (by lia) ?_)
   cases hlarger:lt (aS (arrOf a) (lo+x-1)) (aS (arrOf a) (lo+x)) with
   | true=>
    simp only[if_true];exact aJz (h x b a d v (by lia) e l he o)
   | false=>
    simp only[Bool.false_eq_true,if_false];refine aJz ⟨b+1,rfl,d,λp q r j l=>?_,by lia,λp q t B D F=>?_,o⟩
    ·by_cases f:q<lo+x
     ·exact e p q r j f
     ·obtain rfl:q=lo+x:=by lia
      by_cases k :p=lo+x
      ·subst k;exact O.LY _
      ·exact O.tr _ _ _ hlarger (e p (lo+x-1) r (by lia) (by lia))
    ·by_cases y:p=lo+x
     ·subst y;by_cases f:q=lo+x
      ·subst f;exact O.LY _
      ·exact O.tr _ _ _ (he (lo+x-1) q (by lia) (by lia) (by lia) (by lia)) hless
     ·by_cases f:q=lo+x
      ·subst f;exact O.tr _ _ _ hlarger (he p (lo+x-1) (by lia) (by lia) (by lia) (by lia))
      ·exact he p q (by lia) (by lia) (by lia) (by lia)
theorem XA(O:Wk lt)(C:nC prog w A s κ lt a₀)(g:lo+b7<=a₀.size)(i:n+1<=b7)(t:Base κ a₀ st)(hs:W4 lt (arrOf st) lo (lo+(n+1)))
  (h:∀m a,Base κ a₀ a ->1<=m->m<=b7->Seg lt (arrOf a) lo (lo+m)->kO lo st a ->Q (some m) a):wpS (model prog w) A E s (EE lo n b7) Q st:=by
 unfold EE;refine aJw (wpS_lift (aKq ⟨rfl,?_⟩));refine aJw (aD7 O C g (by lia) i t hs λm j a c u e f v he r=>?_);dsimp only;have hsz:lo+m<=(arrOf a).size:=by rw[c.size];lia
 by_cases b:j > 0
 ·rw[if_pos b];refine aJw (SH (W8 O C g (by lia) e (c.arr (mirror_perm _ _ _ _)) ?_ λm d k l o p q=>h m d k l o p (r.trans ((kO.mirror (by lia) hsz).trans q))));exact pE O hsz he f (by lia) (aJq _)
 ·rw[if_neg b];exact W8 O C g (by lia) e c f λm d k l o p q=>h m d k l o p (r.trans q)
theorem X4(O:Wk lt)(C:nC prog w A s κ lt a₀)(l:lo+b7<=a₀.size)(x:1<=b7)(d:Base κ a₀ st)
  (h:∀m b,Base κ a₀ b ->1<=m->m<=b7->Seg lt (arrOf b) lo (lo+m)->kO lo st b ->Q (some m) b):wpS (model prog w) A E s (countRun' lo b7) Q st:=by
 rw[MJ]
 refine aJw (wup O C l (aJq 1) x d (λp q x K L=>by
  obtain rfl:p=q:=by lia
  exact O.LY _) λn g i c o=>?_)
 dsimp only;by_cases e:n=b7
 ·rw[if_pos (by simpa using e)];exact aJz (h n st d g i c kO.refl)
 ·rw[if_neg (by simpa using e)];have j:lt (aS (arrOf st) (lo+n)) (aS (arrOf st) (lo+n-1))=true:=o.resolve_left e;by_cases k:n > 1
  ·rw[if_pos k];refine aJw (B8 C d (by lia) (by lia) ?_)
   cases hrose:lt (aS (arrOf st) lo) (aS (arrOf st) (lo+n-1)) with
   | true=>
    simp only[if_true];exact aJz (h n st d g i c kO.refl)
   | false=>
    simp only[Bool.false_eq_true,if_false];have hsz:lo+n<=(arrOf st).size:=by rw[d.size];lia
    have a:Alike lt (arrOf st) lo (lo+n):=λp q M N y P=>by
     have z:=c lo p (aJq _) (by lia) (by lia);have B:=c q (lo+n-1) y (by lia) (by lia);exact O.tr _ _ _ (O.tr _ _ _ B hrose) z
    have hd:W4 lt (arrOf st) lo (lo+(n+1)):=λp q r t D=>by
     by_cases u:q<lo+n
     ·exact a p q r (by lia) (by lia) u
     ·obtain rfl:q=lo+n:=by lia
      by_cases f :p=lo+n
      ·subst f;exact O.LY _
      ·exact O.tr _ _ _ (O.r9 _ _ j) (a p (lo+n-1) r (by lia) (by lia) (by lia))
    refine aJw (SH (XA O C l (by lia) (d.arr (mirror_perm _ _ _ _)) ?_ λm v F G H I J=>h m v F G H I ((kO.mirror (aJq _) hsz).trans J)));exact pE O hsz a hd (aJq _) (by lia)
  ·rw[if_neg k];obtain rfl:n=1:=by lia
   refine XA O C l (by lia) d (λp q r t D=>?_) h;by_cases f :p=q
   ·subst f;exact O.LY _
   ·obtain rfl:p=lo:=by lia
    obtain rfl:q=p+1:=by lia
    exact O.r9 _ _ j
end
def eM:Bool->Keyed->Array Keyed->Nat->Nat->Nat->StateT SortSt Sem (Option Nat):=sortPriv% PySem.Builtin.gallop
def lA(left:Bool)(a:Keyed)(arr:aNq)(base i:Nat):StateT SortSt Sem (Option Bool):=do
 let x<-elem' arr (base+i)
 if left then lt' x a else return (<-lt' a x).map (!·)
theorem GW(left:Bool)(b:Keyed)(arr:aNq)(base n a:Nat):eM left b arr base n a=(do
 let mut lastofs:=0;let mut ofs:=1;let mut lo:=0;let mut hi:=0
 let some right<-lA left b arr base a | return none
 if right then
  let maxofs:=n-a
  for _ in [0:n] do
   if ofs>=maxofs then break
   let some more<-lA left b arr base (a+ofs) | return none
   if !more then break
   lastofs:=ofs;ofs:=2*ofs+1
  lo:=a+lastofs+1;hi:=a+min ofs maxofs
 else
  let maxofs:=a+1
  for _ in [0:n] do
   if ofs>=maxofs then break
   let some found<-lA left b arr base (a-ofs) | return none
   if found then break
   lastofs:=ofs;ofs:=2*ofs+1
  lo:=a+1-min ofs maxofs;hi:=a-lastofs
 for _ in [0:n] do
  if lo>=hi then break
  let m:=lo+(hi-lo) / 2
  let some more<-lA left b arr base m | return none
  if more then lo:=m+1 else hi:=m
 return some hi):=rfl
section
variable {prog:Program}{w:World}{A:Around}{E:aNn}{s:Shared}{a₀:aNq}{κ:SortKind}{lt:aNo}
def lB(lt:aNo)(left:Bool)(a:Keyed)(arr:aNq)(base i:Nat):Bool:=if left then lt (aS arr (base+i)) a else !(lt a (aS arr (base+i)))
variable{key:Keyed}{base:Nat}
theorem tT(C:nC prog w A s κ lt a₀){left:Bool}{arr:aNq}{Q:Option Bool->SortSt->Prop}(a:kindOf st=κ)(hi:base+i<arr.size)(hx:aS arr (base+i)∈a₀.toList)(b:key∈a₀.toList)
  (h:Q (some (lB lt left key arr base i)) st):wpS (model prog w) A E s (lA left key arr base i) Q st:=by
 unfold lA;refine aJw (c9 hi ?_)
 cases left with
 | true=>
  simp only[if_true];exact wlt C a hx b h
 | false=>
  simp only[Bool.false_eq_true,if_false];exact aJw (wlt C a b hx (aJz h))
variable{n:Nat}
theorem qR(O:Wk lt){left:Bool}{arr:aNq}(hs:Seg lt arr base (base+n))(a:i<=j)(b:j<n)(h:lB lt left key arr base j=true):lB lt left key arr base i=true:=by
 have e:=hs (base+i) (base+j) (by lia) (by lia) (by lia);unfold lB at h⊢
 cases left with
 | true=>
  simp only[if_true]at h⊢
  cases hx:lt (aS arr (base+i)) key with
  | true=>rfl
  | false=>rw[O.tr _ _ _ hx e]at h;cases h
 | false=>
  simp only[Bool.false_eq_true,if_false]at h⊢;have h' :lt key (aS arr (base+j))=false:=by simpa using h
  rw[O.tr _ _ _ e h'];rfl
theorem r6(O:Wk lt){left:Bool}{arr:aNq}(hs:Seg lt arr base (base+n))(a:i<=j)(b:j<n)(h:lB lt left key arr base i=false):lB lt left key arr base j=false:=by
 cases hx:lB lt left key arr base j with
 | false=>rfl
 | true=>rw[qR O hs a b hx]at h;cases h
def WM(left:Bool)(key:Keyed)(arr:aNq)(base n lo0 XX:Nat):StateT SortSt Sem (Option Nat):=do
 let mut lo:=lo0;let mut hi:=XX
 for _ in [0:n] do
  if lo>=hi then break
  let m:=lo+(hi-lo) / 2
  let some more<-lA left key arr base m | return none
  if more then lo:=m+1 else hi:=m
 return some hi
variable{Q:Option Nat->SortSt->Prop}
theorem aD8(O:Wk lt)(C:nC prog w A s κ lt a₀){left:Bool}{arr:aNq}{base n lo hi:Nat}(t:kindOf st=κ)(hb:base+n<=arr.size)(hs:Seg lt arr base (base+n))
  (hm:∀i,i<n->aS arr (base+i)∈a₀.toList) (u:key∈a₀.toList) (b:lo<=hi) (d:hi<=n) (p:∀i,i<lo->lB lt left key arr base i=true) (q:∀i,hi<=i->i<n->lB lt left key arr base i=false)
  (h:∀k,k<=n->(∀i,i<k->lB lt left key arr base i=true)->(∀i,k<=i->i<n->lB lt left key arr base i=false)->Q (some k) st):wpS (model prog w) A E s (WM left key arr base n lo hi) Q st:=by
 unfold WM;dsimp only
 refine aJw (aLd (aL2 (I:=λx c a =>a =st/\∃l r,c=(none,l,r)/\l<=r/\r<=n/\r-l<=n-x/\(∀i,i<l->lB lt left key arr base i=true)/\(∀i,r<=i->i<n->lB lt left key arr base i=false))
  (Q:=λc a =>a =st/\∃r,c=(none,r,r)/\r<=n/\(∀i,i<r->lB lt left key arr base i=true)/\(∀i,r<=i->i<n->lB lt left key arr base i=false)) ?step ?fin ⟨rfl,lo,hi,rfl,b,d,by lia,p,q⟩) ?post)
 case post=>
  rintro c a ⟨rfl,r,rfl,f,e,g⟩;exact aJz (h r f e g)
 case fin=>
  rintro c a ⟨rfl,l,r,rfl,f,e,g,m,o⟩;obtain rfl:l=r:=by lia
  exact⟨rfl,l,rfl,e,m,o⟩
 case step=>
  rintro x c a _ hx ⟨rfl,l,r,rfl,f,e,g,m,o⟩;dsimp only;by_cases j:l>=r
  ·rw[if_pos j];obtain rfl:l=r:=by lia
   exact aJz ⟨rfl,l,rfl,e,m,o⟩
  ·rw[if_neg j];refine aJw (tT C t (by (clear g f hx d b;lia)) (hm _ (by (clear g f hx d b hb;lia))) u ?_)
   cases hb' :lB lt left key arr base (l+(r-l) / 2) with
   | true=>
    simp only[if_true];exact aJz ⟨rfl,_,r,rfl,by (clear g e f hx d b hb;lia),e,by lia,λi hi=>qR O hs (by lia) (by lia) hb',o⟩
   | false=>
    simp only[Bool.false_eq_true,if_false];exact aJz ⟨rfl,l,_,rfl,by lia,by lia,by lia,m,λi v y=>r6 O hs v y hb'⟩
theorem nD(O:Wk lt)(C:nC prog w A s κ lt a₀){left:Bool}{arr:aNq}{base n b:Nat}(q:kindOf st=κ)(hb:base+n<=arr.size)(t:b<n)(hs:Seg lt arr base (base+n))
  (hm:∀i,i<n->aS arr (base+i)∈a₀.toList) (r:key∈a₀.toList)
  (h:∀k,k<=n->(∀i,i<k->lB lt left key arr base i=true)->(∀i,k<=i->i<n->lB lt left key arr base i=false)->Q (some k) st):wpS (model prog w) A E s (eM left key arr base n b) Q st:=by
 rw[GW];refine aJw (tT C q (by lia) (hm b t) r ?_);dsimp only
 cases hr:lB lt left key arr base b with
 | true=>
  simp only[if_true]
  refine aJw (aLd (aL2 (I:=λx c e =>e =st/\∃a d,c=(none,a,d)/\a<d/\x+1<=d/\b+a<n/\lB lt left key arr base (b+a)=true)
   (Q:=λc e =>e =st/\∃a d,c=(none,a,d)/\a<d/\b+a<n/\lB lt left key arr base (b+a)=true/\(n-b<=d\/(b+d<n/\lB lt left key arr base (b+d)=false))) ?step ?fin ⟨rfl,0,1,rfl,by lia,by lia,by lia,by simpa using hr⟩) ?post)
  case fin=>
   rintro c e ⟨rfl,l,o,rfl,m,u,g,j⟩;exact⟨rfl,l,o,rfl,m,g,j,.inl (by lia)⟩
  case step=>
   rintro x c e _ hx ⟨rfl,l,o,rfl,m,u,g,j⟩;dsimp only;by_cases f:o>=n-b
   ·rw[if_pos f];exact aJz ⟨rfl,l,o,rfl,m,g,j,.inl f⟩
   ·rw[if_neg f];refine aJw (tT C q (by lia) (hm _ (by lia)) r ?_)
    cases hb' :lB lt left key arr base (b+o) with
    | true=>
     simp only[Bool.not_true,Bool.false_eq_true,if_false];exact aJz ⟨rfl,o,_,rfl,by lia,by lia,by lia,hb'⟩
    | false=>
     simp only[Bool.not_false,if_true];exact aJz ⟨rfl,l,o,rfl,m,g,j,.inr ⟨by lia,hb'⟩⟩
  case post=>
   rintro c e ⟨rfl,l,o,rfl,m,g,j,p⟩;dsimp only;show wpS _ _ _ _ (WM left key arr base n (b+l+1) (b+min o (n-b))) _ _;refine aD8 (lo:=b+l+1) (hi:=b+min o (n-b)) O C q hb hs hm r (by (clear p t hb;lia)) (by (clear p g m hb;lia)) (λi hi=>qR O hs (by lia) g j) (λi z v=>?_) h;rcases p with p | ⟨p,y⟩
   ·lia
   ·exact r6 O hs (by lia) v y
 | false=>
  simp only[Bool.false_eq_true,if_false]
  refine aJw (aLd (aL2 (I:=λx c e =>e =st/\∃a d,c=(none,a,d)/\a<d/\x+1<=d/\a<=b/\lB lt left key arr base (b-a)=false)
   (Q:=λc e =>e =st/\∃a d,c=(none,a,d)/\a<d/\a<=b/\lB lt left key arr base (b-a)=false/\(b+1<=d\/(d<=b/\lB lt left key arr base (b-d)=true))) ?step ?fin ⟨rfl,0,1,rfl,by lia,by lia,by lia,by simpa using hr⟩) ?post)
  case fin=>
   rintro c e ⟨rfl,l,o,rfl,m,u,g,j⟩;exact⟨rfl,l,o,rfl,m,g,j,.inl (by lia)⟩
  case step=>
   rintro x c e _ hx ⟨rfl,l,o,rfl,m,u,g,j⟩;dsimp only;by_cases f:o>=b+1
   ·rw[if_pos f];exact aJz ⟨rfl,l,o,rfl,m,g,j,.inl f⟩
   ·rw[if_neg f];refine aJw (tT C q (by lia) (hm _ (by lia)) r ?_)
    cases hb' :lB lt left key arr base (b-o) with
    | true=>
     simp only[if_true];exact aJz ⟨rfl,l,o,rfl,m,g,j,.inr ⟨by lia,hb'⟩⟩
    | false=>
     simp only[Bool.false_eq_true,if_false];exact aJz ⟨rfl,o,_,rfl,by lia,by lia,by lia,hb'⟩
  case post=>
   rintro c e ⟨rfl,l,o,rfl,m,g,j,p⟩;dsimp only;show wpS _ _ _ _ (WM left key arr base n (b+1-min o (b+1)) (b-l)) _ _;refine aD8 (lo:=b+1-min o (b+1)) (hi:=b-l) O C q hb hs hm r (by (clear p g t hb;lia)) (by lia) (λi hi=>?_) (λi z v=>r6 O hs z v j) h;rcases p with p | ⟨p,y⟩
   ·lia
   ·exact qR O hs (by lia) (by lia) y
end
structure Mg(lt:aNo)(all o p q:List Keyed):Prop where
 perm:(o++(p++q)).Perm all
 so:o.Pairwise λx y=>lt y x=false
 sp:p.Pairwise λx y=>lt y x=false
 sq:q.Pairwise λx y=>lt y x=false
 low:∀x∈o,∀y∈p++q,lt y x=false
theorem Mg.left{lt:aNo}{all o u p q:List Keyed}(M:Mg lt all o (u++p) q)(h:∀x∈u,∀y∈q,lt y x=false):Mg lt all (o++u) p q:=by
 have sp:=aKb.mp M.sp;refine⟨?_,aKb.mpr ⟨M.so,sp.1,λx hx y a=>M.low x hx y (by simp[a])⟩,sp.2.1,M.sq,λx hx y a=>?_⟩
 ·have:=M.perm;simpa[List.append_assoc] using this
 ·rcases aJx.mp hx with hx | hx
  ·exact M.low x hx y (by rcases aJx.mp a with z | z <;> simp[z])
  ·rcases aJx.mp a with z | z
   ·exact sp.2.2 x hx y z
   ·exact h x hx y z
theorem Mg.right{lt:aNo}{all o u p q:List Keyed}(M:Mg lt all o p (u++q))(h:∀x∈u,∀y∈p,lt y x=false):Mg lt all (o++u) p q:=by
 have sq:=aKb.mp M.sq;refine⟨?_,aKb.mpr ⟨M.so,sq.1,λx hx y a=>M.low x hx y (by simp[a])⟩,M.sp,sq.2.1,λx hx y a=>?_⟩
 ·refine List.Perm.trans ?_ M.perm;rw[List.append_assoc];refine aLg o ?_;rw[<-List.append_assoc,<-List.append_assoc];exact aLu q aL5
 ·rcases aJx.mp hx with hx | hx
  ·exact M.low x hx y (by rcases aJx.mp a with z | z <;> simp[z])
  ·rcases aJx.mp a with z | z
   ·exact h x hx y z
   ·exact sq.2.2 x hx y z
def Good(lt:aNo)(all r:List Keyed):Prop:=r.Perm all/\r.Pairwise λx y=>lt y x=false
theorem Mg.fin{lt:aNo}{all o p q:List Keyed}(M:Mg lt all o p q)(h:p=[]\/q=[]):Good lt all (o++(p++q)):=by
 refine⟨M.perm,aKb.mpr ⟨M.so,?_,M.low⟩⟩;rcases h with rfl | rfl
 ·simpa using M.sq
 ·simpa using M.sp
variable{x:Keyed}
theorem Mg.aJ4{lt:aNo}{all o q:List Keyed}(M:Mg lt all o [x] q)(h:∀y∈q,lt x y=false):Good lt all (o++(q++[x])):=by
 refine⟨(aLg o aL5).trans M.perm,aKb.mpr ⟨M.so,aKb.mpr ⟨M.sq,by simp,λa ha b hb=>?_⟩,λa ha b hb=>M.low a ha b ?_⟩⟩
 ·have:b=x:=by simpa using hb
  rw[this];exact h a ha
 ·rcases aJx.mp hb with z | z <;> simp[z] <;> simp_all
def p9:Array Keyed->Array Keyed->StateT SortSt Sem (aNq):=sortPriv% PySem.Builtin.mergeLo
def fU(g:Nat):StateT SortSt Sem Unit:=modify λs=>SortSt.mk' (kindOf s) (arrOf s) (pendingOf s) g (failedOf s)
def eT(a b out:aNq)(ia ib:Nat):aNq:=out++a.extract ia a.size++b.extract ib b.size
def iP(a b out:aNq)(ia ib:Nat):aNq:=out++b.extract ib b.size++a.extract ia a.size
abbrev R8:=Option (aNq)×aNq×Nat×Nat×Nat×Nat×Nat
abbrev MT:=Option (aNq)×aNq×Nat×Nat×Nat×Nat
abbrev RP:=Option (aNq)×aNq×Nat×Nat×Nat
def lo4(a b:aNq)(mg c d:Nat)(out:aNq)(ia ib:Nat):StateT SortSt Sem (ForInStep R8):=do
 let y<-elem' a ia
 if (ia+1+1==a.size)=true then pure (.done (some (iP a b (out.push y) (ia+1) ib),out.push y,ia+1,ib,mg,c,d))
 else if (decide (c<7) && decide (d<7))=true then pure (.done (none,out.push y,ia+1,ib,mg,c,d)) else pure (.yield (none,out.push y,ia+1,ib,mg,c,d))
def lo3(a b:aNq)(mg c d:Nat)(out:aNq)(ia ib:Nat):StateT SortSt Sem (ForInStep R8):=do
 let x<-elem' a ia
 let r<-eM true x b ib (b.size-ib) 0
 match r with
 | some k=>if k > 0 then (if (ib+k==b.size)=true then pure (.done (some (eT a b (out++b.extract ib (ib+k)) ia (ib+k)),out++b.extract ib (ib+k),ia,ib+k,mg,c,k)) else lo4 a b mg c k (out++b.extract ib (ib+k)) ia (ib+k)) else lo4 a b mg c k out ia ib
 | _=>pure (.done (some (eT a b out ia ib),out,ia,ib,mg,c,d))
def lo2(a b:aNq)(mg c d:Nat)(out:aNq)(ia ib:Nat):StateT SortSt Sem (ForInStep R8):=do
 let y<-elem' b ib
 if (ib+1==b.size)=true then pure (.done (some (eT a b (out.push y) ia (ib+1)),out.push y,ia,ib+1,mg,c,d)) else lo3 a b mg c d (out.push y) ia (ib+1)
def lo1(a b:aNq)(mg d c:Nat)(out:aNq)(ia ib:Nat):StateT SortSt Sem (ForInStep R8):=do
 fU mg
 let x<-elem' b ib
 let r<-eM false x a ia (a.size-ia) 0
 match r with
 | some k=>if k > 0 then (if (ia+k+1==a.size)=true then pure (.done (some (iP a b (out++a.extract ia (ia+k)) (ia+k) ib),out++a.extract ia (ia+k),ia+k,ib,mg,k,c)) else
   if (ia+k==a.size)=true then pure (.done (some (eT a b (out++a.extract ia (ia+k)) (ia+k) ib),out++a.extract ia (ia+k),ia+k,ib,mg,k,c)) else lo2 a b mg k c (out++a.extract ia (ia+k)) (ia+k) ib) else lo2 a b mg k c out ia ib
 | _=>pure (.done (some (eT a b out ia ib),out,ia,ib,mg,d,c))
def loB(a b:aNq)(mg:Nat)(c:MT):StateT SortSt Sem (ForInStep MT):=do
 let y<-elem' b c.snd.snd.snd.fst
 if (c.snd.snd.snd.fst+1==b.size)=true then pure (.done (some (eT a b (c.snd.fst.push y) c.snd.snd.fst (c.snd.snd.snd.fst+1)),c.snd.fst.push y,c.snd.snd.fst,c.snd.snd.snd.fst+1,0,c.snd.snd.snd.snd.snd+1))
 else if c.snd.snd.snd.snd.snd+1>=mg then pure (.done (none,c.snd.fst.push y,c.snd.snd.fst,c.snd.snd.snd.fst+1,0,c.snd.snd.snd.snd.snd+1))
 else pure (.yield (none,c.snd.fst.push y,c.snd.snd.fst,c.snd.snd.snd.fst+1,0,c.snd.snd.snd.snd.snd+1))
def loA(a b:aNq)(mg:Nat)(c:MT):StateT SortSt Sem (ForInStep MT):=do
 let x<-elem' a c.snd.snd.fst
 if (c.snd.snd.fst+1+1==a.size)=true then pure (.done (some (iP a b (c.snd.fst.push x) (c.snd.snd.fst+1) c.snd.snd.snd.fst),c.snd.fst.push x,c.snd.snd.fst+1,c.snd.snd.snd.fst,c.snd.snd.snd.snd.fst+1,0))
 else if c.snd.snd.snd.snd.fst+1>=mg then pure (.done (none,c.snd.fst.push x,c.snd.snd.fst+1,c.snd.snd.snd.fst,c.snd.snd.snd.snd.fst+1,0))
 else pure (.yield (none,c.snd.fst.push x,c.snd.snd.fst+1,c.snd.snd.snd.fst,c.snd.snd.snd.snd.fst+1,0))
def lo0(a b:aNq)(mg:Nat)(c:MT):StateT SortSt Sem (ForInStep MT):=do
 let y<-elem' b c.snd.snd.snd.fst
 let x<-elem' a c.snd.snd.fst
 let r<-lt' y x
 match r with
 | some d=>if d=true then loB a b mg c else loA a b mg c
 | _=>pure (.done (some (eT a b c.snd.fst c.snd.snd.fst c.snd.snd.snd.fst),c.snd.fst,c.snd.snd.fst,c.snd.snd.snd.fst,c.snd.snd.snd.snd.fst,c.snd.snd.snd.snd.snd))
def GH(a b:aNq)(c:RP):StateT SortSt Sem (ForInStep RP):=do
 let d<-forIn [:a.size+b.size] ((none,c.snd.fst,c.snd.snd.fst,c.snd.snd.snd.fst,0,0):MT) λ_ d=>lo0 a b c.snd.snd.snd.snd d
 match d.fst with
 | some r=>pure (.done (some r,d.snd.fst,d.snd.snd.fst,d.snd.snd.snd.fst,c.snd.snd.snd.snd))
 | none=>do
  liftM (rule "list.sort.gallop")
  let e<-forIn [:a.size+b.size] ((none,d.snd.fst,d.snd.snd.fst,d.snd.snd.snd.fst,c.snd.snd.snd.snd+1,d.snd.snd.snd.snd.fst,d.snd.snd.snd.snd.snd):R8) λ_ e=>
   if e.snd.snd.snd.snd.fst > 1 then lo1 a b (e.snd.snd.snd.snd.fst-1) e.snd.snd.snd.snd.snd.fst e.snd.snd.snd.snd.snd.snd e.snd.fst e.snd.snd.fst e.snd.snd.snd.fst else lo1 a b e.snd.snd.snd.snd.fst e.snd.snd.snd.snd.snd.fst e.snd.snd.snd.snd.snd.snd e.snd.fst e.snd.snd.fst e.snd.snd.snd.fst
  match e.fst with
  | some r=>pure (.done (some r,e.snd.fst,e.snd.snd.fst,e.snd.snd.snd.fst,e.snd.snd.snd.snd.fst))
  | none=>do
   fU (e.snd.snd.snd.snd.fst+1)
   pure (.yield (none,e.snd.fst,e.snd.snd.fst,e.snd.snd.snd.fst,e.snd.snd.snd.snd.fst+1))
theorem DP(a b:aNq):p9 a b=(do
 rule "list.sort.merge-lo"
 let total:=a.size+b.size;let mut out:aNq:= #[<-elem' b 0];let mut ia:=0;let mut ib:=1
 if ib==b.size then return eT a b out ia ib
 if ia+1==a.size then return iP a b out ia ib
 let mut minGallop:=gallopOf (<-get)
 for _ in [0:total] do
  let mut acount:=0;let mut bcount:=0
  for _ in [0:total] do
   let some bWins<-lt' (<-elem' b ib) (<-elem' a ia) | return eT a b out ia ib
   if bWins then
    out:=out.push (<-elem' b ib);ib:=ib+1;bcount:=bcount+1;acount:=0
    if ib==b.size then return eT a b out ia ib
    if bcount>=minGallop then break
   else
    out:=out.push (<-elem' a ia);ia:=ia+1;acount:=acount+1;bcount:=0
    if ia+1==a.size then return iP a b out ia ib
    if acount>=minGallop then break
  rule "list.sort.gallop"
  minGallop:=minGallop+1
  for _ in [0:total] do
   if minGallop > 1 then minGallop:=minGallop-1
   fU minGallop
   let some k<-eM false (<-elem' b ib) a ia (a.size-ia) 0 | return eT a b out ia ib
   acount:=k
   if k > 0 then
    out:=out++a.extract ia (ia+k);ia:=ia+k
    if ia+1==a.size then return iP a b out ia ib
    if ia==a.size then return eT a b out ia ib
   out:=out.push (<-elem' b ib);ib:=ib+1
   if ib==b.size then return eT a b out ia ib
   let some k<-eM true (<-elem' a ia) b ib (b.size-ib) 0 | return eT a b out ia ib
   bcount:=k
   if k > 0 then
    out:=out++b.extract ib (ib+k);ib:=ib+k
    if ib==b.size then return eT a b out ia ib
   out:=out.push (<-elem' a ia);ia:=ia+1
   if ia+1==a.size then return iP a b out ia ib
   if acount<7 && bcount<7 then break
  minGallop:=minGallop+1
  fU minGallop
 unsupported "internal:list.sort.merge-bound"):=rfl
theorem DO(a b:aNq):p9 a b=(do
 liftM (rule "list.sort.merge-lo")
 let y<-elem' b 0
 if (1==b.size)=true then pure (eT a b #[y] 0 1)
 else if (0+1==a.size)=true then pure (iP a b #[y] 0 1)
 else do
  let g<-get
  let c<-forIn [:a.size+b.size] ((none,#[y],0,1,gallopOf g):RP) λ_ c=>GH a b c
  match c.fst with
  | some r=>pure r
  | none=>unsupported "internal:list.sort.merge-bound"):=by
 rw[DP];refine aKy λu=>?_;refine aKy λy=>?_;refine aMl rfl (λ_=>rfl) (λ_=>?_);refine aMl rfl (λ_=>rfl) (λ_=>?_);refine aKy λg=>?_;have p:∀(f h :Nat->RP->StateT SortSt Sem (ForInStep RP)) (k j :RP->StateT SortSt Sem (aNq)) (i:RP),f=h ->k=j ->(forIn [:a.size+b.size] i f >>=k)=(forIn [:a.size+b.size] i h >>=j):=λf h k j i l m=>by rw[l,m]
 refine p _ _ _ _ _ (funext λx=>funext λc=>?_) ?_
 ·have n:∀(f h :Nat->MT->StateT SortSt Sem (ForInStep MT)) (k j :MT->StateT SortSt Sem (ForInStep RP)) (i:MT),f=h ->k=j ->(forIn [:a.size+b.size] i f >>=k)=(forIn [:a.size+b.size] i h >>=j):=λf h k j i l m=>by rw[l,m]
  refine n _ _ _ _ _ (funext λx=>funext λd=>?_) (funext λd=>?_)
  ·rfl
  ·obtain⟨q,w⟩:=d
   cases q with
   | some r=>rfl
   | none=>
    refine aKy λv=>?_;have o:∀(f h :Nat->R8->StateT SortSt Sem (ForInStep R8)) (k j :R8->StateT SortSt Sem (ForInStep RP)) (i:R8),f=h ->k=j ->(forIn [:a.size+b.size] i f >>=k)=(forIn [:a.size+b.size] i h >>=j):=λf h k j i l m=>by rw[l,m]
    refine o _ _ _ _ _ (funext λx=>funext λe=>?_) (funext λe=>?_)
    ·refine aMl rfl (λ_=>?_) (λ_=>?_)
     ·rfl
     ·rfl
    ·obtain⟨s,z⟩:=e;cases s <;> rfl
 ·funext c;obtain⟨t,A⟩:=c;cases t <;> rfl
def bS(s t:SortSt):Prop:=kindOf t=kindOf s/\arrOf t=arrOf s/\pendingOf t=pendingOf s/\failedOf t=failedOf s
theorem bS.refl(s:SortSt):bS s s:=⟨rfl,rfl,rfl,rfl⟩
theorem bS.trans{a b c:SortSt}(h:bS a b)(h' :bS b c):bS a c:=⟨h'.1.trans h.1,h'.2.1.trans h.2.1,h'.2.2.1.trans h.2.2.1,h'.2.2.2.trans h.2.2.2⟩
variable{a:aNq}
theorem qO(h:i<a.size):a.toList.drop i=aS a i::a.toList.drop (i+1):=by
 have b:i<a.toList.length:=by simpa using h
 rw[List.drop_eq_getElem_cons b]
 have e:aS a i=a.toList[i]:=by
  have:=hJ h;rw[getElem?_pos a i h]at this;have:=aK5 this;rw[<-this];simp
 rw[e]
theorem eK(h:i<a.size):aS a i∈a.toList:=by
 have:=qO h;exact aM2 (i:=i) (by rw[this];exact aJs)
theorem dQ(h:x∈a.toList.drop i):∃j,i<=j/\j<a.size/\x=aS a j:=by
 obtain⟨n,b,e⟩:=aMa h;simp only[List.length_drop,Array.length_toList]at b;refine⟨i+n,by lia,by lia,?_⟩
 have c:aS a (i+n)=a.toList[i+n]'(by simp;lia):=by
  have:=hJ (xs:=a) (i:=i+n) (by lia);rw[getElem?_pos a (i+n) (by lia)]at this;have:=aK5 this;rw[<-this];simp
 rw[c,<-e];simp
theorem EF{i k:Nat}:(a.extract i (i+k)).toList=(a.toList.drop i).take k:=by
 rw[Array.toList_extract,List.extract_eq_take_drop];congr 1;lia
theorem kZ{i k:Nat}(h:x∈(a.toList.drop i).take k):∃j,j<k/\i+j<a.size/\x=aS a (i+j):=by
 obtain⟨n,b,e⟩:=aMa h;simp only[List.length_take,List.length_drop,Array.length_toList]at b;refine⟨n,by lia,by lia,?_⟩
 have c:aS a (i+n)=a.toList[i+n]'(by simp;lia):=by
  have:=hJ (xs:=a) (i:=i+n) (by lia);rw[getElem?_pos a (i+n) (by lia)]at this;have:=aK5 this;rw[<-this];simp
 rw[c,<-e];simp
theorem bA{lt:aNo}(O:Wk lt)(h:a.toList.Pairwise λx y=>lt y x=false):∀p q,p<=q->q<a.size->lt (aS a q) (aS a p)=false:=by
 intro p q d b;by_cases e:p=q
 ·subst e;exact O.LY _
 ·rw[List.pairwise_iff_getElem]at h;have:=h p q (by simp;lia) (by simpa using b) (by lia)
  have c:∀i (hi:i<a.size),aS a i=a.toList[i]'(by simpa using hi):=λi hi=>by
   have:=hJ (xs:=a) (i:=i) hi;rw[getElem?_pos a i hi]at this;have:=aK5 this;rw[<-this];simp
  rw[c p (by lia),c q b];exact this
theorem v7(a b out:aNq)(ia ib:Nat):(eT a b out ia ib).toList=out.toList++(a.toList.drop ia++b.toList.drop ib):=by
 unfold eT;simp only[Array.toList_append,Array.toList_extract,List.extract_eq_take_drop,List.append_assoc];rw[List.take_of_length_le (by simp),List.take_of_length_le (by simp)]
theorem EG(a b out:aNq)(ia ib:Nat):(iP a b out ia ib).toList=out.toList++(b.toList.drop ib++a.toList.drop ia):=by
 unfold iP;simp only[Array.toList_append,Array.toList_extract,List.extract_eq_take_drop,List.append_assoc];rw[List.take_of_length_le (by simp),List.take_of_length_le (by simp)]
section
variable {prog:Program}{w:World}{A:Around}{E:aNn}{s:Shared}{a₀ a b:aNq}{κ:SortKind}{lt:aNo}
structure E9(lt:aNo)(a₀ a b:aNq):Prop where
 ma:∀x∈a.toList,x∈a₀.toList
 mb:∀x∈b.toList,x∈a₀.toList
 sa:a.toList.Pairwise λx y=>lt y x=false
 sb:b.toList.Pairwise λx y=>lt y x=false
 pa:1<=a.size
 pb:1<=b.size
 first:∀x∈a.toList,lt x (aS b 0)=false
 last:∀y∈b.toList,lt (aS a (a.size-1)) y=false
abbrev qV(lt:aNo)(a b out:aNq)(ia ib:Nat):Prop:=Mg lt (a.toList++b.toList) out.toList (a.toList.drop ia) (b.toList.drop ib)
variable{ia ib:Nat}
theorem qV.yF(O:Wk lt){a b out:aNq}(M:qV lt a b out ia ib)(hb:ib<b.size)(h:∀z∈a.toList.drop ia,lt z (aS b ib)=false):qV lt a b (out.push (aS b ib)) ia (ib+1):=by
 unfold qV at*;rw[qO hb]at M;have:=Mg.right (u:=[aS b ib]) M (by simpa using h);simpa using this
theorem qV.yG(O:Wk lt){a b out:aNq}(M:qV lt a b out ia ib)(ha:ia<a.size)(h:∀z∈b.toList.drop ib,lt z (aS a ia)=false):qV lt a b (out.push (aS a ia)) (ia+1) ib:=by
 unfold qV at*;rw[qO ha]at M;have:=Mg.left (u:=[aS a ia]) M (by simpa using h);simpa using this
theorem qV.PK{a b out:aNq}{ia ib k:Nat}(M:qV lt a b out ia ib)(h:∀x∈(a.toList.drop ia).take k,∀y∈b.toList.drop ib,lt y x=false):qV lt a b (out++a.extract ia (ia+k)) (ia+k) ib:=by
 unfold qV at*;rw[<-List.take_append_drop k (a.toList.drop ia),List.drop_drop]at M;have:=Mg.left M h;rw[Array.toList_append,EF];exact this
theorem qV.PJ{a b out:aNq}{ia ib k:Nat}(M:qV lt a b out ia ib)(h:∀x∈(b.toList.drop ib).take k,∀y∈a.toList.drop ia,lt y x=false):qV lt a b (out++b.extract ib (ib+k)) ia (ib+k):=by
 unfold qV at*;rw[<-List.take_append_drop k (b.toList.drop ib),List.drop_drop]at M;have:=Mg.right M h;rw[Array.toList_append,EF];exact this
theorem qV.BC{a b out:aNq}(M:qV lt a b out ia ib)(h:ib=b.size):Good lt (a.toList++b.toList) (eT a b out ia ib).toList:=by
 rw[v7];exact Mg.fin M (.inr (by rw[h];simp))
theorem qV.G3{a b out:aNq}(M:qV lt a b out ia ib)(h:ia=a.size):Good lt (a.toList++b.toList) (eT a b out ia ib).toList:=by
 rw[v7];exact Mg.fin M (.inl (by rw[h];simp))
theorem qV.JH(T:E9 lt a₀ a b){out:aNq}(M:qV lt a b out ia ib)(h:ia+1=a.size):Good lt (a.toList++b.toList) (iP a b out ia ib).toList:=by
 rw[EG];unfold qV at M
 have e:a.toList.drop ia=[aS a ia]:=by
  rw[qO (by lia),List.drop_of_length_le (by simp;lia)]
 rw[e]at M⊢;refine Mg.aJ4 M λy c=>?_;have:=T.last y (aM2 c)
 rwa [show a.size-1=ia by lia]at this
structure J(lt:aNo)(a b out:aNq)(ia ib:Nat):Prop where
 m:qV lt a b out ia ib
 ha:ia+1<a.size
 hb:ib<b.size
 n:out.size=ia+ib
variable{γ:Type}
def After(lt:aNo)(a b:aNq)(n:Nat)(c:Option (aNq)×aNq×Nat×Nat×γ):Prop:=
 (∃r,c.1=some r/\Good lt (a.toList++b.toList) r.toList)\/(c.1=none/\J lt a b c.2.1 c.2.2.1 c.2.2.2.1/\n<=c.2.1.size)
def oW(lt:aNo)(a b:aNq)(n:Nat)(st:SortSt)(r:ForInStep (Option (aNq)×aNq×Nat×Nat×γ))(d :SortSt):Prop:=
 bS st d /\match r with | .done c=>After lt a b n c | .yield c=>c.1=none/\After lt a b n c
variable{mg ac bc n:Nat}
theorem aD1(O:Wk lt)(T:E9 lt a₀ a b){out:aNq}(M:qV lt a b out ia ib)(ha:ia+1<a.size)(hb:ib<b.size)(e:out.size=ia+ib)(d:n<=out.size+1)(h:∀z∈b.toList.drop ib,lt z (aS a ia)=false):
  wpS (model prog w) A E s (lo4 a b mg ac bc out ia ib) (oW lt a b n st) st:=by
 unfold lo4;refine aJw (c9 (by lia) ?_);have M2:=M.yG O (by lia) h;by_cases c:ia+1+1=a.size
 ·rw[if_pos (by simp[c])];exact aJz ⟨bS.refl _,.inl ⟨_,rfl,M2.JH T c⟩⟩
 ·rw[if_neg (by simp[c])]
  have j:J lt a b (out.push (aS a ia)) (ia+1) ib:=⟨M2,by lia,hb,by simp;lia⟩
  split
  ·exact aJz ⟨bS.refl _,.inr ⟨rfl,j,by simpa using d⟩⟩
  ·exact aJz ⟨bS.refl _,rfl,.inr ⟨rfl,j,by simpa using d⟩⟩
theorem aH0(O:Wk lt)(C:nC prog w A s κ lt a₀)(T:E9 lt a₀ a b){out:aNq}(v:kindOf st=κ)(M:qV lt a b out ia ib)(ha:ia+1<a.size)(hb:ib<b.size)(B:out.size=ia+ib)(g:n<=out.size+1):
  wpS (model prog w) A E s (lo3 a b mg ac bc out ia ib) (oW lt a b n st) st:=by
 unfold lo3;have h:=bA O T.sa;have l:=bA O T.sb;refine aJw (c9 (by lia) ?_);refine aJw (nD O C v (by lia) (by lia) (λp q t m G=>l p q m (by lia)) (λi hi=>T.mb _ (eK (by lia))) (T.ma _ (eK (by lia))) λk w6 t m=>?_)
 have o:∀z∈a.toList.drop ia,lt z (aS a ia)=false:=λz hz=>by
  obtain⟨j,d,f,rfl⟩:=dQ hz;exact h _ _ d f
 have D:∀x∈(b.toList.drop ib).take k,∀y∈a.toList.drop ia,lt y x=false:=λx hx y F=>by
  obtain⟨j,d,f,rfl⟩:=kZ hx;have e:=t j d;simp only[lB,if_true]at e;exact O.tr _ _ _ (O.r9 _ _ e) (o y F)
 have u:∀z∈b.toList.drop (ib+k),lt z (aS a ia)=false:=λz hz=>by
  obtain⟨j,d,f,rfl⟩:=dQ hz;have e:=m (j-ib) (by lia) (by lia);simp only[lB,if_true]at e
  rwa [show ib+(j-ib)=j by lia]at e
 dsimp only;by_cases c:k > 0
 ·rw[if_pos c];have M2:=M.PJ D;by_cases r:ib+k=b.size
  ·rw[if_pos (by simp[r])];exact aJz ⟨bS.refl _,.inl ⟨_,rfl,M2.BC r⟩⟩
  ·rw[if_neg (by simp[r])];have sz:(b.extract ib (ib+k)).size=k:=by rw[Array.size_extract];lia
   exact aD1 O T M2 ha (by lia) (by rw[Array.size_append,sz];lia) (by rw[Array.size_append,sz];lia) u
 ·obtain rfl:k=0:=by lia
  rw[if_neg (by lia)];exact aD1 O T M ha hb B g u
theorem aD2(O:Wk lt)(C:nC prog w A s κ lt a₀)(T:E9 lt a₀ a b){out:aNq}(d:kindOf st=κ)(M:qV lt a b out ia ib)(ha:ia+1<a.size)(hb:ib<b.size)(f:out.size=ia+ib)(e:n<=out.size+1)(h:∀z∈a.toList.drop ia,lt z (aS b ib)=false):
  wpS (model prog w) A E s (lo2 a b mg ac bc out ia ib) (oW lt a b n st) st:=by
 unfold lo2;refine aJw (c9 (by lia) ?_);have M2:=M.yF O hb h;by_cases c:ib+1=b.size
 ·rw[if_pos (by simp[c])];exact aJz ⟨bS.refl _,.inl ⟨_,rfl,M2.BC c⟩⟩
 ·rw[if_neg (by simp[c])];exact aH0 O C T d M2 ha (by lia) (by simp;lia) (by simp;lia)
theorem tS{g:Nat}{Q:Unit->SortSt->Prop}(h:∀a,bS st a ->Q () a):wpS (model prog w) A E s (fU g) Q st:=by
 unfold fU;exact aMw (h _ ⟨rfl,rfl,rfl,rfl⟩)
theorem FP{st c d:SortSt}{r:ForInStep (Option (aNq)×aNq×Nat×Nat×γ)}{a b:aNq}(h:bS st c)(q:oW lt a b n c r d):oW lt a b n st r d:=⟨h.trans q.1,q.2⟩
theorem aD3(O:Wk lt)(C:nC prog w A s κ lt a₀)(T:E9 lt a₀ a b){out:aNq}(F:kindOf st=κ)(j:J lt a b out ia ib)(g:n<=out.size+1):
  wpS (model prog w) A E s (lo1 a b mg ac bc out ia ib) (oW lt a b n st) st:=by
 unfold lo1;obtain⟨M,ha,hb,G⟩:=j;have h:=bA O T.sa;have l:=bA O T.sb;refine aJw (tS λm same=>?_);refine aLd ?_ λr H q=>FP same q;have w6:kindOf m=κ:=same.1.trans F;refine aJw (c9 (by lia) ?_);refine aJw (nD O C w6 (by lia) (by lia) (λp q B o N=>h p q o (by lia)) (λi hi=>T.ma _ (eK (by lia))) (T.mb _ (eK (by lia))) λk I B o=>?_)
 have t:∀z∈b.toList.drop ib,lt z (aS b ib)=false:=λz hz=>by
  obtain⟨j,d,f,rfl⟩:=dQ hz;exact l _ _ d f
 have K:∀x∈(a.toList.drop ia).take k,∀y∈b.toList.drop ib,lt y x=false:=λx hx y L=>by
  obtain⟨j,d,f,rfl⟩:=kZ hx;have e:=B j d;simp only[lB,Bool.false_eq_true,if_false,Bool.not_eq_true']at e;exact O.tr _ _ _ e (t y L)
 have D:∀z∈a.toList.drop (ia+k),lt z (aS b ib)=false:=λz hz=>by
  obtain⟨j,d,f,rfl⟩:=dQ hz;have e:=o (j-ia) (by lia) (by lia);simp only[lB,Bool.false_eq_true,if_false,Bool.not_eq_false']at e;rw[show ia+(j-ia)=j by lia]at e;exact O.r9 _ _ e
 dsimp only;by_cases c:k > 0
 ·rw[if_pos c];have M2:=M.PK K;by_cases u:ia+k+1=a.size
  ·rw[if_pos (by simp[u])];exact aJz ⟨bS.refl _,.inl ⟨_,rfl,M2.JH T u⟩⟩
  ·rw[if_neg (by simp[u])];by_cases v:ia+k=a.size
   ·rw[if_pos (by simp[v])];exact aJz ⟨bS.refl _,.inl ⟨_,rfl,M2.G3 v⟩⟩
   ·rw[if_neg (by simp[v])];have sz:(a.extract ia (ia+k)).size=k:=by rw[Array.size_extract];lia
    exact aD2 O C T w6 M2 (by lia) hb (by rw[Array.size_append,sz];lia) (by rw[Array.size_append,sz];lia) D
 ·obtain rfl:k=0:=by lia
  rw[if_neg (by lia)];exact aD2 O C T w6 M ha hb G g D
theorem aH1(O:Wk lt)(C:nC prog w A s κ lt a₀)(T:E9 lt a₀ a b){c:MT}(l:kindOf st=κ)(j:J lt a b c.2.1 c.2.2.1 c.2.2.2.1)(d:n<=c.2.1.size+1):
  wpS (model prog w) A E s (lo0 a b mg c) (oW lt a b n st) st:=by
 obtain⟨M,ha,hb,m⟩:=j;have i:=bA O T.sa;have k:=bA O T.sb;unfold lo0;refine aJw (c9 hb ?_);refine aJw (c9 (by lia) ?_);refine aJw (wlt C l (T.mb _ (eK hb)) (T.ma _ (eK (by lia))) ?_);dsimp only
 cases hlt:lt (aS b c.2.2.2.1) (aS a c.2.2.1) with
 | true=>
  rw[if_pos rfl];unfold loB;refine aJw (c9 hb ?_)
  have M2:=M.yF O hb λz hz=>by
   obtain⟨j,e,f,rfl⟩:=dQ hz;exact O.tr _ _ _ (O.r9 _ _ hlt) (i _ _ e f)
  by_cases g:c.2.2.2.1+1=b.size
  ·rw[if_pos (by simpa using g)];exact aJz ⟨bS.refl _,.inl ⟨_,rfl,M2.BC g⟩⟩
  ·rw[if_neg (by simpa using g)]
   have h:J lt a b (c.2.1.push (aS b c.2.2.2.1)) c.2.2.1 (c.2.2.2.1+1):=⟨M2,ha,by lia,by simp;lia⟩
   split
   ·exact aJz ⟨bS.refl _,.inr ⟨rfl,h,by simpa using d⟩⟩
   ·exact aJz ⟨bS.refl _,rfl,.inr ⟨rfl,h,by simpa using d⟩⟩
 | false=>
  rw[if_neg Bool.false_ne_true];unfold loA;refine aJw (c9 (by lia) ?_)
  have M2:=M.yG O (by lia) λz hz=>by
   obtain⟨j,e,f,rfl⟩:=dQ hz;exact O.tr _ _ _ hlt (k _ _ e f)
  by_cases g:c.2.2.1+1+1=a.size
  ·rw[if_pos (by simpa using g)];exact aJz ⟨bS.refl _,.inl ⟨_,rfl,M2.JH T g⟩⟩
  ·rw[if_neg (by simpa using g)]
   have h:J lt a b (c.2.1.push (aS a c.2.2.1)) (c.2.2.1+1) c.2.2.2.1:=⟨M2,by lia,hb,by simp;lia⟩
   split
   ·exact aJz ⟨bS.refl _,.inr ⟨rfl,h,by simpa using d⟩⟩
   ·exact aJz ⟨bS.refl _,rfl,.inr ⟨rfl,h,by simpa using d⟩⟩
theorem FH{a b:aNq}{f:Nat->(Option (aNq)×aNq×Nat×Nat×γ)->StateT SortSt Sem (ForInStep (Option (aNq)×aNq×Nat×Nat×γ))}{c:Option (aNq)×aNq×Nat×Nat×γ}{Q:(Option (aNq)×aNq×Nat×Nat×γ)->SortSt->Prop}(x:(Option (aNq)×aNq×Nat×Nat×γ)->Prop)(n:Nat)
  (B:c.1=none) (j:J lt a b c.2.1 c.2.2.1 c.2.2.2.1) (H:n=c.2.1.size)
  (step:∀i g d,bS st d ->g.1=none->J lt a b g.2.1 g.2.2.1 g.2.2.2.1->n+i<=g.2.1.size->wpS (model prog w) A E s (f i g) (λr k=>oW lt a b (g.2.1.size+1) d r k/\∀l,r= .done l->x l) d)
  (h:∀g d,bS st d ->x g ->After lt a b (n+1) g ->Q g d):wpS (model prog w) A E s (forIn [:a.size+b.size] c f) Q st:=by
 refine aL2 (I:=λi g d =>bS st d /\g.1=none/\J lt a b g.2.1 g.2.2.1 g.2.2.2.1/\n+i<=g.2.1.size) ?_ ?_ ⟨bS.refl _,B,j,by lia⟩
 ·rintro i g d _ hi ⟨p,C,m,t⟩;refine aLd (step i g d p C m t) λr k q=>?_;obtain⟨⟨y,o⟩,D⟩:=q
  cases r with
  | done l=>
   refine h l k (p.trans y) (D l rfl) ?_;rcases o with o | ⟨u,v,F⟩
   ·exact .inl o
   ·exact .inr ⟨u,v,by lia⟩
  | yield l=>
   obtain⟨G,z | ⟨u,v,F⟩⟩:=o
   ·obtain⟨r,e,_⟩:=z;rw[G]at e;cases e
   ·exact⟨p.trans y,u,v,by lia⟩
 ·rintro g d ⟨_,_,m,t⟩;exfalso;have:=m.n;have:=m.ha;have:=m.hb;simp at t
  lia
end
section
variable {prog:Program}{w:World}{A:Around}{E:aNn}{s:Shared}{a₀ a b:aNq}{κ:SortKind}{lt:aNo}
theorem SI(O:Wk lt)(C:nC prog w A s κ lt a₀)(T:E9 lt a₀ a b){c:RP}(t:kindOf st=κ)(j:J lt a b c.2.1 c.2.2.1 c.2.2.2.1):
  wpS (model prog w) A E s (GH a b c) (λr l=>oW lt a b (c.2.1.size+1) st r l/\∀m,r= .done m->∃x,m.1=some x) st:=by
 unfold GH;refine aJw (FH (lt:=lt) (c:=((none,c.snd.fst,c.snd.snd.fst,c.snd.snd.snd.fst,0,0):MT)) (λ_=>True) c.2.1.size rfl j rfl (λi y n p _ j' _=>aLd (aH1 O C T (p.1.trans t) j' (aJq _)) λ_ _ q=>⟨q,λ_ _=>trivial⟩) λd D f _ F=>?_);obtain⟨K,k⟩:=d
 rcases F with ⟨r,h,g⟩ | ⟨h,z,G⟩
 ·dsimp only at h;subst h;exact aJz ⟨⟨f,.inl ⟨r,rfl,g⟩⟩,λm e=>by cases e;exact⟨r,rfl⟩⟩
 ·dsimp only at h z G;subst h;dsimp only;refine aJw (wpS_lift (aKq ⟨rfl,?_⟩));refine aJw (FH (lt:=lt) (c:=((none,k.fst,k.snd.fst,k.snd.snd.fst,c.snd.snd.snd.snd+1,k.snd.snd.snd.fst,k.snd.snd.snd.snd):R8)) (λ_=>True) k.1.size rfl z rfl (λi y n p _ j' _=>aLd (Q:=oW lt a b (y.2.1.size+1) n) ?_ λ_ _ q=>⟨q,λ_ _=>trivial⟩) λe l o _ u=>?_)
  ·split
   ·exact aD3 O C T (p.1.trans (f.1.trans t)) j' (aJq _)
   ·exact aD3 O C T (p.1.trans (f.1.trans t)) j' (aJq _)
  ·obtain⟨L,M⟩:=e
   rcases u with ⟨r,h,g⟩ | ⟨h,B,H⟩
   ·dsimp only at h;subst h;exact aJz ⟨⟨f.trans o,.inl ⟨r,rfl,g⟩⟩,λm e=>by cases e;exact⟨r,rfl⟩⟩
   ·dsimp only at h B H;subst h;dsimp only;refine aJw (tS λI v=>?_);exact aJz ⟨⟨(f.trans o).trans v,rfl,.inr ⟨rfl,B,by dsimp only;lia⟩⟩,λm e=>by cases e⟩
theorem ND(O:Wk lt)(C:nC prog w A s κ lt a₀)(T:E9 lt a₀ a b){Q:Array Keyed->SortSt->Prop}(q:kindOf st=κ)
  (h:∀r f,bS st f ->Good lt (a.toList++b.toList) r.toList->Q r f):wpS (model prog w) A E s (p9 a b) Q st:=by
 rw[DO];have pa:=T.pa;have pb:=T.pb;refine aJw (wpS_lift (aKq ⟨rfl,?_⟩));refine aJw (c9 (by lia) ?_)
 have t:qV lt a b #[] 0 0:=⟨by simp,by simp,by simpa using T.sa,by simpa using T.sb,by simp⟩
 have l:qV lt a b #[aS b 0] 0 1:=by
  have:=t.yF O (by lia) λz hz=>T.first z (by simpa using hz);simpa using this
 by_cases m:1=b.size
 ·rw[if_pos (by simp[m])];exact aJz (h _ _ (bS.refl _) (l.BC m))
 ·rw[if_neg (by simpa using m)];by_cases n:0+1=a.size
  ·rw[if_pos (by simpa using n)];exact aJz (h _ _ (bS.refl _) (l.JH T n))
  ·rw[if_neg (by simpa using n)];refine aJw (wpS_get ?_)
   have j:J lt a b #[aS b 0] 0 1:=⟨l,by lia,by lia,by simp⟩
   refine aJw (FH (lt:=lt) (c:=((none,#[aS b 0],0,1,gallopOf st):RP)) (λc=>∃x,c.1=some x) 1 rfl j rfl (λi B f u _ j' _=>SI O C T (u.1.trans q) j') λd o p v y=>?_);obtain⟨D,F⟩:=d;obtain⟨x,e⟩:=v;dsimp only at e;subst e
   rcases y with ⟨r,k,g⟩ | ⟨k,_⟩
   ·dsimp only at k;cases k;exact aJz (h x o p g)
   ·cases k
end
def qA:Array Keyed->Array Keyed->StateT SortSt Sem (aNq):=sortPriv% PySem.Builtin.mergeHi
def fG(a b out:aNq)(na nb:Nat):aNq:=a.extract 0 na++b.extract 0 nb++out.reverse
def iQ(a b out:aNq)(na nb:Nat):aNq:=b.extract 0 nb++a.extract 0 na++out.reverse
abbrev SD:=Option (aNq)×Nat×Nat×aNq×Nat×Nat×Nat
abbrev MW:=Option (aNq)×Nat×Nat×aNq×Nat×Nat
abbrev RS:=Option (aNq)×Nat×Nat×aNq×Nat
def hi4(a b:aNq)(mg c d:Nat)(out:aNq)(na nb:Nat):StateT SortSt Sem (ForInStep SD):=do
 let y<-elem' a (na-1)
 if (na-1==0)=true then pure (.done (some (fG a b (out.push y) (na-1) nb),na-1,nb,out.push y,mg,c,d))
 else if (decide (c<7) && decide (d<7))=true then pure (.done (none,na-1,nb,out.push y,mg,c,d)) else pure (.yield (none,na-1,nb,out.push y,mg,c,d))
def hi3(a b:aNq)(mg c d:Nat)(out:aNq)(na nb:Nat):StateT SortSt Sem (ForInStep SD):=do
 let x<-elem' a (na-1)
 let r<-eM true x b 0 nb (nb-1)
 match r with
 | some k=>if nb-k > 0 then (if (k==1)=true then pure (.done (some (iQ a b (out++(b.extract k nb).reverse) na k),na,k,out++(b.extract k nb).reverse,mg,c,nb-k)) else
   if (k==0)=true then pure (.done (some (fG a b (out++(b.extract k nb).reverse) na k),na,k,out++(b.extract k nb).reverse,mg,c,nb-k)) else hi4 a b mg c (nb-k) (out++(b.extract k nb).reverse) na k) else hi4 a b mg c (nb-k) out na nb
 | _=>pure (.done (some (fG a b out na nb),na,nb,out,mg,c,d))
def L1(a b:aNq)(mg c d:Nat)(out:aNq)(na nb:Nat):StateT SortSt Sem (ForInStep SD):=do
 let y<-elem' b (nb-1)
 if (nb-1==1)=true then pure (.done (some (iQ a b (out.push y) na (nb-1)),na,nb-1,out.push y,mg,c,d)) else hi3 a b mg c d (out.push y) na (nb-1)
def L3(a b:aNq)(mg d c:Nat)(out:aNq)(na nb:Nat):StateT SortSt Sem (ForInStep SD):=do
 fU mg
 let x<-elem' b (nb-1)
 let r<-eM false x a 0 na (na-1)
 match r with
 | some k=>if na-k > 0 then (if (k==0)=true then pure (.done (some (fG a b (out++(a.extract k na).reverse) k nb),k,nb,out++(a.extract k na).reverse,mg,na-k,c)) else L1 a b mg (na-k) c (out++(a.extract k na).reverse) k nb) else L1 a b mg (na-k) c out na nb
 | _=>pure (.done (some (fG a b out na nb),na,nb,out,mg,d,c))
def hiA(a b:aNq)(mg:Nat)(c:MW):StateT SortSt Sem (ForInStep MW):=do
 let y<-elem' a (c.snd.fst-1)
 if (c.snd.fst-1==0)=true then pure (.done (some (fG a b (c.snd.snd.snd.fst.push y) (c.snd.fst-1) c.snd.snd.fst),c.snd.fst-1,c.snd.snd.fst,c.snd.snd.snd.fst.push y,c.snd.snd.snd.snd.fst+1,0))
 else if c.snd.snd.snd.snd.fst+1>=mg then pure (.done (none,c.snd.fst-1,c.snd.snd.fst,c.snd.snd.snd.fst.push y,c.snd.snd.snd.snd.fst+1,0))
 else pure (.yield (none,c.snd.fst-1,c.snd.snd.fst,c.snd.snd.snd.fst.push y,c.snd.snd.snd.snd.fst+1,0))
def hiB(a b:aNq)(mg:Nat)(c:MW):StateT SortSt Sem (ForInStep MW):=do
 let x<-elem' b (c.snd.snd.fst-1)
 if (c.snd.snd.fst-1==1)=true then pure (.done (some (iQ a b (c.snd.snd.snd.fst.push x) c.snd.fst (c.snd.snd.fst-1)),c.snd.fst,c.snd.snd.fst-1,c.snd.snd.snd.fst.push x,0,c.snd.snd.snd.snd.snd+1))
 else if c.snd.snd.snd.snd.snd+1>=mg then pure (.done (none,c.snd.fst,c.snd.snd.fst-1,c.snd.snd.snd.fst.push x,0,c.snd.snd.snd.snd.snd+1))
 else pure (.yield (none,c.snd.fst,c.snd.snd.fst-1,c.snd.snd.snd.fst.push x,0,c.snd.snd.snd.snd.snd+1))
def XX(a b:aNq)(mg:Nat)(c:MW):StateT SortSt Sem (ForInStep MW):=do
 let y<-elem' b (c.snd.snd.fst-1)
 let x<-elem' a (c.snd.fst-1)
 let r<-lt' y x
 match r with
 | some d=>if d=true then hiA a b mg c else hiB a b mg c
 | _=>pure (.done (some (fG a b c.snd.snd.snd.fst c.snd.fst c.snd.snd.fst),c.snd.fst,c.snd.snd.fst,c.snd.snd.snd.fst,c.snd.snd.snd.snd.fst,c.snd.snd.snd.snd.snd))
def GQ(a b:aNq)(c:RS):StateT SortSt Sem (ForInStep RS):=do
 let d<-forIn [:a.size+b.size] ((none,c.snd.fst,c.snd.snd.fst,c.snd.snd.snd.fst,0,0):MW) λ_ d=>XX a b c.snd.snd.snd.snd d
 match d.fst with
 | some r=>pure (.done (some r,d.snd.fst,d.snd.snd.fst,d.snd.snd.snd.fst,c.snd.snd.snd.snd))
 | none=>do
  liftM (rule "list.sort.gallop")
  let e<-forIn [:a.size+b.size] ((none,d.snd.fst,d.snd.snd.fst,d.snd.snd.snd.fst,c.snd.snd.snd.snd+1,d.snd.snd.snd.snd.fst,d.snd.snd.snd.snd.snd):SD) λ_ e=>
   if e.snd.snd.snd.snd.fst > 1 then L3 a b (e.snd.snd.snd.snd.fst-1) e.snd.snd.snd.snd.snd.fst e.snd.snd.snd.snd.snd.snd e.snd.snd.snd.fst e.snd.fst e.snd.snd.fst else L3 a b e.snd.snd.snd.snd.fst e.snd.snd.snd.snd.snd.fst e.snd.snd.snd.snd.snd.snd e.snd.snd.snd.fst e.snd.fst e.snd.snd.fst
  match e.fst with
  | some r=>pure (.done (some r,e.snd.fst,e.snd.snd.fst,e.snd.snd.snd.fst,e.snd.snd.snd.snd.fst))
  | none=>do
   fU (e.snd.snd.snd.snd.fst+1)
   pure (.yield (none,e.snd.fst,e.snd.snd.fst,e.snd.snd.snd.fst,e.snd.snd.snd.snd.fst+1))
theorem DT(a b:aNq):qA a b=(do
 rule "list.sort.merge-hi"
 let total:=a.size+b.size;let mut na:=a.size-1;let mut nb:=b.size;let mut out:aNq:= #[<-elem' a na]
 if na==0 then return fG a b out na nb
 if nb==1 then return iQ a b out na nb
 let mut minGallop:=gallopOf (<-get)
 for _ in [0:total] do
  let mut acount:=0;let mut bcount:=0
  for _ in [0:total] do
   let some aWins<-lt' (<-elem' b (nb-1)) (<-elem' a (na-1)) | return fG a b out na nb
   if aWins then
    na:=na-1;out:=out.push (<-elem' a na);acount:=acount+1;bcount:=0
    if na==0 then return fG a b out na nb
    if acount>=minGallop then break
   else
    nb:=nb-1;out:=out.push (<-elem' b nb);bcount:=bcount+1;acount:=0
    if nb==1 then return iQ a b out na nb
    if bcount>=minGallop then break
  rule "list.sort.gallop"
  minGallop:=minGallop+1
  for _ in [0:total] do
   if minGallop > 1 then minGallop:=minGallop-1
   fU minGallop
   let some at_<-eM false (<-elem' b (nb-1)) a 0 na (na-1) | return fG a b out na nb
   let k:=na-at_
   acount:=k
   if k > 0 then
    out:=out++(a.extract at_ na).reverse;na:=at_
    if na==0 then return fG a b out na nb
   nb:=nb-1;out:=out.push (<-elem' b nb)
   if nb==1 then return iQ a b out na nb
   let some at_<-eM true (<-elem' a (na-1)) b 0 nb (nb-1) | return fG a b out na nb
   let k:=nb-at_
   bcount:=k
   if k > 0 then
    out:=out++(b.extract at_ nb).reverse;nb:=at_
    if nb==1 then return iQ a b out na nb
    if nb==0 then return fG a b out na nb
   na:=na-1;out:=out.push (<-elem' a na)
   if na==0 then return fG a b out na nb
   if acount<7 && bcount<7 then break
  minGallop:=minGallop+1
  fU minGallop
 unsupported "internal:list.sort.merge-bound"):=rfl
theorem DQ(a b:aNq):qA a b=(do
 liftM (rule "list.sort.merge-hi")
 let y<-elem' a (a.size-1)
 if (a.size-1==0)=true then pure (fG a b #[y] (a.size-1) b.size)
 else if (b.size==1)=true then pure (iQ a b #[y] (a.size-1) b.size)
 else do
  let g<-get
  let c<-forIn [:a.size+b.size] ((none,a.size-1,b.size,#[y],gallopOf g):RS) λ_ c=>GQ a b c
  match c.fst with
  | some r=>pure r
  | none=>unsupported "internal:list.sort.merge-bound"):=by
 rw[DT];refine aKy λu=>?_;refine aKy λy=>?_;refine aMl rfl (λ_=>rfl) (λ_=>?_);refine aMl rfl (λ_=>rfl) (λ_=>?_);refine aKy λg=>?_;have p:∀(f h :Nat->RS->StateT SortSt Sem (ForInStep RS)) (k j :RS->StateT SortSt Sem (aNq)) (i:RS),f=h ->k=j ->(forIn [:a.size+b.size] i f >>=k)=(forIn [:a.size+b.size] i h >>=j):=λf h k j i l m=>by rw[l,m]
 refine p _ _ _ _ _ (funext λx=>funext λc=>?_) ?_
 ·have n:∀(f h :Nat->MW->StateT SortSt Sem (ForInStep MW)) (k j :MW->StateT SortSt Sem (ForInStep RS)) (i:MW),f=h ->k=j ->(forIn [:a.size+b.size] i f >>=k)=(forIn [:a.size+b.size] i h >>=j):=λf h k j i l m=>by rw[l,m]
  refine n _ _ _ _ _ (funext λx=>funext λd=>?_) (funext λd=>?_)
  ·rfl
  ·obtain⟨q,w⟩:=d
   cases q with
   | some r=>rfl
   | none=>
    refine aKy λv=>?_;have o:∀(f h :Nat->SD->StateT SortSt Sem (ForInStep SD)) (k j :SD->StateT SortSt Sem (ForInStep RS)) (i:SD),f=h ->k=j ->(forIn [:a.size+b.size] i f >>=k)=(forIn [:a.size+b.size] i h >>=j):=λf h k j i l m=>by rw[l,m]
    refine o _ _ _ _ _ (funext λx=>funext λe=>?_) (funext λe=>?_)
    ·refine aMl rfl (λ_=>?_) (λ_=>?_)
     ·rfl
     ·rfl
    ·obtain⟨s,z⟩:=e;cases s <;> rfl
 ·funext c;obtain⟨t,A⟩:=c;cases t <;> rfl
structure Mh(lt:aNo)(all p q o:List Keyed):Prop where
 perm:(p++(q++o)).Perm all
 so:o.Pairwise λx y=>lt y x=false
 sp:p.Pairwise λx y=>lt y x=false
 sq:q.Pairwise λx y=>lt y x=false
 high:∀x∈p++q,∀y∈o,lt y x=false
theorem Mh.left{lt:aNo}{all u p q o:List Keyed}(M:Mh lt all (p++u) q o)(h:∀x∈q,∀y∈u,lt y x=false):Mh lt all p q (u++o):=by
 have sp:=aKb.mp M.sp;refine⟨?_,aKb.mpr ⟨sp.2.1,M.so,λx hx y hy=>M.high x (by simp[hx]) y hy⟩,sp.1,M.sq,λx hx y hy=>?_⟩
 ·refine List.Perm.trans ?_ M.perm;rw[List.append_assoc];refine aLg p ?_;rw[<-List.append_assoc,<-List.append_assoc];exact aLu o aL5
 ·rcases aJx.mp hy with hy | hy
  ·rcases aJx.mp hx with z | z
   ·exact sp.2.2 x z y hy
   ·exact h x z y hy
  ·exact M.high x (by rcases aJx.mp hx with z | z <;> simp[z]) y hy
theorem Mh.right{lt:aNo}{all u p q o:List Keyed}(M:Mh lt all p (q++u) o)(h:∀x∈p,∀y∈u,lt y x=false):Mh lt all p q (u++o):=by
 have sq:=aKb.mp M.sq;refine⟨?_,aKb.mpr ⟨sq.2.1,M.so,λx hx y hy=>M.high x (by simp[hx]) y hy⟩,M.sp,sq.1,λx hx y hy=>?_⟩
 ·have:=M.perm;simpa[List.append_assoc] using this
 ·rcases aJx.mp hy with hy | hy
  ·rcases aJx.mp hx with z | z
   ·exact h x z y hy
   ·exact sq.2.2 x z y hy
  ·exact M.high x (by rcases aJx.mp hx with z | z <;> simp[z]) y hy
theorem Mh.fin{lt:aNo}{all p q o:List Keyed}(M:Mh lt all p q o)(h:p=[]\/q=[]):Good lt all (p++q++o):=by
 refine⟨by rw[List.append_assoc];exact M.perm,aKb.mpr ⟨?_,M.so,M.high⟩⟩;rcases h with rfl | rfl
 ·simpa using M.sq
 ·simpa using M.sp
theorem Mh.aJ3{lt:aNo}{all p o:List Keyed}(M:Mh lt all p [x] o)(h:∀y∈p,lt y x=false):Good lt all ([x]++p++o):=by
 refine⟨?_,aKb.mpr ⟨?_,M.so,λa ha b hb=>M.high a ?_ b hb⟩⟩
 ·refine List.Perm.trans ?_ M.perm;rw[<-List.append_assoc];exact aLu o aL5
 ·exact aKb.mpr ⟨by simp,M.sp,λu c v d=>by rw[List.mem_singleton.mp c];exact h v d⟩
 ·rcases aJx.mp ha with z | z <;> simp[z] <;> simp_all
theorem uO(h0:1<=i)(h:i<=a.size):a.toList.take i=a.toList.take (i-1)++[aS a (i-1)]:=by
 have b:i-1<a.toList.length:=by simp;lia
 have e:aS a (i-1)=a.toList[i-1]:=by
  have:=hJ (xs:=a) (i:=i-1) (by lia);rw[getElem?_pos a (i-1) (by lia)]at this;have:=aK5 this;rw[<-this];simp
 rw[e];have:=List.take_append_getElem (l:=a.toList) (i:=i-1) b;rw[this];congr 1;lia
theorem c6(h:x∈a.toList.take i):∃j,j<i/\j<a.size/\x=aS a j:=by
 have:=kZ (i:=0) (k:=i) (a:=a) (by simpa using h);obtain⟨j,b,d,c⟩:=this;exact⟨j,b,by lia,by rw[c];congr 1;lia⟩
theorem BB{i k:Nat}:(a.extract i k).toList=(a.toList.take k).drop i:=by
 rw[Array.toList_extract,List.extract_eq_take_drop,List.take_drop];by_cases h:i<=k
 ·congr 2;lia
 ·rw[List.drop_of_length_le (by simp;lia),List.drop_of_length_le (by simp;lia)]
theorem mem_mid{i k:Nat}(h:x∈(a.toList.take k).drop i):∃j,i<=j/\j<k/\j<a.size/\x=aS a j:=by
 obtain⟨n,b,e⟩:=aMa h;simp only[List.length_take,List.length_drop,Array.length_toList]at b;refine⟨i+n,by lia,by lia,by lia,?_⟩
 have c:aS a (i+n)=a.toList[i+n]'(by simp;lia):=by
  have:=hJ (xs:=a) (i:=i+n) (by lia);rw[getElem?_pos a (i+n) (by lia)]at this;have:=aK5 this;rw[<-this];simp
 rw[c,<-e];simp
theorem G2(a b out:aNq)(na nb:Nat):(fG a b out na nb).toList=a.toList.take na++b.toList.take nb++out.toList.reverse:=by
 unfold fG;simp[Array.toList_append,Array.toList_extract,List.extract_eq_take_drop]
theorem EH(a b out:aNq)(na nb:Nat):(iQ a b out na nb).toList=b.toList.take nb++a.toList.take na++out.toList.reverse:=by
 unfold iQ;simp[Array.toList_append,Array.toList_extract,List.extract_eq_take_drop]
section
variable {prog:Program}{w:World}{A:Around}{E:aNn}{s:Shared}{a₀ a b:aNq}{κ:SortKind}{lt:aNo}
abbrev uB(lt:aNo)(a b out:aNq)(na nb:Nat):Prop:=Mh lt (a.toList++b.toList) (a.toList.take na) (b.toList.take nb) out.toList.reverse
variable{na nb:Nat}
theorem uB.yG{out:aNq}(M:uB lt a b out na nb)(h0:1<=na)(c:na<=a.size)(h:∀z∈b.toList.take nb,lt (aS a (na-1)) z=false):uB lt a b (out.push (aS a (na-1))) (na-1) nb:=by
 unfold uB at*;rw[uO h0 c]at M;have:=Mh.left (u:=[aS a (na-1)]) M (by simpa using h);simpa using this
theorem uB.yF{out:aNq}(M:uB lt a b out na nb)(h0:1<=nb)(c:nb<=b.size)(h:∀z∈a.toList.take na,lt (aS b (nb-1)) z=false):uB lt a b (out.push (aS b (nb-1))) na (nb-1):=by
 unfold uB at*;rw[uO h0 c]at M;have:=Mh.right (u:=[aS b (nb-1)]) M (by simpa using h);simpa using this
theorem uB.PK{out:aNq}{na nb k:Nat}(M:uB lt a b out na nb)(c:k<=na)(h:∀x∈b.toList.take nb,∀y∈(a.toList.take na).drop k,lt y x=false):uB lt a b (out++(a.extract k na).reverse) k nb:=by
 unfold uB at*
 have e:a.toList.take na=a.toList.take k++(a.toList.take na).drop k:=by
  have:=(aLf k (a.toList.take na)).symm
  rwa [List.take_take,aNl c]at this
 rw[e]at M;have:=Mh.left M h;simp only[Array.toList_append,Array.toList_reverse,List.reverse_append,List.reverse_reverse,BB];exact this
theorem uB.PJ{out:aNq}{na nb k:Nat}(M:uB lt a b out na nb)(c:k<=nb)(h:∀x∈a.toList.take na,∀y∈(b.toList.take nb).drop k,lt y x=false):uB lt a b (out++(b.extract k nb).reverse) na k:=by
 unfold uB at*
 have e:b.toList.take nb=b.toList.take k++(b.toList.take nb).drop k:=by
  have:=(aLf k (b.toList.take nb)).symm
  rwa [List.take_take,aNl c]at this
 rw[e]at M;have:=Mh.right M h;simp only[Array.toList_append,Array.toList_reverse,List.reverse_append,List.reverse_reverse,BB];exact this
theorem uB.G3{out:aNq}(M:uB lt a b out na nb)(h:na=0\/nb=0):Good lt (a.toList++b.toList) (fG a b out na nb).toList:=by
 rw[G2];exact Mh.fin M (h.imp (λe=>by simp[e]) λe=>by simp[e])
theorem uB.BC(T:E9 lt a₀ a b){out:aNq}(M:uB lt a b out na nb)(h:nb=1):Good lt (a.toList++b.toList) (iQ a b out na nb).toList:=by
 rw[EH];have pb:=T.pb
 have e:b.toList.take nb=[aS b 0]:=by
  rw[h,uO (by lia) (by lia)];simp
 unfold uB at M;rw[e]at M⊢;exact Mh.aJ3 M λy c=>T.first y (aKp c)
structure Jh(lt:aNo)(a b out:aNq)(na nb:Nat):Prop where
 m:uB lt a b out na nb
 ha:1<=na
 hb:2<=nb
 la:na<=a.size
 lb:nb<=b.size
 n:out.size+na+nb=a.size+b.size
variable{γ:Type}
def HQ(lt:aNo)(a b:aNq)(n:Nat)(c:Option (aNq)×Nat×Nat×aNq×γ):Prop:=
 (∃r,c.1=some r/\Good lt (a.toList++b.toList) r.toList)\/(c.1=none/\Jh lt a b c.2.2.2.1 c.2.1 c.2.2.1/\n<=c.2.2.2.1.size)
def oX(lt:aNo)(a b:aNq)(n:Nat)(st:SortSt)(r:ForInStep (Option (aNq)×Nat×Nat×aNq×γ))(d :SortSt):Prop:=
 bS st d /\match r with | .done c=>HQ lt a b n c | .yield c=>c.1=none/\HQ lt a b n c
variable{mg ac bc n:Nat}
theorem aD4(T:E9 lt a₀ a b){out:aNq}(j:Jh lt a b out na nb)(d:n<=out.size+1)(h:∀z∈b.toList.take nb,lt (aS a (na-1)) z=false):
  wpS (model prog w) A E s (hi4 a b mg ac bc out na nb) (oX lt a b n st) st:=by
 obtain⟨M,ha,hb,la,lb,f⟩:=j;unfold hi4;refine aJw (c9 (by lia) ?_);have M2:=M.yG ha la h;by_cases c:na-1=0
 ·rw[if_pos (by simp[c])];exact aJz ⟨bS.refl _,.inl ⟨_,rfl,M2.G3 (.inl c)⟩⟩
 ·rw[if_neg (by simpa using c)]
  have e:Jh lt a b (out.push (aS a (na-1))) (na-1) nb:=⟨M2,by lia,hb,by lia,lb,by simp;lia⟩
  split
  ·exact aJz ⟨bS.refl _,.inr ⟨rfl,e,by simpa using d⟩⟩
  ·exact aJz ⟨bS.refl _,rfl,.inr ⟨rfl,e,by simpa using d⟩⟩
theorem aH2(O:Wk lt)(C:nC prog w A s κ lt a₀)(T:E9 lt a₀ a b){out:aNq}(D:kindOf st=κ)(j:Jh lt a b out na nb)(g:n<=out.size+1):
  wpS (model prog w) A E s (hi3 a b mg ac bc out na nb) (oX lt a b n st) st:=by
 have F:=j;obtain⟨M,ha,hb,la,lb,I⟩:=j;unfold hi3;have h:=bA O T.sa;have l:=bA O T.sb;refine aJw (c9 (by lia) ?_);refine aJw (nD O C D (by lia) (by lia) (λp q v m J=>l p q m (by lia)) (λi hi=>T.mb _ (eK (by lia))) (T.ma _ (eK (by lia))) λk w6 v m=>?_)
 have o:∀z∈a.toList.take na,lt (aS a (na-1)) z=false:=λz hz=>by
  obtain⟨j,d,f,rfl⟩:=c6 hz;exact h _ _ (by lia) (by lia)
 have G:∀x∈a.toList.take na,∀y∈(b.toList.take nb).drop k,lt y x=false:=λx hx y H=>by
  obtain⟨j,r,d,f,rfl⟩:=mem_mid H;have e:=m j r d;simp only[lB,if_true,Nat.zero_add]at e;exact O.tr _ _ _ (o x hx) e
 have B:∀z∈b.toList.take k,lt (aS a (na-1)) z=false:=λz hz=>by
  obtain⟨j,d,f,rfl⟩:=c6 hz;have e:=v j d;simp only[lB,if_true,Nat.zero_add]at e;exact O.r9 _ _ e
 dsimp only;by_cases c:nb-k > 0
 ·rw[if_pos c];have M2:=M.PJ (k:=k) (by lia) G;have sz:(b.extract k nb).reverse.size=nb-k:=by rw[Array.size_reverse,Array.size_extract];lia
  by_cases t:k=1
  ·rw[if_pos (by simpa using t)];exact aJz ⟨bS.refl _,.inl ⟨_,rfl,M2.BC T t⟩⟩
  ·rw[if_neg (by simpa using t)];by_cases u:k=0
   ·rw[if_pos (by simpa using u)];exact aJz ⟨bS.refl _,.inl ⟨_,rfl,M2.G3 (.inr u)⟩⟩
   ·rw[if_neg (by simpa using u)];exact aD4 T ⟨M2,ha,by lia,la,by lia,by rw[Array.size_append,sz];lia⟩ (by rw[Array.size_append,sz];lia) B
 ·obtain rfl:k=nb:=by lia
  rw[if_neg c];exact aD4 T F g B
theorem aD5(O:Wk lt)(C:nC prog w A s κ lt a₀)(T:E9 lt a₀ a b){out:aNq}(d:kindOf st=κ)(j:Jh lt a b out na nb)(e:n<=out.size+1)(h:∀z∈a.toList.take na,lt (aS b (nb-1)) z=false):
  wpS (model prog w) A E s (L1 a b mg ac bc out na nb) (oX lt a b n st) st:=by
 obtain⟨M,ha,hb,la,lb,f⟩:=j;unfold L1;refine aJw (c9 (by lia) ?_);have M2:=M.yF (by lia) lb h;by_cases c:nb-1=1
 ·rw[if_pos (by simpa using c)];exact aJz ⟨bS.refl _,.inl ⟨_,rfl,M2.BC T c⟩⟩
 ·rw[if_neg (by simpa using c)];exact aH2 O C T d ⟨M2,ha,by lia,la,by lia,by simp;lia⟩ (by simp;lia)
theorem FQ{st c d:SortSt}{r:ForInStep (Option (aNq)×Nat×Nat×aNq×γ)}(h:bS st c)(q:oX lt a b n c r d):oX lt a b n st r d:=⟨h.trans q.1,q.2⟩
theorem aD6(O:Wk lt)(C:nC prog w A s κ lt a₀)(T:E9 lt a₀ a b){out:aNq}(F:kindOf st=κ)(j:Jh lt a b out na nb)(g:n<=out.size+1):
  wpS (model prog w) A E s (L3 a b mg ac bc out na nb) (oX lt a b n st) st:=by
 have G:=j;obtain⟨M,ha,hb,la,lb,L⟩:=j;unfold L3;have h:=bA O T.sa;have l:=bA O T.sb;refine aJw (tS λm same=>?_);refine aLd ?_ λr H q=>FQ same q;have w6:kindOf m=κ:=same.1.trans F;refine aJw (c9 (by lia) ?_);refine aJw (nD O C w6 (by lia) (by lia) (λp q B o N=>h p q o (by lia)) (λi hi=>T.ma _ (eK (by lia))) (T.mb _ (eK (by lia))) λk I B o=>?_)
 have t:∀z∈b.toList.take nb,lt (aS b (nb-1)) z=false:=λz hz=>by
  obtain⟨j,d,f,rfl⟩:=c6 hz;exact l _ _ (by lia) (by lia)
 have J:∀x∈b.toList.take nb,∀y∈(a.toList.take na).drop k,lt y x=false:=λx hx y K=>by
  obtain⟨j,u,d,f,rfl⟩:=mem_mid K;have e:=o j u d;simp only[lB,Bool.false_eq_true,if_false,Bool.not_eq_false',Nat.zero_add]at e;exact O.tr _ _ _ (t x hx) (O.r9 _ _ e)
 have D:∀z∈a.toList.take k,lt (aS b (nb-1)) z=false:=λz hz=>by
  obtain⟨j,d,f,rfl⟩:=c6 hz;have e:=B j d;simp only[lB,Bool.false_eq_true,if_false,Bool.not_eq_true',Nat.zero_add]at e;exact e
 dsimp only;by_cases c:na-k > 0
 ·rw[if_pos c];have M2:=M.PK (k:=k) (by lia) J;have sz:(a.extract k na).reverse.size=na-k:=by rw[Array.size_reverse,Array.size_extract];lia
  by_cases v:k=0
  ·rw[if_pos (by simpa using v)];exact aJz ⟨bS.refl _,.inl ⟨_,rfl,M2.G3 (.inl v)⟩⟩
  ·rw[if_neg (by simpa using v)];exact aD5 O C T w6 ⟨M2,by lia,hb,by lia,lb,by rw[Array.size_append,sz];lia⟩ (by rw[Array.size_append,sz];lia) D
 ·obtain rfl:k=na:=by lia
  rw[if_neg c];exact aD5 O C T w6 G g D
theorem aH3(O:Wk lt)(C:nC prog w A s κ lt a₀)(T:E9 lt a₀ a b){c:MW}(l:kindOf st=κ)(j:Jh lt a b c.2.2.2.1 c.2.1 c.2.2.1)(d:n<=c.2.2.2.1.size+1):
  wpS (model prog w) A E s (XX a b mg c) (oX lt a b n st) st:=by
 obtain⟨M,ha,hb,la,lb,m⟩:=j;have g:=bA O T.sa;have h:=bA O T.sb;unfold XX;refine aJw (c9 (by lia) ?_);refine aJw (c9 (by lia) ?_);refine aJw (wlt C l (T.mb _ (eK (by lia))) (T.ma _ (eK (by lia))) ?_);dsimp only
 cases hlt:lt (aS b (c.2.2.1-1)) (aS a (c.2.1-1)) with
 | true=>
  rw[if_pos rfl];unfold hiA;refine aJw (c9 (by lia) ?_)
  have M2:=M.yG ha la λz hz=>by
   obtain⟨j,i,k,rfl⟩:=c6 hz;exact O.tr _ _ _ (h _ _ (by lia) (by lia)) (O.r9 _ _ hlt)
  by_cases e:c.2.1-1=0
  ·rw[if_pos (by simpa using e)];exact aJz ⟨bS.refl _,.inl ⟨_,rfl,M2.G3 (.inl e)⟩⟩
  ·rw[if_neg (by simpa using e)]
   have f:Jh lt a b (c.2.2.2.1.push (aS a (c.2.1-1))) (c.2.1-1) c.2.2.1:=⟨M2,by lia,hb,by lia,lb,by simp;lia⟩
   split
   ·exact aJz ⟨bS.refl _,.inr ⟨rfl,f,by simpa using d⟩⟩
   ·exact aJz ⟨bS.refl _,rfl,.inr ⟨rfl,f,by simpa using d⟩⟩
 | false=>
  rw[if_neg Bool.false_ne_true];unfold hiB;refine aJw (c9 (by lia) ?_)
  have M2:=M.yF (by lia) lb λz hz=>by
   obtain⟨j,i,k,rfl⟩:=c6 hz;exact O.tr _ _ _ (g _ _ (by lia) (by lia)) hlt
  by_cases e:c.2.2.1-1=1
  ·rw[if_pos (by simpa using e)];exact aJz ⟨bS.refl _,.inl ⟨_,rfl,M2.BC T e⟩⟩
  ·rw[if_neg (by simpa using e)]
   have f:Jh lt a b (c.2.2.2.1.push (aS b (c.2.2.1-1))) c.2.1 (c.2.2.1-1):=⟨M2,ha,by lia,la,by lia,by simp;lia⟩
   split
   ·exact aJz ⟨bS.refl _,.inr ⟨rfl,f,by simpa using d⟩⟩
   ·exact aJz ⟨bS.refl _,rfl,.inr ⟨rfl,f,by simpa using d⟩⟩
theorem zL{f:Nat->(Option (aNq)×Nat×Nat×aNq×γ)->StateT SortSt Sem (ForInStep (Option (aNq)×Nat×Nat×aNq×γ))}{c:Option (aNq)×Nat×Nat×aNq×γ}{Q:(Option (aNq)×Nat×Nat×aNq×γ)->SortSt->Prop}(x:(Option (aNq)×Nat×Nat×aNq×γ)->Prop)(n:Nat)
  (B:c.1=none) (j:Jh lt a b c.2.2.2.1 c.2.1 c.2.2.1) (H:n=c.2.2.2.1.size)
  (step:∀i g d,bS st d ->g.1=none->Jh lt a b g.2.2.2.1 g.2.1 g.2.2.1->n+i<=g.2.2.2.1.size->wpS (model prog w) A E s (f i g) (λr k=>oX lt a b (g.2.2.2.1.size+1) d r k/\∀l,r= .done l->x l) d)
  (h:∀g d,bS st d ->x g ->HQ lt a b (n+1) g ->Q g d):wpS (model prog w) A E s (forIn [:a.size+b.size] c f) Q st:=by
 refine aL2 (I:=λi g d =>bS st d /\g.1=none/\Jh lt a b g.2.2.2.1 g.2.1 g.2.2.1/\n+i<=g.2.2.2.1.size) ?_ ?_ ⟨bS.refl _,B,j,by lia⟩
 ·rintro i g d _ hi ⟨p,C,m,t⟩;refine aLd (step i g d p C m t) λr k q=>?_;obtain⟨⟨y,o⟩,D⟩:=q
  cases r with
  | done l=>
   refine h l k (p.trans y) (D l rfl) ?_;rcases o with o | ⟨u,v,F⟩
   ·exact .inl o
   ·exact .inr ⟨u,v,by lia⟩
  | yield l=>
   obtain⟨G,z | ⟨u,v,F⟩⟩:=o
   ·obtain⟨r,e,_⟩:=z;rw[G]at e;cases e
   ·exact⟨p.trans y,u,v,by lia⟩
 ·rintro g d ⟨_,_,m,t⟩;exfalso;have:=m.n;have:=m.ha;have:=m.hb;simp at t
  lia
theorem SJ(O:Wk lt)(C:nC prog w A s κ lt a₀)(T:E9 lt a₀ a b){c:RS}(t:kindOf st=κ)(j:Jh lt a b c.2.2.2.1 c.2.1 c.2.2.1):
  wpS (model prog w) A E s (GQ a b c) (λr l=>oX lt a b (c.2.2.2.1.size+1) st r l/\∀m,r= .done m->∃x,m.1=some x) st:=by
 unfold GQ;refine aJw (zL (lt:=lt) (c:=((none,c.snd.fst,c.snd.snd.fst,c.snd.snd.snd.fst,0,0):MW)) (λ_=>True) c.2.2.2.1.size rfl j rfl (λi y n p _ j' _=>aLd (aH3 O C T (p.1.trans t) j' (aJq _)) λ_ _ q=>⟨q,λ_ _=>trivial⟩) λd D f _ F=>?_);obtain⟨J,k⟩:=d
 rcases F with ⟨r,h,g⟩ | ⟨h,z,G⟩
 ·dsimp only at h;subst h;exact aJz ⟨⟨f,.inl ⟨r,rfl,g⟩⟩,λm e=>by cases e;exact⟨r,rfl⟩⟩
 ·dsimp only at h z G;subst h;dsimp only;refine aJw (wpS_lift (aKq ⟨rfl,?_⟩));refine aJw (zL (lt:=lt) (c:=((none,k.fst,k.snd.fst,k.snd.snd.fst,c.snd.snd.snd.snd+1,k.snd.snd.snd.fst,k.snd.snd.snd.snd):SD)) (λ_=>True) k.2.2.1.size rfl z rfl (λi y n p _ j' _=>aLd (Q:=oX lt a b (y.2.2.2.1.size+1) n) ?_ λ_ _ q=>⟨q,λ_ _=>trivial⟩) λe l o _ u=>?_)
  ·split
   ·exact aD6 O C T (p.1.trans (f.1.trans t)) j' (aJq _)
   ·exact aD6 O C T (p.1.trans (f.1.trans t)) j' (aJq _)
  ·obtain⟨K,L⟩:=e
   rcases u with ⟨r,h,g⟩ | ⟨h,B,H⟩
   ·dsimp only at h;subst h;exact aJz ⟨⟨f.trans o,.inl ⟨r,rfl,g⟩⟩,λm e=>by cases e;exact⟨r,rfl⟩⟩
   ·dsimp only at h B H;subst h;dsimp only;refine aJw (tS λI v=>?_);exact aJz ⟨⟨(f.trans o).trans v,rfl,.inr ⟨rfl,B,by dsimp only;lia⟩⟩,λm e=>by cases e⟩
theorem NF(O:Wk lt)(C:nC prog w A s κ lt a₀)(T:E9 lt a₀ a b){Q:Array Keyed->SortSt->Prop}(u:kindOf st=κ)
  (h:∀r f,bS st f ->Good lt (a.toList++b.toList) r.toList->Q r f):wpS (model prog w) A E s (qA a b) Q st:=by
 rw[DQ];have pa:=T.pa;have pb:=T.pb;refine aJw (wpS_lift (aKq ⟨rfl,?_⟩));refine aJw (c9 (by lia) ?_)
 have v:uB lt a b #[] a.size b.size:=by
  have q:a.toList.take a.size=a.toList:=List.take_of_length_le (by simp);have t:b.toList.take b.size=b.toList:=List.take_of_length_le (by simp);refine⟨by simp[q,t],by simp,by rw[q];exact T.sa,by rw[t];exact T.sb,by simp⟩
 have l:uB lt a b #[aS a (a.size-1)] (a.size-1) b.size:=by
  have:=v.yG pa (aJq _) λz hz=>T.last z (aKp hz);simpa using this
 by_cases m:a.size-1=0
 ·rw[if_pos (by simp[m])];exact aJz (h _ _ (bS.refl _) (l.G3 (.inl m)))
 ·rw[if_neg (by simpa using m)];by_cases n:b.size=1
  ·rw[if_pos (by simpa using n)];exact aJz (h _ _ (bS.refl _) (l.BC T n))
  ·rw[if_neg (by simpa using n)];refine aJw (wpS_get ?_)
   have j:Jh lt a b #[aS a (a.size-1)] (a.size-1) b.size:=⟨l,by lia,by lia,by lia,aJq _,by simp;lia⟩
   refine aJw (zL (lt:=lt) (c:=((none,a.size-1,b.size,#[aS a (a.size-1)],gallopOf st):RS)) (λc=>∃x,c.1=some x) 1 rfl j rfl (λi F f y _ j' _=>SJ O C T (y.1.trans u) j') λd o p B D=>?_);obtain⟨G,H⟩:=d;obtain⟨x,e⟩:=B;dsimp only at e;subst e
   rcases D with ⟨r,k,g⟩ | ⟨k,_⟩
   ·dsimp only at k;cases k;exact aJz (h x o p g)
   ·cases k
end
theorem mW(h:i<a.size):aS a i=a.toList[i]'(by simpa using h):=by
 have:=hJ (xs:=a) (i:=i) h;rw[getElem?_pos a i h]at this;have:=aK5 this;rw[<-this];simp
def part(a:aNq)(i j:Nat):List Keyed:=(a.toList.take j).drop i
theorem mS(h:x∈part a i j):∃k,i<=k/\k<j/\k<a.size/\x=aS a k:=mem_mid h
theorem iM(h:j<=a.size):(part a i j).length=j-i:=by simp[part];lia
theorem F2{i m j:Nat}(b:i<=m)(c:m<=j):part a i j=part a i m++part a m j:=by
 unfold part;have e:(a.toList.take j).drop i=((a.toList.take j).drop i).take (m-i)++((a.toList.take j).drop i).drop (m-i):=(aLf _ _).symm;rw[e,List.drop_drop,show i+(m-i)=m by lia];congr 1;rw[<-List.drop_take,List.take_take];congr 2;lia
theorem uV{lt:aNo}(O:Wk lt)(b:j<=a.size):Seg lt a i j↔(part a i j).Pairwise λx y=>lt y x=false:=by
 constructor
 ·intro h;rw[List.pairwise_iff_getElem];intro p q d f g;rw[iM b]at d f
  have e:∀k (c:k<j-i),(part a i j)[k]'(by rw[iM b];exact c)=aS a (i+k):=λk c=>by
   rw[mW (by lia)];simp[part]
  rw[e p d,e q f];exact h _ _ (by lia) (by lia) (by lia)
 ·intro h p q d g f;by_cases l:p=q
  ·subst l;exact O.LY _
  ·rw[List.pairwise_iff_getElem]at h;have:=h (p-i) (q-i) (by rw[iM b];lia) (by rw[iM b];lia) (by lia)
   have e:∀k (c:k<j-i),(part a i j)[k]'(by rw[iM b];exact c)=aS a (i+k):=λk c=>by
    rw[mW (by lia)];simp[part]
   rw[e _ (by lia),e _ (by lia),show i+(p-i)=p by lia,show i+(q-i)=q by lia]at this;exact this
theorem B9(b:i<=j)(c:j<=a.size):a.toList=a.toList.take i++(part a i j++a.toList.drop j):=by
 unfold part;rw[<-List.append_assoc]
 have:a.toList.take i++(a.toList.take j).drop i=a.toList.take j:=by
  have:=aLf i (a.toList.take j)
  rwa [List.take_take,aNl b]at this
 rw[this,List.take_append_drop]
theorem C8(s:Nat):∀(r:List Keyed) (n:Nat) (a:aNq),s+n+r.length<=a.size->
  ((r.zipIdx n).foldl (λa (x:Keyed×Nat)=>a.setIfInBounds (s+x.2) x.1) a).toList=a.toList.take (s+n)++r++a.toList.drop (s+n+r.length)
 | [],n,a,h=>by simp
 | p::t,n,a,h=>by
  simp only[List.length_cons]at h;rw[List.zipIdx_cons,List.foldl_cons,C8 s t (n+1) _ (by simp;lia)];have b:(a.setIfInBounds (s+n) p).toList=a.toList.set (s+n) p:=by simp
  simp only[b]
  have c:(a.toList.set (s+n) p).take (s+(n+1))=a.toList.take (s+n)++[p]:=by
   rw[show s+(n+1)=s+n+1 by lia,List.take_add_one,List.take_set_of_le (Nat.le_refl _),List.getElem?_set_self (by simp;lia)];simp
  have d:(a.toList.set (s+n) p).drop (s+(n+1)+t.length)=a.toList.drop (s+n+(p::t).length):=by
   rw[List.drop_set_of_lt (by lia)];congr 1;simp;lia
  rw[c,d];simp
theorem vP{a b:aNq}(h:a.toList[i]? =b.toList[j]?):aS a i=aS b j:=LQ (by simpa using h)
theorem DU(i:Nat):mergeAt' i=(do
 let s<-get
 match ((pendingOf s)[i]?,(pendingOf s)[i+1]?) with
 | (some (sa,na,power),some (sb,nb,_))=>do
  set (setPending s (((pendingOf s).setIfInBounds i (sa,na+nb,power)).eraseIdxIfInBounds (i+1)))
  let x<-elem' (arrOf s) sb
  let r<-eM false x (arrOf s) sa na 0
  match r with
  | some k=>
   if (na-k==0)=true then pure true else do
    let y<-elem' (arrOf s) (sa+k+(na-k)-1)
    let r<-eM true y (arrOf s) sb nb (nb-1)
    match r with
    | some m=>
     if (m==0)=true then pure true else do
      let merged<-if na-k<=m then p9 ((arrOf s).extract (sa+k) sb) ((arrOf s).extract sb (sb+m)) else qA ((arrOf s).extract (sa+k) sb) ((arrOf s).extract sb (sb+m))
      modify λs=>setArr s (merged.toList.zipIdx.foldl (λa (x:Keyed×Nat)=>a.setIfInBounds (sa+k+x.2) x.1) (arrOf s))
      let s<-get
      pure (failedOf s).isNone
    | _=>pure false
  | _=>pure false
 | _=>unsupported "internal:list.sort.pending"):=by
 rfl
section
variable {prog:Program}{w:World}{A:Around}{E:aNn}{s:Shared}{a₀:aNq}{κ:SortKind}{lt:aNo}
theorem NB{σ:Type}{M:Model}{A:Around}{E:aNn}{s:Shared}{x:σ}{Q:PUnit->σ->Prop}{st:σ}(h:Q ⟨⟩ x):wpS M A E s (set x:StateT σ Sem PUnit) Q st:=aMw (f:=λ_=>x) h
theorem eJ{i k:Nat}:(a.extract i k).toList=part a i k:=BB
theorem J2{i k j:Nat}(h:k<=a.size)(b:i+j<k):aS (a.extract i k) j=aS a (i+j):=by
 have hs:j<(a.extract i k).size:=by rw[Array.size_extract];lia
 rw[mW hs,mW (by lia)];simp
theorem TN{r:List Keyed}{s:Nat}(h:s+r.length<=a.size):∀b:aNq,b.toList=a.toList.take s++r++a.toList.drop (s+r.length)->∀j,(j<s\/s+r.length<=j)->aS b j=aS a j:=by
 intro b e j hj;refine vP ?_;rw[e];have c:(a.toList.take s).length=s:=by simp;lia
 rcases hj with hj | hj
 ·rw[List.append_assoc,List.getElem?_append_left (by lia),List.getElem?_take_of_lt hj]
 ·rw[List.getElem?_append_right (by simp;lia),List.getElem?_drop];congr 1;simp;lia
theorem NG(O:Wk lt)(C:nC prog w A s κ lt a₀){i sa na pw nb pw2:Nat}{Q:Bool->SortSt->Prop}(hi:(pendingOf st)[i]? =some (sa,na,pw))(X:(pendingOf st)[i+1]? =some (sa+na,nb,pw2))
  (o:1<=na) (l:1<=nb) (hz:sa+na+nb<=a₀.size) (Y:Base κ a₀ st) (I:Seg lt (arrOf st) sa (sa+na)) (J:Seg lt (arrOf st) (sa+na) (sa+na+nb))
  (h:∀v,Base κ a₀ v ->Seg lt (arrOf v) sa (sa+na+nb)->(∀k,(k<sa\/sa+na+nb<=k)->aS (arrOf v) k=aS (arrOf st) k)->
   pendingOf v =((pendingOf st).setIfInBounds i (sa,na+nb,pw)).eraseIdxIfInBounds (i+1)->Q true v):wpS (model prog w) A E s (mergeAt' i) Q st:=by
 rw[DU];refine aJw (wpS_get ?_);rw[hi,X];dsimp only;refine aJw (NB ?_);have t:=Y.size;generalize F:setPending st (((pendingOf st).setIfInBounds i (sa,na+nb,pw)).eraseIdxIfInBounds (i+1))=st1;have K:Base κ a₀ st1:=by rw[<-F];exact⟨Y.perm,Y.kind,Y.cR⟩
 have z:arrOf st1=arrOf st:=by rw[<-F]
 have U:pendingOf st1=((pendingOf st).setIfInBounds i (sa,na+nb,pw)).eraseIdxIfInBounds (i+1):=by rw[<-F]
 clear F;have mem:∀k,k<a₀.size->aS (arrOf st) k∈a₀.toList:=λk B=>Y.mem B;refine aJw (c9 (by lia) ?_);refine aJw (nD O C K.kind (by lia) (by lia) I (λi hi=>mem _ (by lia)) (mem _ (by lia)) λk B b1 b2=>?_);dsimp only
 have low:∀j,j<k->lt (aS (arrOf st) (sa+na)) (aS (arrOf st) (sa+j))=false:=λj X=>by
  have e:=b1 j X;simpa only[lB,Bool.false_eq_true,if_false,Bool.not_eq_true'] using e
 have upp:∀j,k<=j->j<na->lt (aS (arrOf st) (sa+na)) (aS (arrOf st) (sa+j))=true:=λj h3 h4=>by
  have e:=b2 j h3 h4;simpa only[lB,Bool.false_eq_true,if_false,Bool.not_eq_false'] using e
 by_cases n:na-k=0
 ·rw[if_pos (by simpa using n)];refine aJz (h st1 K ?_ (λj _=>by rw[z]) U);rw[z];intro p q u c G;by_cases Z:p<sa+na
  ·by_cases V:q<sa+na
   ·exact I p q u c V
   ·have e:=low (p-sa) (by lia);rw[show sa+(p-sa)=p by lia]at e;exact O.tr _ _ _ e (J (sa+na) q (aJq _) (by lia) (by lia))
  ·exact J p q (by lia) c (by lia)
 rw[if_neg (by simpa using n)];refine aJw (c9 (by lia) ?_);have b:sa+k+(na-k)-1=sa+na-1:=by lia
 rw[b];refine aJw (nD O C K.kind (by lia) (by lia) J (λi hi=>mem _ (by lia)) (mem _ (by (clear b n B t l;lia))) λm hm d1 d2=>?_);dsimp only
 have dlow:∀j,j<m->lt (aS (arrOf st) (sa+na+j)) (aS (arrOf st) (sa+na-1))=true:=λj X=>by
  have e:=d1 j X;simpa only[lB,if_true] using e
 have L:∀j,m<=j->j<nb->lt (aS (arrOf st) (sa+na+j)) (aS (arrOf st) (sa+na-1))=false:=λj h3 h4=>by
  have e:=d2 j h3 h4;simpa only[lB,if_true] using e
 by_cases g:m=0
 ·rw[if_pos (by simpa using g)];refine aJz (h st1 K ?_ (λj _=>by rw[z]) U);rw[z];intro p q u c G;by_cases Z:p<sa+na
  ·by_cases V:q<sa+na
   ·exact I p q u c V
   ·have e:=L (q-(sa+na)) (by lia) (by lia);rw[show sa+na+(q-(sa+na))=q by lia]at e;exact O.tr _ _ _ (I p (sa+na-1) u (by (clear V G c u g hm b n B t hz l o;lia)) (by (clear V Z G c u g hm b n B t hz l;lia))) e
  ·exact J p q (by lia) c (by lia)
 rw[if_neg (by simpa using g)]
 have T:E9 lt a₀ ((arrOf st).extract (sa+k) (sa+na)) ((arrOf st).extract (sa+na) (sa+na+m)):=by
  refine⟨λx hx=>?_,λx hx=>?_,?_,?_,by rw[Array.size_extract];(clear g hm b B l o;lia),by rw[Array.size_extract];lia,λx hx=>?_,λy hy=>?_⟩
  ·rw[eJ]at hx;obtain⟨j,_,_,_,rfl⟩:=mS hx;exact mem _ (by lia)
  ·rw[eJ]at hx;obtain⟨j,_,_,_,rfl⟩:=mS hx;exact mem _ (by lia)
  ·rw[eJ,<-uV O (by lia)];exact λp q u c G=>I p q (by lia) c G
  ·rw[eJ,<-uV O (by lia)];exact λp q u c G=>J p q u c (by lia)
  ·rw[eJ]at hx;obtain⟨j,j1,j2,_,rfl⟩:=mS hx;rw[J2 (by lia) (by lia)];have e:=upp (j-sa) (by lia) (by lia);rw[show sa+(j-sa)=j by lia]at e;exact O.r9 _ _ e
  ·rw[eJ]at hy;obtain⟨j,j1,j2,_,rfl⟩:=mS hy;rw[Array.size_extract,J2 (by lia) (by (clear j2 j1 g hm b B t hz l o;lia)),show sa+k+(min (sa+na) (arrOf st).size-(sa+k)-1)=sa+na-1 by lia];have e:=dlow (j-(sa+na)) (by lia);rw[show sa+na+(j-(sa+na))=j by lia]at e;exact O.r9 _ _ e
 have fin:∀(r:aNq) (d:SortSt),bS st1 d->Good lt (((arrOf st).extract (sa+k) (sa+na)).toList++((arrOf st).extract (sa+na) (sa+na+m)).toList) r.toList->
   wpS (model prog w) A E s (do
    modify λs=>setArr s (r.toList.zipIdx.foldl (λa (x:Keyed×Nat)=>a.setIfInBounds (sa+k+x.2) x.1) (arrOf s))
    let s<-get
    pure (failedOf s).isNone) Q d:=λr d M gd=>by
  refine aJw (aMw ?_);refine aJw (wpS_get ?_);have ar2:arrOf d=arrOf st:=M.2.1.trans z;have hf2:failedOf d=none:=M.2.2.2.trans K.cR
  have N:r.toList.length=na-k+m:=by
   have:=gd.1.length_eq;rw[List.length_append,eJ,eJ,iM (by lia),iM (by lia)]at this
   lia
  have pl:=C8 (sa+k) r.toList 0 (arrOf st) (by (clear g b n l o;lia));simp only[Nat.add_zero]at pl;generalize ha2:(r.toList.zipIdx.foldl (λa (x:Keyed×Nat)=>a.setIfInBounds (sa+k+x.2) x.1) (arrOf st))=a2 at pl;have hset:setArr d (r.toList.zipIdx.foldl (λa (x:Keyed×Nat)=>a.setIfInBounds (sa+k+x.2) x.1) (arrOf d))=setArr d a2:=by rw[ar2,ha2]
  rw[hset];have fn:(failedOf (setArr d a2)).isNone=true:=by show (failedOf d).isNone=true;rw[hf2];rfl
  rw[fn]
  have rp:r.toList.Perm (part (arrOf st) (sa+k) (sa+na+m)):=by
   have:=gd.1;rw[eJ,eJ,<-F2 (by lia) (by lia)]at this;exact this
  have P:a2.Perm (arrOf st):=by
   rw[Array.perm_iff_toList_perm,pl];have e:=B9 (a:=arrOf st) (i:=sa+k) (j:=sa+na+m) (by lia) (by lia);rw[show sa+k+r.toList.length=sa+na+m by (clear g hm b n t hz l o;lia),List.append_assoc];rw[e]
   conv=>lhs;rw[<-e]
   exact aLg _ (aLu _ rp)
  have f:a2.size=(arrOf st).size:=P.size_eq;have R:=TN (a:=arrOf st) (r:=r.toList) (s:=sa+k) (by (clear f g b n l o;lia)) a2 pl;rw[show sa+k+r.toList.length=sa+na+m by (clear f g hm b n t hz l o;lia)]at R
  have mid:part a2 (sa+k) (sa+na+m)=r.toList:=by
   unfold part;rw[pl,show sa+k+r.toList.length=sa+na+m by (clear f g hm b n t hz l o;lia)];have l1:((arrOf st).toList.take (sa+k)).length=sa+k:=by simp;(clear f N g hm b n l o;lia)
   rw[List.append_assoc,List.take_append,l1,List.drop_append,List.length_take,l1,List.drop_of_length_le (by simp;(clear l1 f N g hm b n B t hz l o;lia))];rw[show sa+k-min (sa+na+m) (sa+k)=0 by (clear l1 f N g hm b n t hz l o;lia),List.drop_zero,List.nil_append,List.take_append,N,show sa+na+m-(sa+k)-(na-k+m)=0 by (clear l1 f N g hm b n B t hz l o;lia)];simp;rw[List.take_of_length_le (by simp at N⊢;(clear l1 f g hm b n t hz l o;lia))]
  refine aJz (h (setArr d a2) ⟨P.trans Y.perm,M.1.trans K.kind,hf2⟩ ?_ (λj X=>R j (by lia)) (M.2.2.1.trans U));show Seg lt a2 sa (sa+na+nb)
  have D:∀j,sa+k<=j->j<sa+na+m->∃i,sa+k<=i/\i<sa+na+m/\aS a2 j=aS (arrOf st) i:=λj h3 h4=>by
   have:aS a2 j∈part a2 (sa+k) (sa+na+m):=by
    unfold part;rw[mW (by lia)];have hl:j-(sa+k)<((a2.toList.take (sa+na+m)).drop (sa+k)).length:=by simp;lia
    have:=aNh hl;simp only[List.getElem_drop,List.getElem_take]at this;simpa[show sa+k+(j-(sa+k))=j by lia] using this
   rw[mid]at this;obtain⟨i,H,S,_,e⟩:=mS (rp.mem_iff.mp this);exact⟨i,H,S,e⟩
  have smid:Seg lt a2 (sa+k) (sa+na+m):=by rw[uV O (by lia),mid];exact gd.2
  have z1:∀p i,sa<=p->p<sa+k->sa+k<=i->i<sa+na+nb->lt (aS (arrOf st) i) (aS (arrOf st) p)=false:=λp i p1 p2 H S=>by
   by_cases ci:i<sa+na
   ·exact I p i p1 (by lia) ci
   ·have e:=low (p-sa) (by lia);rw[show sa+(p-sa)=p by lia]at e;exact O.tr _ _ _ e (J (sa+na) i (aJq _) (by lia) (by lia))
  have z3:∀i q,sa+k<=i->i<sa+na+m->sa+na+m<=q->q<sa+na+nb->lt (aS (arrOf st) q) (aS (arrOf st) i)=false:=λi q H S q1 q2=>by
   by_cases ci:i<sa+na
   ·have e:=L (q-(sa+na)) (by lia) (by lia);rw[show sa+na+(q-(sa+na))=q by lia]at e;exact O.tr _ _ _ (I i (sa+na-1) (by lia) (by (clear q2 q1 S H f N g hm b n B t hz l o;lia)) (by (clear ci q2 q1 S H f N g hm b n B t hz l;lia))) e
   ·exact J i q (by lia) (by lia) (by lia)
  intro p q u c G;by_cases Z:p<sa+k
  ·rw[R p (.inl Z)];by_cases V:q<sa+k
   ·rw[R q (.inl V)];exact I p q u c (by lia)
   ·by_cases W:q<sa+na+m
    ·obtain⟨i,H,S,e⟩:=D q (by lia) W;rw[e];exact z1 p i u Z H (by lia)
    ·rw[R q (.inr (by lia))];exact z1 p q u Z (by lia) G
  ·by_cases cp2:p<sa+na+m
   ·by_cases W:q<sa+na+m
    ·exact smid p q (by lia) c W
    ·rw[R q (.inr (by lia))];obtain⟨i,H,S,e⟩:=D p (by lia) cp2;rw[e];exact z3 i q H S (by lia) G
   ·rw[R p (.inr (by lia)),R q (.inr (by lia))];exact J p q (by lia) c (by lia)
 by_cases c3:na-k<=m
 ·rw[if_pos c3];exact aJw (ND O C T K.kind λr d M gd=>fin r d M gd)
 ·rw[if_neg c3];exact aJw (NF O C T K.kind λr d M gd=>fin r d M gd)
end
abbrev Run:=Nat×Nat×Nat
def eU(r:Run):Nat×Nat:=(r.1,r.2.1)
def Chain:Nat->List (Nat×Nat)->Nat->Prop
 | s,[],e=>s=e
 | s,r::l,e=>r.1=s/\1<=r.2/\Chain (s+r.2) l e
theorem nQ:∀{l m:List (Nat×Nat)} {s e:Nat},Chain s (l++m) e↔∃x,Chain s l x/\Chain x m e
 | [],m,s,e=>by simp[Chain]
 | r::l,m,s,e=>by
  simp only[List.cons_append,Chain,nQ (l:=l) (m:=m)];constructor
  ·rintro⟨a,b,x,c,d⟩;exact⟨x,⟨a,b,c⟩,d⟩
  ·rintro⟨x,⟨a,b,c⟩,d⟩;exact⟨a,b,x,c,d⟩
theorem nP:∀{l:List (Nat×Nat)} {s e:Nat},Chain s l e->s+l.length<=e
 | [],s,e,h=>by simp[Chain]at h;simp;lia
 | r::l,s,e,h=>by
  obtain⟨_,b,a⟩:=h;have:=nP a;simp;lia
theorem nO:∀{l:List (Nat×Nat)} {s e:Nat},Chain s l e->∀r∈l,s<=r.1/\r.1+r.2<=e/\1<=r.2
 | [],s,e,h,r,a=>by cases a
 | q::l,s,e,h,r,a=>by
  obtain⟨d,c,b⟩:=h;rcases aK1.mp a with z | z
  ·subst z;have:=nP b;exact⟨by lia,by lia,c⟩
  ·have:=nO b r z;exact⟨by lia,this.2⟩
structure Wait(κ:SortKind)(lt:aNo)(a₀:aNq)(st:SortSt)(lo:Nat):Prop where
 base:Base κ a₀ st
 ch:Chain 0 ((pendingOf st).toList.map eU) lo
 sg:∀r∈(pendingOf st).toList,Seg lt (arrOf st) r.1 (r.1+r.2.1)
 le:lo<=a₀.size
section
variable {prog:Program}{w:World}{A:Around}{E:aNn}{s:Shared}{a₀:aNq}{κ:SortKind}{lt:aNo}
theorem pV{a b:aNq}(h:∀k,i<=k->k<j->aS b k=aS a k)(g:Seg lt a i j):Seg lt b i j:=λp q d c e=>by
 rw[h p d (by lia),h q (by lia) e];exact g p q d c e
theorem YN{p:List Run}(h:i+1<p.length):∃pre b c a,p=pre++b::c::a/\pre.length=i:=by
 refine⟨p.take i,p[i]'(by lia),p[i+1],p.drop (i+2),?_,by simp;lia⟩;have d:=List.drop_eq_getElem_cons (l:=p) (i:=i) (by lia);have e:=List.drop_eq_getElem_cons (l:=p) (i:=i+1) h;rw[<-e,<-d,List.take_append_drop]
theorem HS(O:Wk lt)(C:nC prog w A s κ lt a₀){i lo:Nat}{Q:Bool->SortSt->Prop}(W:Wait κ lt a₀ st lo)(hi:i+1<(pendingOf st).size)
  (h:∀a,Wait κ lt a₀ a lo->(pendingOf a).size+1=(pendingOf st).size->(∀k,lo<=k->aS (arrOf a) k=aS (arrOf st) k)->Q true a):wpS (model prog w) A E s (mergeAt' i) Q st:=by
 obtain⟨pre,g,j,b,e,m⟩:=YN (p:=(pendingOf st).toList) (i:=i) (by simpa using hi)
 have D:(pendingOf st)[i]? =some g:=by
  have:(pendingOf st).toList[i]? =some g:=by rw[e,<-m];simp
  simpa using this
 have F:(pendingOf st)[i+1]? =some j:=by
  have:(pendingOf st).toList[i+1]? =some j:=by rw[e,<-m];simp
  simpa using this
 have ch:=W.ch;rw[e,List.map_append]at ch;obtain⟨x,q,t⟩:=nQ.mp ch;simp only[List.map_cons,Chain,eU]at t;obtain⟨k1,k2,u,v,l⟩:=t;have len:=nP l;have s1:=W.sg g (by rw[e];simp);have s2:=W.sg j (by rw[e];simp);obtain⟨c,d,G⟩:=g;obtain⟨K,f,L⟩:=j;dsimp only at k1 k2 u v l s1 s2 len;subst k1 u;have le:=W.le;refine NG O C D F k2 v (by lia) W.base s1 s2 λa B sg n H=>?_
 have o:(pendingOf a).toList=pre++(c,d+f,G)::b:=by
  rw[H,Array.toList_eraseIdxIfInBounds,Array.toList_setIfInBounds,e,<-m];simp;rw[List.eraseIdx_append_of_length_le (by lia)];simp[show pre.length+1-pre.length=1 by lia]
 refine h a ⟨B,?_,λr y=>?_,W.le⟩ ?_ λk M=>n k (.inr (by lia))
 ·rw[o,List.map_append];refine nQ.mpr ⟨c,q,?_⟩;simp only[List.map_cons,Chain,eU];exact⟨trivial,by lia,by rw[show c+(d+f)=c+d+f by lia];exact l⟩
 ·rw[o]at y;rcases aJx.mp y with z | z
  ·have hm:eU r∈pre.map eU:=aK0.mpr ⟨r,z,rfl⟩;have:=nO q _ hm;simp only[eU]at this;exact pV (λk I J=>n k (.inl (by lia))) (W.sg r (by rw[e];simp[z]))
  ·rcases aK1.mp z with z | z
   ·subst z;show Seg lt _ c (c+(d+f));rw[show c+(d+f)=c+d+f by lia];exact sg
   ·have hm:eU r∈b.map eU:=aK0.mpr ⟨r,z,rfl⟩;have:=nO l _ hm;simp only[eU]at this;exact pV (λk I J=>n k (.inr (by lia))) (W.sg r (by rw[e];simp[z]))
 ·have:=aKo List.length o;have:=aKo List.length e;simp at*
  lia
theorem DJ{p:Array Run}{i pw:Nat}:(p.modify i λ(x:Run)=>(x.1,x.2.1,pw)).toList.map eU=p.toList.map eU/\(p.modify i λ(x:Run)=>(x.1,x.2.1,pw)).size=p.size:=by
 refine⟨?_,by simp⟩;rw[Array.toList_modify];apply List.ext_getElem?;intro j;simp only[List.getElem?_map,List.getElem?_modify];by_cases h:i=j
 ·subst h;cases p.toList[i]? <;> simp[eU]
 ·simp[h]
end
section
variable {prog:Program}{w:World}{A:Around}{E:aNn}{s:Shared}{a₀:aNq}{κ:SortKind}{lt:aNo}
theorem Wait.power{lo pw i:Nat}(W:Wait κ lt a₀ st lo):Wait κ lt a₀ (setPending st ((pendingOf st).modify i λ(x:Run)=>(x.1,x.2.1,pw))) lo:=by
 obtain⟨b,c,g,l⟩:=W;have mb:=DJ (p:=pendingOf st) (i:=i) (pw:=pw);refine⟨⟨b.perm,b.kind,b.cR⟩,?_,λr d=>?_,l⟩
 ·show Chain 0 (((pendingOf st).modify i λ(x:Run)=>(x.1,x.2.1,pw)).toList.map eU) lo;rw[mb.1];exact c
 ·have a :r∈((pendingOf st).modify i λ(x:Run)=>(x.1,x.2.1,pw)).toList:=d;have:eU r∈(pendingOf st).toList.map eU:=by rw[<-mb.1];exact aK0.mpr ⟨r,a,rfl⟩
  obtain⟨q,f,e⟩:=aK0.mp this;simp only[eU,Prod.mk.injEq]at e;have:=g q f;rw[e.1,e.2]at this;exact this
theorem Wait.push{lo n:Nat}(W:Wait κ lt a₀ st lo)(d:1<=n)(e:lo+n<=a₀.size)(g:Seg lt (arrOf st) lo (lo+n)):Wait κ lt a₀ (setPending st ((pendingOf st).push (lo,n,0))) (lo+n):=by
 obtain⟨b,c,f,l⟩:=W;refine⟨⟨b.perm,b.kind,b.cR⟩,?_,λr h=>?_,e⟩
 ·show Chain 0 (((pendingOf st).push (lo,n,0)).toList.map eU) (lo+n);simp only[Array.toList_push,List.map_append];exact nQ.mpr ⟨lo,c,rfl,d,rfl⟩
 ·have a :r∈((pendingOf st).push (lo,n,0)).toList:=h;simp only[Array.toList_push]at a;rcases aJx.mp a with z | z
  ·exact f r z
  ·simp at z;subst z;exact g
theorem Wait.held{st a :SortSt}{lo:Nat}(W:Wait κ lt a₀ st lo)(B:Base κ a₀ a)(k:∀j,j<lo->aS (arrOf a) j=aS (arrOf st) j)(p:pendingOf a =pendingOf st):Wait κ lt a₀ a lo:=by
 obtain⟨b,c,e,l⟩:=W;refine⟨B,by rw[p];exact c,λr d=>?_,l⟩;rw[p]at d;have:=nO c (eU r) (aK0.mpr ⟨r,d,rfl⟩);simp only[eU]at this;exact pV (λj f g=>k j (by lia)) (e r d)
def IP(lo n size:Nat):StateT SortSt Sem (ForInStep (Option Unit×Nat)):=do
 modify λs=>setPending s ((pendingOf s).push (lo,n,0))
 pure (.yield (none,lo+n))
def yZ(lo n size:Nat):StateT SortSt Sem (ForInStep (Option Unit×Nat)):=do
 let g<-get
 match (pendingOf g).back? with
 | some (s1,d,_)=>do
  let c<-forIn [:size] ((none,()):Option Unit×Unit) λ_ _=>do
   let g<-get
   match (if (pendingOf g).size > 1 then (pendingOf g)[(pendingOf g).size-2]? else none) with
   | some (_,_,a)=>if a<=power' size (2*s1+d) (2*s1+d+d+n) size then pure (.done (none,())) else do
     let b<-mergeAt' ((pendingOf g).size-2)
     if (!b)=true then pure (.done (some (),())) else pure (.yield (none,()))
   | _=>pure (.done (none,()))
  match c.fst with
  | some r=>pure (.done (some r,lo))
  | none=>do
   modify λs=>setPending s ((pendingOf s).modify ((pendingOf s).size-1) λ(x:Run)=>(x.1,x.2.1,power' size (2*s1+d) (2*s1+d+d+n) size))
   IP lo n size
 | _=>IP lo n size
def IG(size a lo:Nat):StateT SortSt Sem (ForInStep (Option Unit×Nat)):=
 if lo>=size then pure (.done (none,lo)) else countRun' lo (size-lo) >>=λr=>match r with
  | some n=>if n<a then liftM (rule "list.sort.binary-insertion") >>=λ_=>binarySort' lo (min (size-lo) a) n >>=λb=>if (!b)=true then pure (.done (some (),lo)) else yZ lo (min (size-lo) a) size
    else yZ lo n size
  | none=>pure (.done (some (),lo))
def XT(size:Nat):StateT SortSt Sem (ForInStep (Option Unit×Unit)):=do
 let g<-get
 if (pendingOf g).size<=1 then pure (.done (none,())) else do
  let b<-mergeAt' (if (if (pendingOf g).size-2 > 0 then (pendingOf g)[(pendingOf g).size-2-1]?.map (·.2.1) else none).any (· < ((pendingOf g)[(pendingOf g).size-2+1]?.elim 0 (·.2.1))) then (pendingOf g).size-2-1 else (pendingOf g).size-2)
  if (!b)=true then pure (.done (some (),())) else pure (.yield (none,()))
theorem NT:sortRuns' =(do
  let g<-get
  let c<-forIn [:(arrOf g).size] ((none,0):Option Unit×Nat) λ_ c=>IG (arrOf g).size (minRun' (arrOf g).size (arrOf g).size 0) c.snd
  match c.fst with
  | some r=>pure r
  | none=>do
   let d<-forIn [:(arrOf g).size] ((none,()):Option Unit×Unit) λ_ _=>XT (arrOf g).size
   match d.fst with
   | some r=>pure r
   | none=>pure ()):=by
 rw[sortRuns'_eq];refine aKy λg=>?_;dsimp only;have m:∀(n:Nat) (f e :Nat->Option Unit×Nat->StateT SortSt Sem (ForInStep (Option Unit×Nat))) (k h :Option Unit×Nat->StateT SortSt Sem Unit) (i:Option Unit×Nat),f=e ->k=h ->(forIn [:n] i f >>=k)=(forIn [:n] i e >>=h):=λn f e k h i o p=>by rw[o,p]
 refine m _ _ _ _ _ _ (funext λx=>funext λc=>?_) (funext λc=>?_)
 ·have a:∀(n:Nat) (f e :Nat->Option Unit×Unit->StateT SortSt Sem (ForInStep (Option Unit×Unit))) (k h :Option Unit×Unit->StateT SortSt Sem (ForInStep (Option Unit×Nat))) (i:Option Unit×Unit),f=e ->k=h ->(forIn [:n] i f >>=k)=(forIn [:n] i e >>=h):=λn f e k h i o p=>by rw[o,p]
  unfold IG;refine aMl rfl (λ_=>rfl) (λ_=>?_);refine aKy λr=>?_
  cases r with
  | none=>rfl
  | some n=>
   refine aMl rfl (λ_=>?_) (λ_=>?_)
   ·refine aKy λ_=>?_;refine aKy λb=>?_;refine aMl rfl (λ_=>rfl) (λ_=>?_);unfold yZ;refine aKy λq=>?_
    cases (pendingOf q).back? with
    | none=>rfl
    | some r=>
     obtain⟨s1,t,u⟩:=r;refine a _ _ _ _ _ _ (funext λx=>funext λc=>aKy λj=>?_) (funext λc=>?_)
     ·cases (if (pendingOf j).size > 1 then (pendingOf j)[(pendingOf j).size-2]? else none) with
      | none=>rfl
      | some r=>rfl
     ·obtain⟨l,s⟩:=c;cases l <;> rfl
   ·unfold yZ;refine aKy λq=>?_
    cases (pendingOf q).back? with
    | none=>rfl
    | some r=>
     obtain⟨s1,t,u⟩:=r;refine a _ _ _ _ _ _ (funext λx=>funext λc=>aKy λj=>?_) (funext λc=>?_)
     ·cases (if (pendingOf j).size > 1 then (pendingOf j)[(pendingOf j).size-2]? else none) with
      | none=>rfl
      | some r=>rfl
     ·obtain⟨l,s⟩:=c;cases l <;> rfl
 ·obtain⟨l,s⟩:=c
  cases l with
  | some r=>rfl
  | none=>
   refine aKy λd=>?_;obtain⟨v,w⟩:=d;cases v <;> rfl
variable{Q:ForInStep (Option Unit×Nat)->SortSt->Prop}
theorem W9(O:Wk lt)(C:nC prog w A s κ lt a₀){lo n size:Nat}(W:Wait κ lt a₀ st lo)(j:1<=n)(l:lo+n<=a₀.size)(g:Seg lt (arrOf st) lo (lo+n))
  (h:∀d,Wait κ lt a₀ d (lo+n)->Q (.yield (none,lo+n)) d):wpS (model prog w) A E s (yZ lo n size) Q st:=by
 have push:∀a,Wait κ lt a₀ a lo->Seg lt (arrOf a) lo (lo+n)->wpS (model prog w) A E s (IP lo n size) Q a:=λa b m=>by
  unfold IP;exact aJw (aMw (aJz (h _ (b.push j l m))))
 unfold yZ;refine aJw (wpS_get ?_)
 cases hb:(pendingOf st).back? with
 | none=>exact push st W g
 | some r=>
  obtain⟨s1,t,u⟩:=r;dsimp only;refine aJw (aLd (aL2 (I:=λ_ c a=>c=(none,())/\Wait κ lt a₀ a lo/\∀k,lo<=k->aS (arrOf a) k=aS (arrOf st) k) (Q:=λc a=>c=(none,())/\Wait κ lt a₀ a lo/\∀k,lo<=k->aS (arrOf a) k=aS (arrOf st) k) ?_ (λ_ _ r=>r) ⟨rfl,W,λ_ _=>rfl⟩) ?_)
  ·rintro x c a _ _ ⟨rfl,b,k1⟩;refine aJw (wpS_get ?_);by_cases f:(pendingOf a).size > 1
   ·rw[if_pos f];have e:(pendingOf a)[(pendingOf a).size-2]? =some ((pendingOf a)[(pendingOf a).size-2]'(by lia)):=by simp
    rw[e];generalize (pendingOf a)[(pendingOf a).size-2]'(by lia)=r;obtain⟨v,y,z⟩:=r;dsimp only;split
    ·exact aJz ⟨rfl,b,k1⟩
    ·refine aJw (HS O C b (by lia) λo p _ k2=>?_);exact aJz ⟨rfl,p,λk i=>(k2 k i).trans (k1 k i)⟩
   ·rw[if_neg f];exact aJz ⟨rfl,b,k1⟩
  ·rintro c a ⟨rfl,b,k1⟩;dsimp only;refine aJw (aMw ?_);exact push _ b.power (pV (λk q _=>k1 k q) g)
theorem aCz(O:Wk lt)(C:nC prog w A s κ lt a₀){lo g:Nat}(W:Wait κ lt a₀ st lo)
  (hd:lo=a₀.size->Q (.done (none,lo)) st) (h:∀n a,1<=n->Wait κ lt a₀ a (lo+n)->Q (.yield (none,lo+n)) a):wpS (model prog w) A E s (IG a₀.size g lo) Q st:=by
 have le:=W.le;unfold IG;by_cases c:lo>=a₀.size
 ·rw[if_pos c];exact aJz (hd (by lia))
 ·rw[if_neg c];refine aJw (X4 O C (by lia) (by lia) W.base λm d i m1 q b held=>?_);have j:Wait κ lt a₀ d lo:=W.held i held.1 held.2;dsimp only;by_cases less:m<g
  ·rw[if_pos less];refine aJw (wpS_lift (aKq ⟨rfl,?_⟩));refine aJw (SK O C (by lia) (by lia) i b λk l e o p=>?_);exact W9 O C (j.held l o p) (by lia) (by lia) e λa f =>h _ a (by lia) f
  ·rw[if_neg less];exact W9 O C j m1 (by lia) b λa f =>h _ a m1 f
theorem idx(b:Prop)[Decidable b](n:Nat)(h:2<=n):(if b then n-2-1 else n-2)+1<n:=by split <;> lia
theorem X3(O:Wk lt)(C:nC prog w A s κ lt a₀){Q:Unit->SortSt->Prop}(j:Base κ a₀ st)(f:pendingOf st= #[])
  (h:∀b,Base κ a₀ b ->Seg lt (arrOf b) 0 a₀.size->Q () b):wpS (model prog w) A E s sortRuns' Q st:=by
 have m:=j.size;rw[NT];refine aJw (wpS_get ?_);simp only[m]
 have o:Wait κ lt a₀ st 0:=⟨j,by rw[f];rfl,λr k=>by rw[f]at k;simp at k,by lia⟩
 refine aJw (aLd (aL2
  (I:=λx c b =>∃lo,c=(none,lo)/\x<=lo/\Wait κ lt a₀ b lo)
  (Q:=λc b =>c=(none,a₀.size)/\Wait κ lt a₀ b a₀.size) ?turn ?last ⟨0,rfl,aJq _,o⟩) ?rest)
 case last=>
  rintro c b ⟨lo,rfl,hx,W⟩;have:=W.le;obtain rfl:lo=a₀.size:=by lia
  exact⟨rfl,W⟩
 case turn=>
  rintro x c b _ hx ⟨lo,rfl,t,W⟩
  refine aCz O C W (λe=>?_) λn a y d=>⟨lo+n,rfl,by lia,d⟩
  subst e;exact⟨rfl,W⟩
 case rest=>
  rintro c b ⟨rfl,W⟩;dsimp only
  have hsz:(pendingOf b).size<=a₀.size:=by
   have:=nP W.ch;simp at this;lia
  refine aJw (aLd (aL2 (I:=λx c a=>c=(none,())/\Wait κ lt a₀ a a₀.size/\((pendingOf a).size<=1\/(pendingOf a).size+x<=a₀.size)) (Q:=λc a=>c=(none,())/\Wait κ lt a₀ a a₀.size/\(pendingOf a).size<=1) ?_ ?_ ⟨rfl,W,.inr (by lia)⟩) ?_)
  ·rintro x c a _ hx ⟨rfl,d,g⟩;unfold XT;refine aJw (wpS_get ?_);by_cases i:(pendingOf a).size<=1
   ·rw[if_pos i];exact aJz ⟨rfl,d,i⟩
   ·rw[if_neg i];refine aJw (HS O C d (idx _ _ (by lia)) λu v z _=>?_);exact aJz ⟨rfl,v,.inr (by lia)⟩
  ·rintro c a ⟨rfl,d,g⟩;exact⟨rfl,d,by simp at g;lia⟩
  ·rintro c a ⟨rfl,d,g⟩;dsimp only;refine aJz (h a d.base ?_);have ch:=d.ch
   cases hl:(pendingOf a).toList with
   | nil=>
    rw[hl]at ch;simp[Chain]at ch;intro p q _ _ B;lia
   | cons r l=>
    have:l=[]:=by
     have:=aKo List.length hl;simp at this;exact aMk.mp (by lia)
    subst this;rw[hl]at ch;simp only[List.map_cons,List.map_nil,Chain,eU]at ch;have:=d.sg r (by rw[hl];simp);rw[ch.1,ch.2.2]at this;exact this
end
section
variable {prog:Program}{w:World}{A:Around}{E:aNn}{s:Shared}{a₀:aNq}{κ:SortKind}{lt:aNo}
variable{vs:List Value}
theorem S7(g:xs.Perm (pairsOf vs))(sg:Seg lt xs 0 vs.length):
  ((xs.map (·.2)).toList).Perm vs/\((xs.map (·.2)).toList).Pairwise (λx y=>lt (y,y) (x,x)=false):=by
 have h:xs.toList.Perm (vs.zip vs):=by rw[<-pairsOf_toList];exact Array.perm_iff_toList_perm.mp g
 have same:∀p∈xs.toList,p=(p.2,p.2):=λp b=>by
  have hm:=h.mem_iff.mp b
  have:∀(l:List Value) (q:Keyed),q∈l.zip l->q=(q.2,q.2):=λl q c=>by
   induction l with
   | nil=>simp at c
   | cons v r m=>
    rw[List.zip_cons_cons]at c;rcases aK1.mp c with e | e
    ·rw[e]
    ·exact m e
  exact this vs p hm
 have hsz:xs.size=vs.length:=by have:=g.size_eq;rw[pairsOf_size]at this;exact this
 refine⟨?_,?_⟩
 ·rw[Array.toList_map];have:=h.map (·.2)
  rwa [show (vs.zip vs).map (·.2)=vs from List.map_snd_zip (aJq _)]at this
 ·rw[Array.toList_map,List.pairwise_map];rw[List.pairwise_iff_getElem];intro i j hi k d;have f :i<xs.size:=by simpa using hi
  have a :j<xs.size:=by simpa using k
  have q:=sg i j (aKz _) (aM5 d) (by rw[<-hsz];exact a);have n:aS xs i=xs.toList[i]:=by unfold aS;rw[getElem?_pos xs i f];simp
  have o:aS xs j=xs.toList[j]:=by unfold aS;rw[getElem?_pos xs j a];simp
  rw[n,o]at q;rw[same _ (List.getElem_mem hi),same _ (List.getElem_mem k)]at q;exact q
theorem NS(O:Wk lt){a:Addr}{n:Nat}{P:PySem.Fin->Shared->Prop}(ho:s.heap.get? a=some (seqObj "list" vs.toArray n))(v:vs.length<4000)
  (z:2<=vs.length->∀h' :Heap,(∀b o,b≠a->s.heap.get? b=some o->h'.get? b=some o)->nC prog w A {s with heap:=h'} κ lt (pairsOf vs)/\
   ∀l,l κ {s with heap:=h'}->wpAny (model prog w) A (keyKind' vs.toArray) l E {s with heap:=h'})
  (h:∀out:List Value,out.Perm vs->out.Pairwise (λx y=>lt (y,y) (x,x)=false)->P (.done (.ret .none)) {s with heap:=sortedHeap s.heap a vs out.toArray}):
  wpAny (model prog w) A (Builtin.«list.sort» ⟨[.ref a],[]⟩) P E s:=by
 have la:a<s.heap.objs.size:=aJy ho;have H:sizeLine=16777216:=aK4
 obtain⟨j,m⟩:∃j,(s.heap.update a (Obj.mapSeq λ_=>#[])).get? a=some (seqObj "list" #[] j):=⟨_,get?_update_seq ho λ_=>#[]⟩
 have t:(((s.heap.update a (Obj.mapSeq λ_=>#[])).push (seqObj "tuple" vs.toArray 0)).push (seqObj "list" #[] 0)).get? a=some (seqObj "list" #[] j):=aJp _ (aJp _ m)
 have f:∀b o,b≠a->s.heap.get? b=some o->(((s.heap.update a (Obj.mapSeq λ_=>#[])).push (seqObj "tuple" vs.toArray 0)).push (seqObj "list" #[] 0)).get? b=some o:=λb o hb e=>
  aJp _ (aJp _ (by rw[Heap.get?_update_ne _ _ _ _ hb];exact e))
 have d:∀c :SortSt,(arrOf c).Perm (pairsOf vs)->Seg lt (arrOf c) 0 vs.length->failedOf c =none->wpAny (model prog w) A (do
   let touched:=(<-seqEpoch a) !=j
   Builtin.List.listUpdate (.ref a) λ_=>(arrOf c).map (·.2)
   if let some e:=failedOf c then rule "list.sort.comparison-raised";throw e
   if touched then rule "list.sort.modified";raiseError "ValueError" "list modified during sort"
   ret .none) P E {s with heap:=((s.heap.update a (Obj.mapSeq λ_=>#[])).push (seqObj "tuple" vs.toArray 0)).push (seqObj "list" #[] 0)}:=λc u sg B=>by
  obtain⟨C,D⟩:=S7 u sg
  have I:((arrOf c).map (·.2)).size<=sizeLine:=by
   rw[Array.size_map];have:=u.size_eq;rw[pairsOf_size]at this
   lia
  refine aJn (seqEpoch_at t rfl ?_);refine aJn (listUpdate_at t rfl ?_ (hsz2:=by lia));rw[B];simp only[bne_self_eq_false,Bool.false_eq_true,if_false];have fin:=h _ C D;rw[Array.toArray_toList]at fin;exact aJo fin
 rw[list_sort_plain];refine aJn (listItems_at ho rfl ?_);refine aJn (listUpdate_at ho rfl ?_ (by rw[List.size_toArray];lia) (aKz _));refine aJn (seqEpoch_at m rfl ?_);refine aJn (aM1 ?_ (by show vs.length<=_;lia));refine aJn (wpAny_newList ?_ (aKz _));refine aKd ?_;dsimp only;by_cases FF:vs.length<2
 ·have g :vs.toArray.size<2:=by rw[List.size_toArray];exact FF
  rw[if_pos g,if_pos g];refine aJn (aJo ?_);rw[StateT.run_pure];refine aJn (aJo ?_)
  exact d (SortSt.mk' general' (vs.toArray.zip vs.toArray) #[] 7 none) (Array.Perm.refl _) (λp q _ F J=>by
   obtain rfl:p=q:=by lia
   exact O.LY _) rfl
 ·have i:¬vs.toArray.size<2:=by rw[List.size_toArray];exact FF
  rw[if_neg i,if_neg i];obtain⟨k,kind⟩:=z (by lia) _ f;refine aJn (kind _ ?_)
  refine aJn (aL9 (X3 (Q:=λ_ c =>Base κ (pairsOf vs) c /\Seg lt (arrOf c) 0 (pairsOf vs).size) O k (st:=SortSt.mk' κ (vs.toArray.zip vs.toArray) #[] 7 none) ⟨Array.Perm.refl _,rfl,rfl⟩ rfl
   λc b sg=>⟨b,sg⟩) (λr K G=>?_) λ_ _ e=>e)
  obtain⟨⟨⟩,c⟩:=r;obtain⟨rfl,b,sg⟩:=G;rw[pairsOf_size]at sg;exact d c b.perm sg b.cR
theorem CQ(O:Wk lt){l:Addr}{Q:aNn}(d:s.heap.IsList l vs.toArray)(c:vs.length<4000)
  (f:2<=vs.length->∀h' :Heap,(∀b o,s.heap.get? b=some o->h'.get? b=some o)->nC prog w A.in1.in1 {s with heap:=h'} κ lt (pairsOf vs)/\
   ∀a g,a κ {s with heap:=h'}->wpAny (model prog w) A.in1.in1 (keyKind' vs.toArray) a g {s with heap:=h'})
  (h:∀out:List Value,out.Perm vs->out.Pairwise (λx y=>lt (y,y) (x,x)=false)->Q (.ref (s.heap.objs.size+1)) {s with heap:=sortedAll s.heap vs out.toArray}):
  wpAny (model prog w) A (call (.builtin "sorted") [.ref l]) Q E s:=by
 have t:sizeLine=16777216:=aK4;have grown:((s.heap.push (seqObj "list" #[] 0)).update s.heap.objs.size (Obj.mapSeq (· ++vs.toArray))).objs.size=s.heap.objs.size+1:=by rw[Heap.size_update,size_push']
 have kept:∀b o,s.heap.get? b=some o->(((s.heap.push (seqObj "list" #[] 0)).update s.heap.objs.size (Obj.mapSeq (· ++vs.toArray))).push (seqObj "list" vs.toArray 0)).get? b=some o:=λb o e=>by
  have lb:=aJy e;refine aJp _ ?_;rw[Heap.get?_update_ne _ _ _ _ (Nat.ne_of_lt lb)];exact aJp _ e
 refine aM8 kind_sorted plain_sorted entry_sorted (args_sorted1 _) ?_;unfold Builtin.«sorted»;refine aJn (m:=checkCount "sorted" 1 1 _) (aJo ?_);refine aJn (collect_list d ?_ (by lia));refine aJn (wpAny_newList ?_ (by lia))
 have ob:(((s.heap.push (seqObj "list" #[] 0)).update s.heap.objs.size (Obj.mapSeq (· ++vs.toArray))).push (seqObj "list" vs.toArray 0)).get? (s.heap.objs.size+1)=some (seqObj "list" vs.toArray 0):=by
  rw[<-grown];exact aJv _ rfl
 show wpAny _ _ _ _ _ {s with heap:=((s.heap.push (seqObj "list" #[] 0)).update s.heap.objs.size (Obj.mapSeq (· ++vs.toArray))).push (seqObj "list" vs.toArray 0)};rw[grown];refine aJn (aKd (aK8 slot_list_sort ⟨_,ob,rfl⟩ entry_list_sort (NS (κ:=κ) (s:={s with heap:=((s.heap.push (seqObj "list" #[] 0)).update s.heap.objs.size (Obj.mapSeq (· ++vs.toArray))).push (seqObj "list" vs.toArray 0)}) O ob c (λi h' k=>?_) λout j n=>⟨_,rfl,aJo ⟨_,rfl,h out j n⟩⟩) (args_list_sort _)));obtain⟨p,r⟩:=f i h' λb o e=>k b o (aK2 (aKw (aJy e))) (kept b o e);exact⟨p,λa q=>r a _ q⟩
end
end TS
namespace D3
open PySem PySem.Spec PyProof.Rows L2
inductive D where
 | bY | bl (b:Bool) | int (i:Int) | str (x:Str) | ty (n:String)
 | tup (ds:List D) | fl (ds:List D) | ref (n:Nat)
inductive MO where
 | lst (ds:List D)
 | dic (t:Bool) (kvs:List (D×D))
 | fdc (t:Bool) (kvs:List (D×D)) (ob:Obj)
 | oth (ds:List D) (f:Addr->List V->HO)
abbrev MH:=List MO
abbrev gM:=List (Option D)
def R9(K:aNm)(H:Hp)(a:Addr)(xs:List V):Prop:=
 (∃o,H a=some (.frz o (.lst xs)))\/
  ∃(o:Obj) (aJ:Array Value) (n:Nat),K.lookup a=some o/\o.cls= .type "list"/\o.dict=none/\o.data= .seq aJ n/\aJ.size<=sizeLine/\Vals xs aJ.toList
variable{K:aNm}{H:Hp}{a:Addr}{xs:List V}
theorem R9.sq(h:R9 K H a xs):qU K H a xs:=by
 rcases h with h | h
 ·exact .inl (.inr h)
 ·exact .inr h
def BZ(K:aNm)(H:Hp)(a:Addr)(xs:List V):Prop:=
 H a=some (.tup xs)\/
  ∃(o:Obj) (aJ:Array Value) (n:Nat),K.lookup a=some o/\o.cls= .type "tuple"/\o.dict=none/\o.data= .seq aJ n/\aJ.size<=sizeLine/\Vals xs aJ.toList
theorem BZ.of(h:H a=some (.tup xs)):BZ K H a xs:= .inl h
theorem BZ.sq(h:BZ K H a xs):tQ K H a xs:=by
 rcases h with h | h
 ·exact .inl (.inl h)
 ·exact .inr h
mutual
def Is(K:aNm)(μ:List Addr)(H:Hp):D->V->Prop
 | .bY,v=>v= .bY
 | .bl b,v=>v= .bl b
 | .int i,v=>v= .int i
 | .str x,v=>v= .str x
 | .ty n,v=>v= .ty n
 | .tup ds,v=>∃a vs,v= .ref a/\BZ K H a vs/\IsL K μ H ds vs
 | .fl ds,v=>∃a vs,v= .ref a/\R9 K H a vs/\IsL K μ H ds vs
 | .ref n,v=>∃a,μ[n]? =some a/\v= .ref a
def IsL(K:aNm)(μ:List Addr)(H:Hp):List D->List V->Prop
 | [],vs=>vs=[]
 | d::ds,vs=>∃v r,vs=v::r/\Is K μ H d v/\IsL K μ H ds r
end
def cO:Key->D
 | .inl i=>.int i
 | .inr x=>.str x
def RW(o:Option HO)(ks:List D)(vs:List V):Bool->Prop
 | false=>∃kk:List (Key×V),o=some (.dK kk)/\ks=kk.map (λp=>cO p.1)/\vs=kk.map (·.2)
 | true=>∃kk:List (List Key×V),o=some (.dT kk)/\ks=kk.map (λp=>.tup (p.1.map cO))/\vs=kk.map (·.2)
def Own:Option HO->Prop
 | some (.frz _ (.dK _))=>True
 | some (.frz _ (.dT _))=>True
 | o=>RQ o
def oY(K:aNm)(μ:List Addr)(H:Hp):MO->Addr->Prop
 | .lst ds,a=>∃vs,H a=some (.lst vs)/\IsL K μ H ds vs
 | .dic t kvs,a=>∃vs,RW (H a) (kvs.map (·.1)) vs t/\IsL K μ H (kvs.map (·.2)) vs
 | .fdc t kvs ob,a=>∃vs u,H a=some (.frz ob u)/\RW (some u) (kvs.map (·.1)) vs t/\IsL K μ H (kvs.map (·.2)) vs
 | .oth ds f,a=>∃vs,(H a=some (f a vs)/\Own (some (f a vs)))/\IsL K μ H ds vs
structure Rep(K:aNm)(μ:List Addr)(mh:MH)(H:Hp):Prop where
 len:μ.length=mh.length
 nd:μ.Nodup
 obj:∀(n:Nat) a o,μ[n]? =some a->mh[n]? =some o->oY K μ H o a
structure aP(μ:List Addr)(H:Hp)(μ' :List Addr)(H' :Hp):Prop where
 pre:∃t,μ' =μ++t
 fr:∀b o,H b=some o->b∉μ->H' b=some o
 nw:∀a∈μ',a∈μ\/H a=none
def cQ(K:aNm)(μ:List Addr)(H:Hp)(a:gM)(σ:L2.St):Prop:=
 a.length=σ.length/\∀(i:Nat) d,a[i]? =some (some d)->∃v,σ[i]? =some (some v)/\Is K μ H d v
section
variable {K:aNm}{μ μ1 μ2 μ' :List Addr}{mh mh' :MH}{H H1 H2 H' :Hp}
theorem oY.mut{o:MO}(h:oY K μ H o a):Own (H a):=by
 cases o with
 | lst ds=>obtain⟨vs,e,_⟩:=h;rw[e];trivial
 | dic t kvs=>cases t <;> (obtain⟨vs,⟨kk,e,_⟩,_⟩:=h;rw[e];trivial)
 | fdc t kvs ob=>cases t <;> (obtain⟨vs,u,e,⟨kk,b,_⟩,_⟩:=h;cases b;rw[e];trivial)
 | oth ds f=>obtain⟨vs,⟨e,m⟩,_⟩:=h;rw[e];exact m
theorem Rep.at(R:Rep K μ mh H)(h:a∈μ):∃(n:Nat) (o:MO),μ[n]? =some a/\mh[n]? =some o/\oY K μ H o a:=by
 obtain⟨n,b⟩:=aKi.mp h;have c:n<mh.length:=by rw[<-R.len];exact(aJr.mp b).1
 exact⟨n,mh[n],b,by simp[c],R.obj n a _ b (by simp[c])⟩
theorem Rep.mut(R:Rep K μ mh H)(h:a∈μ):Own (H a):=let ⟨_,_,_,_,q⟩:=R.at h;q.mut
theorem aP.refl:aP μ H μ H:=⟨⟨[],by simp⟩,λ_ _ h _=>h,λ_ h=>.inl h⟩
theorem aP.trans(p:aP μ H μ1 H1)(q:aP μ1 H1 μ2 H2):aP μ H μ2 H2:=by
 refine⟨?_,λb o e n=>?_,λa ha=>?_⟩
 ·obtain⟨t,rfl⟩:=p.pre;obtain⟨u,rfl⟩:=q.pre;exact⟨t++u,by simp⟩
 ·refine q.fr b o (p.fr b o e n) λhb=>?_;rcases p.nw b hb with z | z
  ·exact n z
  ·rw[e]at z;cases z
 ·rcases q.nw a ha with z | z
  ·exact p.nw a z
  ·by_cases hm:a∈μ
   ·exact .inl hm
   ·right
    cases e:H a with
    | none=>rfl
    | some o=>rw[p.fr a o e hm]at z;cases z
variable{n:Nat}
theorem aP.get(p:aP μ H μ' H')(h:μ[n]? =some a):μ'[n]? =some a:=by
 obtain⟨t,rfl⟩:=p.pre;rw[List.getElem?_append_left (List.getElem?_eq_some_iff.mp h).1];exact h
variable{vs:List V}
theorem Rep.sqT(R:Rep K μ mh H)(p:aP μ H μ' H')(h:BZ K H a vs):BZ K H' a vs:=by
 rcases h with h | h
 ·refine .inl (p.fr _ _ h λhm=>?_);have:=R.mut hm;rw[h]at this;exact this
 ·exact .inr h
theorem Rep.sqF(R:Rep K μ mh H)(p:aP μ H μ' H')(h:R9 K H a vs):R9 K H' a vs:=by
 rcases h with ⟨o,h⟩ | h
 ·refine .inl ⟨o,p.fr _ _ h λhm=>?_⟩;have:=R.mut hm;rw[h]at this;exact this
 ·exact .inr h
mutual
theorem Is.mono(R:Rep K μ mh H)(p:aP μ H μ' H'):∀(d:D) (v:V),Is K μ H d v->Is K μ' H' d v
 | .bY,v,h=>by unfold Is at*;exact h
 | .bl _,v,h=>by unfold Is at*;exact h
 | .int _,v,h=>by unfold Is at*;exact h
 | .str _,v,h=>by unfold Is at*;exact h
 | .ty _,v,h=>by unfold Is at*;exact h
 | .tup ds,v,h=>by
  unfold Is at*;obtain⟨a,vs,e,s,l⟩:=h;exact⟨a,vs,e,R.sqT p s,IsL.mono R p ds vs l⟩
 | .fl ds,v,h=>by
  unfold Is at*;obtain⟨a,vs,e,s,l⟩:=h;exact⟨a,vs,e,R.sqF p s,IsL.mono R p ds vs l⟩
 | .ref n,v,h=>by
  unfold Is at*;obtain⟨a,e,q⟩:=h;exact⟨a,p.get e,q⟩
theorem IsL.mono(R:Rep K μ mh H)(p:aP μ H μ' H'):∀(ds:List D) (vs:List V),IsL K μ H ds vs->IsL K μ' H' ds vs
 | [],vs,h=>by unfold IsL at*;exact h
 | d::ds,vs,h=>by
  unfold IsL at*;obtain⟨v,r,e,q,l⟩:=h;exact⟨v,r,e,Is.mono R p d v q,IsL.mono R p ds r l⟩
end
theorem cQ.mono{a:gM}{σ:L2.St}(R:Rep K μ mh H)(p:aP μ H μ' H')(E:cQ K μ H a σ):cQ K μ' H' a σ:=⟨E.1,λi d e=>by
 obtain⟨v,b,c⟩:=E.2 i d e
 exact⟨v,b,Is.mono R p d v c⟩⟩
theorem oY.mono{o:MO}(R:Rep K μ mh H)(p:aP μ H μ' H')(e:H' a=H a)(h:oY K μ H o a):oY K μ' H' o a:=by
 cases o with
 | lst ds=>obtain⟨vs,q,l⟩:=h;exact⟨vs,by rw[e];exact q,IsL.mono R p ds vs l⟩
 | dic t kvs=>obtain⟨vs,q,l⟩:=h;exact⟨vs,by rw[e];exact q,IsL.mono R p _ vs l⟩
 | fdc t kvs ob=>obtain⟨vs,u,q,b,l⟩:=h;exact⟨vs,u,by rw[e];exact q,b,IsL.mono R p _ vs l⟩
 | oth ds f=>obtain⟨vs,⟨q,m⟩,l⟩:=h;exact⟨vs,⟨by rw[e];exact q,m⟩,IsL.mono R p ds vs l⟩
variable{q:Addr}
theorem aP.new{o:HO}(R:Rep K μ mh H)(a:H q=none):aP μ H μ (upd H q o):=
 ⟨⟨[],by simp⟩,λb u e _=>by rw[aV (bK e a)];exact e,λ_ h=>.inl h⟩
theorem Rep.ne(R:Rep K μ mh H)(b:H q=none)(h:a∈μ):a≠q:=by
 rintro rfl;have:=R.mut h;rw[b]at this;exact this
theorem Rep.new{o:HO}(R:Rep K μ mh H)(b:H q=none):Rep K μ mh (upd H q o):=
 ⟨R.len,R.nd,λn a ob c d=>(R.obj n a ob c d).mono R (aP.new R b) (aV (R.ne b (aJu c)))⟩
theorem aP.LC{o:HO}(R:Rep K μ mh H)(c:H q=none):aP μ H (μ++[q]) (upd H q o):=
 ⟨⟨[q],rfl⟩,λb u e _=>by rw[aV (bK e c)];exact e,λa h=>by
  rcases aJx.mp h with h | h
  ·exact .inl h
  ·simp at h;subst h;exact .inr c⟩
theorem Rep.LC{ds:List D}(R:Rep K μ mh H)(e:H q=none)(l:IsL K μ H ds vs):Rep K (μ++[q]) (mh++[.lst ds]) (upd H q (.lst vs)):=by
 have P:aP μ H (μ++[q]) (upd H q (.lst vs)):=aP.LC R e;refine⟨by simp[R.len],?_,λn a ob c d=>?_⟩
 ·rw[List.nodup_append];refine⟨R.nd,by simp,λa ha b hb=>?_⟩;simp at hb;subst hb;exact R.ne e ha
 ·by_cases f:n<μ.length
  ·rw[List.getElem?_append_left f]at c;rw[List.getElem?_append_left (by rw[<-R.len];exact f)]at d;exact(R.obj n a ob c d).mono R P (aV (R.ne e (aJu c)))
  ·rw[List.getElem?_append_right (by lia)]at c;rw[List.getElem?_append_right (by rw[<-R.len];lia)]at d
   have hz:n-μ.length=0:=by
    have:=(aJr.mp c).1;simp at this;lia
   rw[hz]at c;rw[<-R.len,hz]at d;simp at c d;subst c d;exact⟨vs,bV,l.mono R P⟩
theorem aP.set{o:HO}(R:Rep K μ mh H)(h:μ[n]? =some a):aP μ H μ (upd H a o):=
 ⟨⟨[],by simp⟩,λb u e hb=>by rw[aV (λz=>hb (by rw[z];exact List.mem_of_getElem? h))];exact e,λ_ h=>.inl h⟩
theorem O6{n m:Nat}(nd:μ.Nodup)(b:μ[n]? =some a)(c:μ[m]? =some a):n=m:=by
 obtain⟨f,d⟩:=aJr.mp b;obtain⟨g,e⟩:=aJr.mp c;exact(aNg nd).mp (d.trans e.symm)
theorem Rep.set{ds:List D}(R:Rep K μ mh H)(h:μ[n]? =some a)(l:IsL K μ H ds vs):Rep K μ (mh.set n (.lst ds)) (upd H a (.lst vs)):=by
 have P:aP μ H μ (upd H a (.lst vs)):=aP.set R h;refine⟨by simp[R.len],R.nd,λm b ob c d=>?_⟩;by_cases hm:m=n
 ·subst hm;rw[h]at c;cases c;have e:m<mh.length:=by rw[<-R.len];exact(aJr.mp h).1
  rw[List.getElem?_set_self e]at d;cases d;exact⟨vs,bV,l.mono R P⟩
 ·rw[List.getElem?_set_ne (Ne.symm hm)]at d;exact(R.obj m b ob c d).mono R P (aV λz=>hm (O6 R.nd c (by rw[z];exact h)))
end
abbrev DK:=D->MH->Prop
abbrev WE:=gM->MH->DK->Prop
def Fin(K:aNm)(μ:List Addr)(H:Hp)(R:DK)(Q:VK):Prop:=
 ∀d mh',R d mh' ->∀μ' v H',aP μ H μ' H' ->Rep K μ' mh' H' ->Is K μ' H' d v->Q v H'
def tL(K:aNm)(w:WE):TE:=λσ H Q=>∃μ a mh R,Rep K μ mh H/\cQ K μ H a σ/\w a mh R/\Fin K μ H R Q
def LE(X:Cx)(e:Expr)(w:WE):Prop:=PE X e (tL X.K w)
variable{X:Cx}
theorem PE.imp{e:Expr}{t t' :TE}(h:PE X e t)(i:∀σ H Q,t' σ H Q->t σ H Q):PE X e t' :=λpins s σ H Q I q=>h pins s σ H Q I (i σ H Q q)
variable{R:DK}{Q:VK}
theorem Fin.at{μ a:List Addr}{H b:Hp}(F:Fin K μ H R Q)(P:aP μ H a b):Fin K a b R Q:=
 λd mh' r μ' v H' c e I=>F d mh' r μ' v H' (P.trans c) e I
def aB(i:Nat):WE:=λa mh Q=>∃d,a[i]? =some (some d)/\Q d mh
def wC(d:D):WE:=λ_ mh Q=>Q d mh
section
variable {X:Cx}{a b c:Expr}{wa wb wc:WE}{pos:Pos}
theorem aAh(i:Nat){x:Str}(hN:X.N[i]? =some x:=by rfl)(b:Vis X.env.scope x:=by first | exact Or.inl rfl | exact Or.inr (Or.inl rfl) | exact Or.inr (Or.inr rfl))(hd:(x==("__debug__":Str))=false:=by decide)
  (a:(x==("__classdict__":Str))=false:=by decide):LE X (.Name x pos) (aB i):=PE.imp (ZE hN b hd a) λσ H Q h=>by
 obtain⟨μ,f,mh,R,r,E,⟨d,hd,c⟩,F⟩:=h;obtain⟨v,e,i⟩:=E.2 _ d hd;exact⟨v,e,F d mh c μ v H aP.refl r i⟩
theorem LJ{e:Expr}{v:V}{d:D}(h:PE X e (tC v))(a:∀μ H,Is X.K μ H d v):LE X e (wC d):=PE.imp h λσ H Q h=>by
 obtain⟨μ,c,mh,R,r,E,b,F⟩:=h;exact F d mh b μ v H aP.refl r (a μ H)
theorem le_int{i:Int}{j}:LE X (.Constant (.int i) j pos) (wC (.int i)):=LJ ZL λ_ _=>by unfold Is;rfl
theorem aFa{i:Bool}{j}:LE X (.Constant (.bool i) j pos) (wC (.bl i)):=LJ aEd λ_ _=>by unfold Is;rfl
theorem aAl{j}:LE X (.Constant .none j pos) (wC .bY):=LJ ZJ λ_ _=>by unfold Is;rfl
theorem le_str{i:Str}{j}:LE X (.Constant (.str i) j pos) (wC (.str i)):=LJ ZG λ_ _=>by unfold Is;rfl
theorem U6{x:Str}{d:D}{v:V}{u:Value}(hg:Gl X x)(hm:X.mg x=some u)(r:RelV v u)(a:∀μ H,Is X.K μ H d v)(hd:(x==("__debug__":Str))=false:=by decide):LE X (.Name x pos) (wC d):=LJ (T9 hg hm r hd) a
theorem U5{x:Str}{T:String}(hg:Gl X x)(hm:X.mg x=none)(a:bootBuiltins x=some (.type T))(b:x≠ "__name__":=by decide)(hd:(x==("__debug__":Str))=false:=by decide):LE X (.Name x pos) (wC (.ty T)):=
 LJ (UC (v:= .ty T) hg hm a rfl b hd) λ_ _=>by unfold Is;rfl
abbrev O1:=D->MH->DK->Prop
abbrev O2:=D->D->MH->DK->Prop
def bT(K:aNm)(f:O2):R2:=λx y H Q=>∃μ mh dx a R,Rep K μ mh H/\Is K μ H dx x/\Is K μ H a y/\f dx a mh R/\Fin K μ H R Q
def P0(K:aNm)(f:O1):V->Hp->VK->Prop:=λx H Q=>∃μ mh dx R,Rep K μ mh H/\Is K μ H dx x/\f dx mh R/\Fin K μ H R Q
def aZ(f:O2)(wa wb:WE):WE:=λc mh Q=>wa c mh λx a=>wb c a λy b=>f x y b Q
def RX(f:O1)(wa:WE):WE:=λb mh Q=>wa b mh λx a=>f x a Q
variable{f:O2}{σ:L2.St}
theorem IS(h:tL K (aZ f wa wb) σ H Q):tOp (bT K f) (tL K wa) (tL K wb) σ H Q:=by
 obtain⟨μ,e,mh,R,g,E,h,F⟩:=h;refine⟨μ,e,mh,_,g,E,h,λdx a l b m r i j n=>⟨b,e,a,_,j,E.mono g i,l,λo c p d s t k R2 q=>?_⟩⟩;exact⟨d,c,dx,o,R,R2,Is.mono j k dx m n,q,p,F.at (i.trans k)⟩
theorem aDa{f:O1}(h:tL K (RX f wa) σ H Q):tUn (P0 K f) (tL K wa) σ H Q:=by
 obtain⟨μ,c,mh,R,d,E,h,F⟩:=h;exact⟨μ,c,mh,_,d,E,h,λdx a e b k l g i j=>⟨b,a,dx,R,i,j,e,F.at g⟩⟩
theorem aF5{op:Operator}(ho:gE X (binaryOp op) (bT X.K f))(ha:LE X a wa)(hb:LE X b wb):LE X (.BinOp a op b pos) (aZ f wa wb):=PE.imp (aE9 ho ha hb) λ_ _ _ h=>IS h
theorem aF3{op:UnaryOp}{f:O1}(ho:UnR X (unaryOp op) (P0 X.K f))(ha:LE X a wa):LE X (.UnaryOp op a pos) (RX f wa):=PE.imp (aE8 ho ha) λ_ _ _ h=>aDa h
theorem aAp{op:CmpOp}(ho:gE X (compareOp op) (bT X.K f))(ha:LE X a wa)(hb:LE X b wb)(hm:behindInMarks op b=false):LE X (.Compare a [op] [b] pos) (aZ f wa wb):=PE.imp (UA ho ha hb hm) λ_ _ _ h=>IS h
theorem XS(ho:X2 X (bT X.K f))(ha:LE X a wa)(hb:LE X b wb)(hs:KH b):LE X (.Subscript a b pos) (aZ f wa wb):=PE.imp (aEb ho ha hb hs) λ_ _ _ h=>IS h
abbrev WT:=gM->MH->(Bool->MH->Prop)->Prop
def WY(K:aNm)(μ:List Addr)(H:Hp)(R:Bool->MH->Prop)(Q:Bool->Hp->Prop):Prop:=
 ∀b mh',R b mh' ->∀μ' H',aP μ H μ' H' ->Rep K μ' mh' H' ->Q b H'
def YH(K:aNm)(w:WT):TT:=λσ H Q=>∃μ a mh R,Rep K μ mh H/\cQ K μ H a σ/\w a mh R/\WY K μ H R Q
def LT(X:Cx)(e:Expr)(w:WT):Prop:=PT X e (YH X.K w)
def LW(X:Cx)(e:Expr)(w:WT):Prop:=PW X e (YH X.K w)
theorem PT.imp{X:Cx}{e:Expr}{t t' :TT}(h:PT X e t)(i:∀σ H Q,t' σ H Q->t σ H Q):PT X e t' :=λpins s σ H Q I q=>h pins s σ H Q I (i σ H Q q)
theorem PW.imp{X:Cx}{e:Expr}{t t' :TT}(h:PW X e t)(i:∀σ H Q,t' σ H Q->t σ H Q):PW X e t' :=λa pins s σ H Q I q=>h a pins s σ H Q I (i σ H Q q)
variable{Q:Bool->Hp->Prop}
theorem WY.at{μ a:List Addr}{H c:Hp}{R:Bool->MH->Prop}(F:WY K μ H R Q)(P:aP μ H a c):WY K a c R Q:=
 λb mh' r μ' H' d e =>F b mh' r μ' H' (P.trans d) e
def eO(w:WE):WT:=λb mh Q=>w b mh λx a=>∃k,x= .bl k/\Q k a
theorem YC{t:TE}{w:WE}(i:∀σ H Q,tL K w σ H Q->t σ H Q)(h:YH K (eO w) σ H Q):XC t σ H Q:=by
 obtain⟨μ,e,mh,R,f,E,h,F⟩:=h;refine i σ H _ ⟨μ,e,mh,_,f,E,h,λdx a b c m g j l d=>?_⟩;obtain⟨k,rfl,b⟩:=b;unfold Is at d;exact⟨k,d,F k a b c g j l⟩
theorem aA5{op:CmpOp}(ho:gE X (compareOp op) (bT X.K f))(ha:LE X a wa)(hb:LE X b wb)(hm:behindInMarks op b=false):LT X (.Compare a [op] [b] pos) (eO (aZ f wa wb)):=
 PT.imp (TX ho ha hb hm) λ_ _ _ h=>YC (λ_ _ _ z=>IS z) h
def jP(mh:MH):D->Option Bool
 | .bY=>some false
 | .bl b=>some b
 | .int i=>some (i !=0)
 | .str y=>if y.length<=sizeLine then some ((y.length:Int) !=0) else none
 | .tup ds=>some !ds.isEmpty
 | .fl ds=>some !ds.isEmpty
 | .ref n=>match mh[n]? with | some (.lst ds)=>some !ds.isEmpty | _=>none
 | .ty _=>none
theorem aX{K:aNm}{μ:List Addr}{H:Hp}:∀{ds:List D} {vs:List V},IsL K μ H ds vs->vs.length=ds.length
 | [],vs,h=>by unfold IsL at h;subst h;rfl
 | d::ds,vs,h=>by unfold IsL at h;obtain⟨v,r,rfl,_,l⟩:=h;simp[aX l]
theorem A1{μ:List Addr}{ds:List D}{vs:List V}(h:IsL K μ H ds vs):vs.isEmpty=ds.isEmpty:=by
 have:=aX h;cases vs <;> cases ds <;> simp_all
theorem YE{μ:List Addr}{mh:MH}{d:D}{v:V}{k:Bool}(R:Rep K μ mh H)(h:Is K μ H d v)(e:jP mh d=some k):aCh K v H k:=by
 cases d with
 | bY=>unfold Is at h;subst h;simp[jP]at e;subst e;rfl
 | bl b=>unfold Is at h;subst h;simp[jP]at e;subst e;rfl
 | int i=>unfold Is at h;subst h;simp[jP]at e;subst e;rfl
 | str y=>
  unfold Is at h;subst h;simp only[jP]at e;split at e
  ·rename_i hl;exact⟨hl,(aK5 e).symm⟩
  ·cases e
 | ty n=>simp[jP]at e
 | tup ds=>
  unfold Is at h;obtain⟨a,vs,rfl,s,l⟩:=h;obtain rfl:(!ds.isEmpty)=k:=aK5 e;exact .inr (.inl ⟨vs,s.sq,by rw[A1 l]⟩)
 | fl ds=>
  unfold Is at h;obtain⟨a,vs,rfl,s,l⟩:=h;obtain rfl:(!ds.isEmpty)=k:=aK5 e;exact .inl ⟨vs,s.sq,by rw[A1 l]⟩
 | ref n=>
  unfold Is at h;obtain⟨a,q,rfl⟩:=h;simp only[jP]at e
  cases o:mh[n]? with
  | none=>rw[o]at e;cases e
  | some ob=>
   cases ob with
   | lst ds=>
    rw[o]at e;cases e;obtain⟨vs,c,l⟩:=R.obj n a _ q o;exact .inl ⟨vs,.of c,by rw[A1 l]⟩
   | dic t kvs=>rw[o]at e;cases e
   | fdc t kvs ob=>rw[o]at e;cases e
   | oth ds f=>rw[o]at e;cases e
def o5(w:WE):WT:=λb mh Q=>w b mh λx a=>∃k,jP a x=some k/\Q k a
theorem PQ(ha:LE X a wa)(he:∀b,isTrue a X.env b=(do let v<-b;standAt a.pos;holding [v] (truthy v)):=by intro _;rfl):LT X a (o5 wa):=PT.imp (N9 ha he) λσ H Q h=>by
 obtain⟨μ,i,mh,R,j,E,h,F⟩:=h;refine⟨μ,i,mh,_,j,E,h,λdx c d f o l m g n=>?_⟩;obtain⟨k,e,d⟩:=d;exact⟨k,YE g n e,F k c d f l m g⟩
def IC(t u:WT):WT:=λb mh Q=>t b mh λc a=>if c=true then u b a Q else Q false a
def KL(t u:WT):WT:=λb mh Q=>t b mh λc a=>if c=true then Q true a else u b a Q
def j8(t:WT):WT:=λb mh Q=>t b mh λc a=>Q (!c) a
variable {ta tb:WT}{rest:List Expr}
theorem US(ha:LT X a ta):LW X (.BoolOp .And [a] pos) ta:=TK ha
theorem aA2(ha:LT X a ta):LW X (.BoolOp .Or [a] pos) ta:=Y2 ha
theorem aA3(ha:LT X a ta)(hb:LW X (.BoolOp .And (b::rest) pos) tb):LW X (.BoolOp .And (a::b::rest) pos) (IC ta tb):=PW.imp (Y3 ha hb) λσ H Q h=>by
 obtain⟨μ,i,mh,R,j,E,h,F⟩:=h;refine⟨μ,i,mh,_,j,E,h,λc d f e l g k=>?_⟩
 cases c with
 | true=>rw[if_pos rfl]at f⊢;exact⟨e,i,d,R,k,E.mono j g,f,F.at g⟩
 | false=>rw[if_neg Bool.false_ne_true]at f⊢;exact F false d f e l g k
theorem XM(ha:LT X a ta)(hb:LW X (.BoolOp .Or (b::rest) pos) tb):LW X (.BoolOp .Or (a::b::rest) pos) (KL ta tb):=PW.imp (aE3 ha hb) λσ H Q h=>by
 obtain⟨μ,i,mh,R,j,E,h,F⟩:=h;refine⟨μ,i,mh,_,j,E,h,λc d f e l g k=>?_⟩
 cases c with
 | true=>rw[if_pos rfl]at f⊢;exact F true d f e l g k
 | false=>rw[if_neg Bool.false_ne_true]at f⊢;exact⟨e,i,d,R,k,E.mono j g,f,F.at g⟩
theorem LW.lt(h:LW X a ta):LT X a ta:=PW.pt h
theorem aA4(ha:LT X a ta):LT X (.UnaryOp .Not a pos) (j8 ta):=PT.imp (Y4 ha) λσ H Q h=>by
 obtain⟨μ,e,mh,R,f,E,h,F⟩:=h;exact⟨μ,e,mh,_,f,E,h,λc b g d i j k=>F (!c) b g d i j k⟩
def CI(wa wb:WE):WE:=λb mh Q=>wa b mh λx a=>∃c,x= .bl c/\if c=true then wb b a Q else Q (.bl false) a
theorem aAj{op}(ha:LE X a wa):LE X (.BoolOp op [a] pos) wa:=ZH ha
theorem aAq(ha:LE X a wa)(hb:LE X (.BoolOp .And (b::rest) pos) wb):LE X (.BoolOp .And (a::b::rest) pos) (CI wa wb):=PE.imp (ZM ha hb) λσ H Q h=>by
 obtain⟨μ,i,mh,R,j,E,h,F⟩:=h;refine⟨μ,i,mh,_,j,E,h,λdx e d f n m g k l=>?_⟩;obtain⟨c,rfl,d⟩:=d;unfold Is at l;refine⟨c,l,?_⟩
 cases c with
 | true=>rw[if_pos rfl]at d⊢;exact⟨f,i,e,R,k,E.mono j g,d,F.at g⟩
 | false=>rw[if_neg Bool.false_ne_true]at d⊢;exact F _ e d f _ m g k (by unfold Is;rfl)
def HY(wa:WE):WE:=λb mh Q=>wa b mh λx a=>∃c,x= .bl c/\Q (.bl !c) a
theorem aAk(ha:LE X a wa):LE X (.UnaryOp .Not a pos) (HY wa):=PE.imp (ZI ha) λσ H Q h=>by
 obtain⟨μ,g,mh,R,i,E,h,F⟩:=h;refine⟨μ,g,mh,_,i,E,h,λdx b d e m j k l f=>?_⟩;obtain⟨c,rfl,d⟩:=d;unfold Is at f;exact⟨c,f,F _ b d e _ j k l (by unfold Is;rfl)⟩
def wIf(t:WT)(wa wb:WE):WE:=λb mh Q=>t b mh λc a=>if c=true then wa b a Q else wb b a Q
theorem P6(m:LT X c ta)(ha:LE X a wa)(hb:LE X b wb):LE X (.IfExp c a b pos) (wIf ta wa wb):=PE.imp (OJ m ha hb) λσ H Q h=>by
 obtain⟨μ,i,mh,R,j,E,h,F⟩:=h;refine⟨μ,i,mh,_,j,E,h,λk d f e n g l=>?_⟩
 cases k with
 | true=>rw[if_pos rfl]at f⊢;exact⟨e,i,d,R,l,E.mono j g,f,F.at g⟩
 | false=>rw[if_neg Bool.false_ne_true]at f⊢;exact⟨e,i,d,R,l,E.mono j g,f,F.at g⟩
end
abbrev WA:=gM->MH->(List D->MH->Prop)->Prop
def FinA(K:aNm)(μ:List Addr)(H:Hp)(R:List D->MH->Prop)(Q:List V->Hp->Prop):Prop:=
 ∀ds mh',R ds mh' ->∀μ' vs H',aP μ H μ' H' ->Rep K μ' mh' H' ->IsL K μ' H' ds vs->Q vs H'
def tLA(K:aNm)(w:WA):TA:=λσ H Q=>∃μ a mh R,Rep K μ mh H/\cQ K μ H a σ/\w a mh R/\FinA K μ H R Q
def LA(X:Cx)(es:List Expr)(w:WA):Prop:=PA X es (tLA X.K w)
theorem PA.imp{e:List Expr}{t t' :TA}(h:PA X e t)(i:∀σ H Q,t' σ H Q->t σ H Q):PA X e t' :=λpos pins s σ H Q I q=>h pos pins s σ H Q I (i σ H Q q)
def aC:WA:=λ_ mh Q=>Q [] mh
def aA(w:WE)(d:WA):WA:=λc mh Q=>w c mh λx a=>d c a λxs b=>Q (x::xs) b
def Z9(ds:List D)(mh:MH)(Q:DK):Prop:=ds.length<=sizeLine/\Q (.tup ds) mh
def O5(ds:List D)(mh:MH)(Q:DK):Prop:=ds.length<=sizeLine/\Q (.ref mh.length) (mh++[.lst ds])
section
variable {K:aNm}{μ:List Addr}{mh:MH}{H:Hp}{R:DK}{Q:VK}{ds:List D}{vs:List V}
theorem qI(a:Rep K μ mh H)(F:Fin K μ H R Q)(l:IsL K μ H ds vs)(h:R (.tup ds) mh):∀p,H p=none->Q (.ref p) (upd H p (.tup vs)):=λp b=>
 F _ mh h μ _ _ (aP.new a b) (a.new b) (by unfold Is;exact⟨p,vs,rfl,.of bV,IsL.mono a (aP.new a b) ds vs l⟩)
theorem jF(a:Rep K μ mh H)(F:Fin K μ H R Q)(l:IsL K μ H ds vs)(h:R (.ref mh.length) (mh++[.lst ds])):∀p,H p=none->Q (.ref p) (upd H p (.lst vs)):=λp b=>
 F _ _ h (μ++[p]) _ _ (aP.LC a b) (a.LC b l) (by unfold Is;exact⟨p,by rw[<-a.len];simp,rfl⟩)
end
def cV(w:WA):WE:=λb mh Q=>w b mh λds a=>Z9 ds a Q
def gI(w:WA):WE:=λb mh Q=>w b mh λds a=>O5 ds a Q
section
variable {X:Cx}{e:Expr}{es:List Expr}{w:WE}{wr:WA}{pos:Pos}
theorem aAv:LA X [] aC:=PA.imp AD λσ H Q h=>by
 obtain⟨μ,b,mh,R,a,E,h,F⟩:=h;exact F [] mh h μ [] H aP.refl a (by unfold IsL;rfl)
theorem VD(ha:LE X e w)(m:LA X es wr)(hs:starEach (e::es) X.env=(false,eval e X.env)::starEach es X.env:=by rfl):LA X (e::es) (aA w wr):=PA.imp (tY ha m hs) λσ H Q h=>by
 obtain⟨μ,f,mh,R,g,E,h,F⟩:=h;refine⟨μ,f,mh,_,g,E,h,λdx a n b i s j k o=>⟨b,f,a,_,k,E.mono g j,n,λds c p d vs q l R2 r=>?_⟩⟩;exact F _ c p d _ q (j.trans l) R2 (by unfold IsL;exact⟨i,vs,rfl,Is.mono k l dx i o,r⟩)
theorem aAi{x1}(h:LA X es wr):LE X (.Tuple es x1 pos) (cV wr):=PE.imp (ZF h) λσ H Q h=>by
 obtain⟨μ,c,mh,R,d,E,h,F⟩:=h;refine⟨μ,c,mh,_,d,E,h,λds e a f vs j g i b=>⟨by rw[aX b];exact a.1,qI i (F.at g) b a.2⟩⟩
theorem aAm(h:LA X es wr):LE X (.List es pos) (gI wr):=PE.imp (ZK h) λσ H Q h=>by
 obtain⟨μ,c,mh,R,d,E,h,F⟩:=h;refine⟨μ,c,mh,_,d,E,h,λds e a f vs j g i b=>⟨by rw[aX b];exact a.1,jF i (F.at g) b a.2⟩⟩
abbrev OA:=List D->MH->DK->Prop
def eG(K:aNm)(f:OA):List V->Hp->VK->Prop:=λxs H Q=>∃μ mh ds R,Rep K μ mh H/\IsL K μ H ds xs/\f ds mh R/\Fin K μ H R Q
def aD(f:OA)(w:WA):WE:=λb mh Q=>w b mh λds a=>f ds a Q
theorem call_in{f:OA}{σ:L2.St}(h:tL K (aD f wr) σ H Q):tCB (eG K f) (tLA K wr) σ H Q:=by
 obtain⟨μ,c,mh,R,d,E,h,F⟩:=h;exact⟨μ,c,mh,_,d,E,h,λds a e b vs k g i j=>⟨b,a,ds,R,i,j,e,F.at g⟩⟩
theorem P9{x:Str}{p:Pos}{id:String}{f:OA}(c:cB X (.builtin id) (eG X.K f))(hg:Gl X x)(hm:X.mg x=none)(d:bootBuiltins x=some (.builtin id))(ha:LA X (e::es) wr)(g:x≠ "__name__":=by decide)(a:(x==("__debug__":Str))=false:=by decide)
  (he:starEach (e::es) X.env=(false,eval e X.env)::starEach es X.env:=by rfl) (b:(backTo pos (starEach es X.env)).any (·.1)=false:=by rfl):LE X (.Call (.Name x p) (e::es) [] pos) (aD f wr):=
 PE.imp (DA c hg hm d ha g a he b) λ_ _ _ h=>call_in h
theorem LH{x:Str}{p:Pos}{T:String}{f:OA}(c:cB X (.type T) (eG X.K f))(hg:Gl X x)(hm:X.mg x=none)(d:bootBuiltins x=some (.type T))(ha:LA X (e::es) wr)(g:x≠ "__name__":=by decide)(a:(x==("__debug__":Str))=false:=by decide)
  (he:starEach (e::es) X.env=(false,eval e X.env)::starEach es X.env:=by rfl) (b:(backTo pos (starEach es X.env)).any (·.1)=false:=by rfl):LE X (.Call (.Name x p) (e::es) [] pos) (aD f wr):=
 PE.imp (rG c hg hm d ha g a he b) λ_ _ _ h=>call_in h
def R0(K:aNm)(f:OA):Sp:=λvs H Q _=>eG K f vs H Q
theorem VA{k:Nat}{f:Addr}{fd:FuncData}{ps:List Str}{x:Str}{p:Pos}{s:OA}(F:kP X.prog X.w X.K X.mg X.base FE k f fd ps (R0 X.K s))(g:gL k X.A)(hg:Gl X x)(hm:X.mg x=some (.ref f))(i:PySem.W.keepIn X.K (.ref f)=true)(hb:Binds X.K fd ps [])
  (ha:LA X (e::es) wr) (a:(x==("__debug__":Str))=false:=by decide) (he:starEach (e::es) X.env=(false,eval e X.env)::starEach es X.env:=by rfl) (b:(backTo pos (starEach es X.env)).any (·.1)=false:=by rfl):
  LE X (.Call (.Name x p) (e::es) [] pos) (aD s wr):=PE.imp (UB F g hg hm i hb .nil aEe ha a he b) λσ H Q h=>by
 obtain⟨μ,j,mh,R,l,E,h,m⟩:=h;refine⟨μ,j,mh,_,l,E,h,λds c n d vs o q r t=>?_⟩;show eG X.K s (vs++[]) o Q;rw[List.append_nil];exact⟨d,c,ds,R,r,t,n,m.at q⟩
end
section
variable {K:aNm}{μ:List Addr}{mh:MH}{H:Hp}
theorem Is.int{i:Int}:Is K μ H (.int i) (.int i):=by unfold Is;rfl
theorem Is.str{i:Str}:Is K μ H (.str i) (.str i):=by unfold Is;rfl
theorem Is.bl{i:Bool}:Is K μ H (.bl i) (.bl i):=by unfold Is;rfl
theorem Is.bY:Is K μ H .bY .bY:=by unfold Is;rfl
variable{v:V}
theorem bU{i:Int}(h:Is K μ H (.int i) v):v= .int i:=by unfold Is at h;exact h
theorem jS{i:Str}(h:Is K μ H (.str i) v):v= .str i:=by unfold Is at h;exact h
theorem yU{i:Bool}(h:Is K μ H (.bl i) v):v= .bl i:=by unfold Is at h;exact h
theorem A0(h:Is K μ H .bY v):v= .bY:=by unfold Is at h;exact h
variable{ds:List D}
theorem AZ(h:Is K μ H (.tup ds) v):∃a vs,v= .ref a/\BZ K H a vs/\IsL K μ H ds vs:=by unfold Is at h;exact h
theorem dY(h:Is K μ H (.tup ds) v):∃a vs,v= .ref a/\tQ K H a vs/\IsL K μ H ds vs:=by obtain⟨a,vs,e,s,l⟩:=AZ h;exact⟨a,vs,e,s.sq,l⟩
theorem oR(h:Is K μ H (.fl ds) v):∃a vs,v= .ref a/\R9 K H a vs/\IsL K μ H ds vs:=by unfold Is at h;exact h
theorem mY{n:Nat}(h:Is K μ H (.ref n) v):∃a,μ[n]? =some a/\v= .ref a:=by unfold Is at h;exact h
theorem eL:∀{ds:List D} {vs:List V} {i:Nat} {d:D},IsL K μ H ds vs->ds[i]? =some d->∃v,vs[i]? =some v/\Is K μ H d v
 | [],_,_,_,_,e=>by simp at e
 | x::ds,vs,i,d,h,e=>by
  unfold IsL at h;obtain⟨v,r,rfl,q,l⟩:=h
  cases i with
  | zero=>simp at e;subst e;exact⟨v,rfl,q⟩
  | succ i=>obtain⟨u,a,b⟩:=eL (i:=i) l (by simpa using e);exact⟨u,by simpa using a,b⟩
theorem hU:∀{ds es:List D} {vs us:List V},IsL K μ H ds vs->IsL K μ H es us->IsL K μ H (ds++es) (vs++us)
 | [],es,vs,us,h,q=>by unfold IsL at h;subst h;exact q
 | d::ds,es,vs,us,h,q=>by
  unfold IsL at h;obtain⟨v,r,rfl,i,l⟩:=h;show IsL K μ H (d::(ds++es)) (v::(r++us));unfold IsL;exact⟨v,_,rfl,i,hU l q⟩
variable{d:D}
theorem jD(h:Is K μ H d v):IsL K μ H [d] [v]:=by unfold IsL;exact⟨v,[],rfl,h,by unfold IsL;rfl⟩
theorem vV:∀(n:Nat) {ds:List D} {vs:List V},IsL K μ H ds vs->IsL K μ H (ds.drop n) (vs.drop n)
 | 0,_,_,h=>by simpa using h
 | n+1,[],vs,h=>by unfold IsL at h;subst h;simp[IsL]
 | n+1,d::ds,vs,h=>by unfold IsL at h;obtain⟨v,r,rfl,_,l⟩:=h;simpa using vV n l
theorem vT:∀(n:Nat) {ds:List D} {vs:List V},IsL K μ H ds vs->IsL K μ H (ds.take n) (vs.take n)
 | 0,_,_,h=>by simp[IsL]
 | n+1,[],vs,h=>by unfold IsL at h;subst h;simp[IsL]
 | n+1,d::ds,vs,h=>by
  unfold IsL at h;obtain⟨v,r,rfl,i,l⟩:=h;simp only[List.take_succ_cons];unfold IsL;exact⟨v,_,rfl,i,vT n l⟩
theorem JT:∀(n:Nat) {ds:List D} {vs:List V} {d:D} {v:V},Is K μ H d v->IsL K μ H ds vs->IsL K μ H (ds.set n d) (vs.set n v)
 | n,[],vs,d,v,_,h=>by unfold IsL at h;subst h;simp[IsL]
 | 0,x::ds,vs,d,v,i,h=>by unfold IsL at h;obtain⟨u,r,rfl,_,l⟩:=h;simp only[List.set_cons_zero];unfold IsL;exact⟨v,r,rfl,i,l⟩
 | n+1,x::ds,vs,d,v,i,h=>by unfold IsL at h;obtain⟨u,r,rfl,q,l⟩:=h;simp only[List.set_cons_succ];unfold IsL;exact⟨u,_,rfl,q,JT n i l⟩
theorem aB9{vs:List V}{i:Int}(l:IsL K μ H ds vs)(e:jH ds i=some d):∃v,jH vs i=some v/\Is K μ H d v:=by
 unfold jH at*;rw[aX l]
 cases q:LR ds.length i with
 | none=>rw[q]at e;cases e
 | some j=>rw[q]at e;exact eL l e
def bC(mh:MH):D->Option (List D)
 | .tup ds=>some ds
 | .fl ds=>some ds
 | .ref n=>match mh[n]? with | some (.lst ds)=>some ds | _=>none
 | _=>none
theorem zW(R:Rep K μ mh H)(h:Is K μ H d v)(e:bC mh d=some ds):∃a vs,v= .ref a/\(qU K H a vs\/tQ K H a vs)/\IsL K μ H ds vs:=by
 cases d with
 | tup es=>obtain⟨a,vs,rfl,s,l⟩:=dY h;cases e;exact⟨a,vs,rfl,.inr s,l⟩
 | fl es=>obtain⟨a,vs,rfl,s,l⟩:=oR h;cases e;exact⟨a,vs,rfl,.inl s.sq,l⟩
 | ref n=>
  obtain⟨a,q,rfl⟩:=mY h;simp only[bC]at e
  cases o:mh[n]? with
  | none=>rw[o]at e;cases e
  | some ob=>
   cases ob with
   | lst es=>
    rw[o]at e;cases e;obtain⟨vs,b,l⟩:=R.obj n a _ q o;exact⟨a,vs,rfl,.inl (.of b),l⟩
   | dic t kvs=>rw[o]at e;cases e
   | fdc t kvs ob=>rw[o]at e;cases e
   | oth ds f=>rw[o]at e;cases e
 | _=>cases e
def mT(mh:MH):D->Option (List D)
 | .fl ds=>some ds
 | .ref n=>match mh[n]? with | some (.lst ds)=>some ds | _=>none
 | _=>none
theorem rK(R:Rep K μ mh H)(h:Is K μ H d v)(e:mT mh d=some ds):∃a vs,v= .ref a/\qU K H a vs/\IsL K μ H ds vs:=by
 cases d with
 | fl es=>obtain⟨a,vs,rfl,s,l⟩:=oR h;cases e;exact⟨a,vs,rfl,s.sq,l⟩
 | ref n=>
  obtain⟨a,q,rfl⟩:=mY h;simp only[mT]at e
  cases o:mh[n]? with
  | none=>rw[o]at e;cases e
  | some ob=>
   cases ob with
   | lst es=>
    rw[o]at e;cases e;obtain⟨vs,b,l⟩:=R.obj n a _ q o;exact⟨a,vs,rfl,.of b,l⟩
   | dic t kvs=>rw[o]at e;cases e
   | fdc t kvs ob=>rw[o]at e;cases e
   | oth ds f=>rw[o]at e;cases e
 | _=>cases e
theorem jQ{n:Nat}(R:Rep K μ mh H)(h:Is K μ H (.ref n) v)(e:mh[n]? =some (.lst ds)):∃a vs,v= .ref a/\μ[n]? =some a/\H a=some (.lst vs)/\IsL K μ H ds vs:=by
 obtain⟨a,q,rfl⟩:=mY h;obtain⟨vs,b,l⟩:=R.obj n a _ q e;exact⟨a,vs,rfl,q,b,l⟩
theorem Fin.here(F:Fin K μ H R Q)(a:Rep K μ mh H)(h:R d mh)(i:Is K μ H d v):Q v H:=F d mh h μ v H aP.refl a i
theorem Fin.put{n:Nat}{vs:List V}(F:Fin K μ H R Q)(b:Rep K μ mh H)(c:μ[n]? =some a)(l:IsL K μ H ds vs)(h:R d (mh.set n (.lst ds)))(i:Is K μ H d v):Q v (upd H a (.lst vs)):=
 F d _ h μ v _ (aP.set b c) (b.set c l) (Is.mono b (aP.set b c) d v i)
end
def DC(C:Int->Int->Prop)(g:Int->Int->D):O2:=λx y mh Q=>∃i j,x= .int i/\y= .int j/\C i j/\Q (g i j) mh
section
variable {X:Cx}
variable{f:Value->Value->Sem Value}{g:Int->Int->V}
theorem vC{C:Int->Int->Prop}{g' :Int->Int->D}(h:gE X f (rI C g))(hg:∀μ H i j,Is X.K μ H (g' i j) (g i j)):gE X f (bT X.K (DC C g')):=by
 intro pins s σ H x y v u Q I a b q;obtain⟨μ,mh,dx,k,R,d,ix,e,⟨i,j,rfl,rfl,c,q⟩,F⟩:=q;cases bU ix;cases bU e;exact h pins s σ H _ _ v u Q I a b ⟨i,j,rfl,rfl,c,F.here d q (hg _ _ _ _)⟩
theorem aE1(h:gE X f (Y1 g)):gE X f (rI (λ_ _=>True) g):=λpins s σ H x y v u Q I b c a=>by obtain⟨i,j,d,e,_,q⟩:=a;exact h pins s σ H x y v u Q I b c ⟨i,j,d,e,q⟩
abbrev K6:O2:=DC (λ_ _=>True) λi j=>.int (i-j)
abbrev vE:O2:=DC MX λi j=>.int (i*j)
abbrev IT:O2:=DC aG4 λi j=>.int (i / j)
abbrev oMod:O2:=DC (λ_ j=>0<j) λi j=>.int (i % j)
abbrev OR:O2:=DC aCl λi j=>.int (i^j.toNat)
theorem ZT:gE X (binaryOp .Sub) (bT X.K K6):=vC (aE1 ZN) λ_ _ _ _=>.int
theorem ZW:gE X (binaryOp .Mult) (bT X.K vE):=vC ZP λ_ _ _ _=>.int
theorem UJ:gE X (binaryOp .FloorDiv) (bT X.K IT):=vC UG λ_ _ _ _=>.int
theorem ZX:gE X (binaryOp .Mod) (bT X.K oMod):=vC ZQ λ_ _ _ _=>.int
theorem ZU:gE X (binaryOp .Pow) (bT X.K OR):=vC ZO λ_ _ _ _=>.int
def xC:O1:=λx mh Q=>∃i,x= .int i/\Q (.int (-i)) mh
theorem X8:UnR X (unaryOp .USub) (P0 X.K xC):=by
 intro pins s σ H x v Q I a q;obtain⟨μ,mh,dx,R,b,ix,⟨i,rfl,q⟩,F⟩:=q;cases bU ix;exact X7 pins s σ H _ v Q I a ⟨i,rfl,F.here b q .int⟩
def iT:O2:=λx y mh Q=>match x with
 | .int i=>match y with | .int j=>Q (.int (i+j)) mh | _=>False
 | .str i=>match y with | .str j=>i.length+j.length<=sizeLine/\Q (.str (i++j)) mh | _=>False
 | .tup i=>match y with | .tup j=>i.length+j.length<=sizeLine/\Q (.tup (i++j)) mh | _=>False
 | .ref n=>match y with | .ref m=>∃i j,mh[n]? =some (.lst i)/\mh[m]? =some (.lst j)/\O5 (i++j) mh Q | _=>False
 | _=>False
theorem RG{prog:Program}{w:World}{A:Around}{E:aNn}{s:Shared}{t b:Addr}{g:List Value}{Q:aNn}(ht:IsTup s.heap t ([]:List Value).toArray)(hb:IsTup s.heap b g.toArray)
  (h:Q (.ref b) s):wpAny (model prog w) A (binaryOp .Add (.ref t) (.ref b)) Q E s:=by
 obtain⟨⟨cls,k,data,sl⟩,ho,i,n,hd⟩:=id ht;obtain⟨⟨j,e,data2,f⟩,a,c,l,d⟩:=id hb;simp only at i hd c d;subst i hd c d
 exact concat_meets ⟨_,ho,rfl⟩ ⟨_,a,rfl⟩ noFill_tuple_add seq_tuple_add aMn aMj (aMd _ _)
   (tuple_addW0 t b _ g.toArray n l k e sl f (by simp)) ⟨ho,a,h⟩
theorem ZZ:gE X (binaryOp .Add) (bT X.K iT):=by
 intro pins s σ H x y v u Q I d f q;obtain⟨μ,mh,dx,h,R,c,ix,g,q,F⟩:=q
 cases dx with
 | int i=>cases h with
  | int j=>cases bU ix;cases bU g;exact ZS pins s σ H _ _ v u Q I d f ⟨i,j,rfl,rfl,F.here c q .int⟩
  | _=>exact False.elim q
 | str i=>cases h with
  | str j=>cases jS ix;cases jS g;exact F4 pins s σ H _ _ v u Q I d f ⟨i,j,rfl,rfl,q.1,F.here c q.2 .str⟩
  | _=>exact False.elim q
 | tup i=>cases h with
  | tup j=>
   obtain⟨a,xs,rfl,sa,la⟩:=dY ix;obtain⟨b,k,rfl,sb,lb⟩:=dY g;by_cases hx:xs=[]
   ·subst hx;cases d;cases f;obtain⟨aJ,o,p,_⟩:=I.tuple sa;obtain⟨l,A,r,_⟩:=I.tuple sb;cases o;have hi:i=[]:=by have:=aX la;cases i <;> simp_all
    subst hi;exact RG p r ⟨.ref b,H,I,rfl,F.here c q.2 g⟩
   ·refine UH pins s σ H _ _ v u Q I d f ⟨a,b,xs,k,rfl,rfl,sa,sb,hx,by rw[aX la,aX lb];exact q.1,λe=>?_,λ_=>qI c F (hU la lb) q.2⟩;subst e;have t:j=[]:=by have:=aX lb;cases j <;> simp_all
    subst t;exact F.here c q.2 (by simpa using ix)
  | _=>exact False.elim q
 | ref n=>cases h with
  | ref m=>
   obtain⟨i,j,w,z,q⟩:=q;obtain⟨a,xs,rfl,_,sa,la⟩:=jQ c ix w;obtain⟨b,k,rfl,_,sb,lb⟩:=jQ c g z;exact ZR pins s σ H _ _ v u Q I d f ⟨a,b,xs,k,rfl,rfl,sa,sb,by rw[aX la,aX lb,<-List.length_append];exact q.1,jF c F (hU la lb) q.2⟩
  | _=>exact False.elim q
 | _=>exact False.elim q
def cM:O2:=λx y mh Q=>∃i,y= .int i/\match x with
 | .str z=>z.length<=sizeLine/\∃c,jH z.cps.toList i=some c/\Q (.str ⟨#[c]⟩) mh
 | _=>∃ds d,bC mh x=some ds/\jH ds i=some d/\Q d mh
theorem ixl:X2 X (bT X.K cM):=by
 intro b f pins s σ H x y v u Q I h j q hs;obtain⟨μ,mh,dx,t,R,g,ix,o,⟨i,rfl,q⟩,F⟩:=q;cases bU o
 have go:(∃ds d,bC mh dx=some ds/\jH ds i=some d/\R d mh)->wpAny (model X.prog X.w) X.A (subscriptTail b f v u) (EP X pins σ Q) X.xe s:=λk=>by
  obtain⟨ds,d,p,r,q⟩:=k;obtain⟨a,vs,rfl,sq,l⟩:=zW g ix p;obtain⟨z,m,n⟩:=aB9 l r;rcases sq with sq | sq
  ·exact VG b f pins s σ H _ _ v u Q I h j ⟨a,vs,i,z,rfl,rfl,sq,m,F.here g q n⟩ hs
  ·exact aB4 b f pins s σ H _ _ v u Q I h j ⟨a,vs,i,z,rfl,rfl,sq,m,F.here g q n⟩ hs
 cases dx with
 | str z=>
  obtain⟨hz,c,e,q⟩:=q;cases jS ix;exact aB5 b f pins s σ H _ _ v u Q I h j ⟨z,i,c,rfl,rfl,hz,e,F.here g q .str⟩ hs
 | _=>exact go q
def yV:D->Bool | .bY=>true | _=>false
variable{μ:List Addr}
theorem QJ{d:D}{v:V}(h:Is K μ H d v):decide (v= .bY)=yV d:=by
 cases d with
 | bY=>cases A0 h;rfl
 | bl _=>cases yU h;rfl
 | int _=>cases bU h;rfl
 | str _=>cases jS h;rfl
 | ty _=>unfold Is at h;subst h;rfl
 | tup _=>obtain⟨a,vs,rfl,_,_⟩:=dY h;rfl
 | fl _=>obtain⟨a,vs,rfl,_,_⟩:=oR h;rfl
 | ref _=>obtain⟨a,_,rfl⟩:=mY h;rfl
def vD:O2:=λx y mh Q=>y= .bY/\Q (.bl !yV x) mh
theorem UI:gE X (compareOp .IsNot) (bT X.K vD):=by
 intro pins s σ H x y v u Q I a b q;obtain⟨μ,mh,dx,e,R,c,ix,d,⟨rfl,q⟩,F⟩:=q;cases A0 d;exact UE pins s σ H x _ v u Q I a b ⟨rfl,F.here c q (by rw[QJ ix];exact .bl)⟩
def gK:OA:=λxs mh Q=>∃x,xs=[x]/\match x with
 | .str z=>z.length<=sizeLine/\Q (.int z.length) mh
 | _=>∃ds,bC mh x=some ds/\Q (.int ds.length) mh
variable{vs:List V}
theorem gB{d:D}(h:IsL K μ H [d] vs):∃v,vs=[v]/\Is K μ H d v:=by
 unfold IsL at h;obtain⟨v,r,rfl,i,l⟩:=h;unfold IsL at l;subst l;exact⟨v,rfl,i⟩
theorem JW{d e:D}(h:IsL K μ H [d,e] vs):∃v u,vs=[v,u]/\Is K μ H d v/\Is K μ H e u:=by
 unfold IsL at h;obtain⟨v,r,rfl,i,l⟩:=h;obtain⟨u,rfl,j⟩:=gB l;exact⟨v,u,rfl,i,j⟩
theorem aC1:cB X (.builtin "len") (eG X.K gK):=by
 intro pins s σ H xs us Q I r q;obtain⟨μ,mh,ds,R,b,f,⟨x,rfl,q⟩,F⟩:=q;obtain⟨v,rfl,d⟩:=gB f
 have go:(∃ds,bC mh x=some ds/\R (.int ds.length) mh)->wpAny (model X.prog X.w) X.A (call (.builtin "len") us) (EP X pins σ Q) X.xe s:=λc=>by
  obtain⟨es,e,q⟩:=c;obtain⟨a,vs,rfl,sq,l⟩:=zW b d e;exact BQ pins s σ H _ us Q I r ⟨a,vs,rfl,sq,F.here b q (by rw[aX l];exact .int)⟩
 cases x with
 | str z=>cases jS d;exact BP pins s σ H _ us Q I r ⟨z,rfl,q.1,F.here b q.2 .int⟩
 | _=>exact go q
def RO:OA:=λxs mh Q=>∃i,xs=[.int i]/\Q (.int (if i<0 then -i else i)) mh
theorem aC5:cB X (.builtin "abs") (eG X.K RO):=by
 intro pins s σ H xs us Q I r q;obtain⟨μ,mh,ds,R,a,b,⟨i,rfl,q⟩,F⟩:=q;obtain⟨v,rfl,c⟩:=gB b;cases bU c;exact RH pins s σ H _ us Q I r ⟨i,rfl,F.here a q .int⟩
def E7:OA:=λxs mh Q=>∃i j,xs=[.int i,.int j]/\Q (.int (if j > i then j else i)) mh
def wR:OA:=λxs mh Q=>∃i j,xs=[.int i,.int j]/\Q (.int (if j<i then j else i)) mh
theorem V9(a:X.calm=true):cB X (.builtin "max") (eG X.K E7):=by
 intro pins s σ H xs us Q I r q;obtain⟨μ,mh,ds,R,b,c,⟨i,j,rfl,q⟩,F⟩:=q;obtain⟨v,u,rfl,d,e⟩:=JW c;cases bU d;cases bU e;exact MR a pins s σ H _ us Q I r ⟨i,j,rfl,F.here b q .int⟩
theorem V8(a:X.calm=true):cB X (.builtin "min") (eG X.K wR):=by
 intro pins s σ H xs us Q I r q;obtain⟨μ,mh,ds,R,b,c,⟨i,j,rfl,q⟩,F⟩:=q;obtain⟨v,u,rfl,d,e⟩:=JW c;cases bU d;cases bU e;exact MQ a pins s σ H _ us Q I r ⟨i,j,rfl,F.here b q .int⟩
def aCg:OA:=λxs mh Q=>(∃i,xs=[.int i]/\Q (.int i) mh)\/∃k,xs=[.bl k]/\Q (.int (if k then 1 else 0)) mh
theorem aC3:cB X (.type "int") (eG X.K aCg):=by
 intro pins s σ H xs us Q I r q;obtain⟨μ,mh,ds,R,b,c,q,F⟩:=q
 rcases q with ⟨i,rfl,q⟩ | ⟨k,rfl,q⟩
 ·obtain⟨v,rfl,a⟩:=gB c;cases bU a;exact zF pins s σ H _ us Q I r (.inl ⟨i,rfl,F.here b q .int⟩)
 ·obtain⟨v,rfl,a⟩:=gB c;cases yU a;exact zF pins s σ H _ us Q I r (.inr ⟨k,rfl,F.here b q .int⟩)
theorem YM{pins:List (Addr×Obj)}{σ:L2.St}{s:Shared}(I:Inv X pins σ H s)(h:qU X.K H a vs\/tQ X.K H a vs):vs.length<=sizeLine:=by
 rcases h with h | h
 ·obtain⟨_,_,_,z⟩:=I.list h;exact z
 ·obtain⟨_,_,_,z⟩:=I.tuple h;exact z
def dZ:OA:=λxs mh Q=>∃x ds,xs=[x]/\bC mh x=some ds/\Q (.tup ds) mh
theorem RF:cB X (.type "tuple") (eG X.K dZ):=by
 intro pins s σ H xs us Q I r q;obtain⟨μ,mh,ds,R,b,d,⟨x,es,rfl,e,q⟩,F⟩:=q;obtain⟨v,rfl,c⟩:=gB d
 cases x with
 | tup f=>
  cases e;obtain⟨a,vs,rfl,sq,l⟩:=dY c;exact jU pins s σ H _ us Q I r ⟨a,vs,rfl,.inr ⟨sq,F.here b q c⟩⟩
 | fl f=>
  cases e;obtain⟨a,vs,rfl,sq,l⟩:=oR c;exact jU pins s σ H _ us Q I r ⟨a,vs,rfl,.inl ⟨sq.sq,qI b F l q⟩⟩
 | ref n=>
  obtain⟨a,vs,rfl,sq,l⟩:=rK b c (show mT mh (.ref n)=some es from e);exact jU pins s σ H _ us Q I r ⟨a,vs,rfl,.inl ⟨sq,qI b F l q⟩⟩
 | _=>cases e
end
def XB(mh:MH):D->Option String
 | .bY=>some "NoneType"
 | .bl _=>some "bool"
 | .int _=>some "int"
 | .str _=>some "str"
 | .tup _=>some "tuple"
 | .fl _=>some "list"
 | .ref n=>match mh[n]? with | some (.lst _)=>some "list" | _=>none
 | .ty _=>none
def rC(t c:String):Bool:=t==c || (t== "bool" && c== "int")
def bJ:List String:=["int","bool","str","tuple","list"]
theorem XU:∀t∈ "NoneType"::bJ,∀c∈bJ,PySem.W.kitOne K (.type t) (.type c)=some (rC t c):=by
 intro t ht c a;simp only[bJ,List.mem_cons,List.not_mem_nil,or_false]at ht a;rcases ht with rfl | rfl | rfl | rfl | rfl | rfl <;> rcases a with rfl | rfl | rfl | rfl | rfl <;> kernel_rfl
theorem JM{K:aNm}{t:String}(ht:t∈ "NoneType"::bJ):∀cs:List String,(∀c∈cs,c∈bJ)->PySem.W.kitAny K (.type t) (cs.map Value.type)=some (cs.any (rC t))
 | [],_=>rfl
 | c::cs,h=>by
  have e:=XU (K:=K) t ht c (h c aJs);have a:=JM (K:=K) ht cs λx hx=>h x (aJt _ hx);simp only[List.map_cons,PySem.W.kitAny,e,List.any_cons]
  cases rC t c with
  | true=>rfl
  | false=>simpa using a
def wU:OA:=λxs mh Q=>∃x c t,xs=[x,c]/\XB mh x=some t/\
 ((∃T,c= .ty T/\T∈bJ/\Q (.bl (rC t T)) mh)\/∃a:List String,c= .tup (a.map .ty)/\(∀T∈a,T∈bJ)/\Q (.bl (a.any (rC t))) mh)
section
variable {X:Cx}
theorem aAy{pins:List (Addr×Obj)}{σ:L2.St}{s:Shared}{μ:List Addr}{mh:MH}{d:D}{v:V}{u:Value}{t:String}(I:Inv X pins σ H s)(R:Rep X.K μ mh H)(h:Is X.K μ H d v)(r:RelV v u)(e:XB mh d=some t):
  t∈ "NoneType"::bJ/\u≠ .builtin "__main__.__loader__#opaque"/\∃P,PySem.W.KitX X.K u (.type t) P/\P s.heap:=by
 have i:∀{a:Addr} {vs:List V},qU X.K H a vs->∃P,PySem.W.KitX X.K (.ref a) (.type "list") P/\P s.heap:=λ{a vs} sq=>by
  obtain⟨aJ,_,⟨o,n,c,g,_⟩,_⟩:=I.list sq;exact⟨_,PySem.W.kitx_list,⟨o,c,g⟩⟩
 cases d with
 | bY=>cases A0 h;cases r;cases e;exact⟨by simp[bJ],nofun,_,PySem.W.kitx_none,trivial⟩
 | bl b=>cases yU h;cases r;cases e;exact⟨by simp[bJ],nofun,_,PySem.W.kitx_bool,trivial⟩
 | int b=>cases bU h;obtain⟨j,rfl⟩:=r;cases e;exact⟨by simp[bJ],nofun,_,PySem.W.kitx_int,trivial⟩
 | str b=>cases jS h;obtain⟨j,rfl⟩:=r;cases e;exact⟨by simp[bJ],nofun,_,PySem.W.kitx_str,trivial⟩
 | ty b=>cases e
 | tup ds=>
  obtain⟨a,vs,rfl,sq,_⟩:=dY h;cases r;cases e;obtain⟨aJ,_,⟨o,c,g,_⟩,_⟩:=I.tuple sq;exact⟨by simp[bJ],nofun,_,PySem.W.kitx_tuple,⟨o,c,g⟩⟩
 | fl ds=>
  obtain⟨a,vs,rfl,sq,_⟩:=oR h;cases r;cases e;exact⟨by simp[bJ],nofun,i sq.sq⟩
 | ref n=>
  obtain⟨a,q,rfl⟩:=mY h;cases r;simp only[XB]at e
  cases o:mh[n]? with
  | none=>rw[o]at e;cases e
  | some ob=>
   cases ob with
   | lst es=>
    rw[o]at e;cases e;obtain⟨vs,k,l⟩:=R.obj n a _ q o;exact⟨by simp[bJ],nofun,i (.of k)⟩
   | dic t kvs=>rw[o]at e;cases e
   | fdc t kvs ob=>rw[o]at e;cases e
   | oth ds f=>rw[o]at e;cases e
theorem JS{K:aNm}{μ:List Addr}{H:Hp}:∀{a:List String} {vs:List V} {us:List Value},IsL K μ H (a.map .ty) vs->Vals vs us->us=a.map Value.type
 | [],vs,us,h,r=>by simp only[List.map_nil]at h;unfold IsL at h;subst h;cases r;rfl
 | T::a,vs,us,h,r=>by
  simp only[List.map_cons]at h;unfold IsL at h;obtain⟨v,e,rfl,i,l⟩:=h
  cases r with
  | cons c d=>
   unfold Is at i;subst i;have b :_=Value.type T:=c;subst b;rw[JS l d];rfl
theorem aC2:cB X (.builtin "isinstance") (eG X.K wU):=by
 intro pins s σ H xs us Q I r q;obtain⟨μ,mh,ds,R,e,p,⟨x,c,t,rfl,u,q⟩,F⟩:=q;obtain⟨v,w,rfl,y,f⟩:=JW p
 cases r with
 | cons z d=>
  cases d with
  | cons d A=>
   cases A;obtain⟨hm,hx,P,i,j⟩:=aAy I e y z u
   rcases q with ⟨T,rfl,g,q⟩ | ⟨B,rfl,g,q⟩
   ·unfold Is at f;subst f;have b :_=Value.type T:=d;subst b
    exact PySem.W.kia_one i I.kIn j (XU t hm T g) hx λh=>⟨.bl _,H,I.tok h,rfl,F.here e q .bl⟩
   ·obtain⟨a,vs,rfl,sq,l⟩:=dY f;have b :_=Value.ref a:=d;subst b;obtain⟨aJ,C,⟨o,D,k,n,m⟩,_⟩:=I.tuple sq;have E:=JS l C;obtain⟨oc,od,G,osl⟩:=o;simp only at k m;subst k m
    exact PySem.W.kia_tup i I.kIn j D (by rw[E];exact JM hm B g) hx λh=>⟨.bl _,H,I.tok h,rfl,F.here e q .bl⟩
def RN:OA:=λxs mh Q=>∃(x:D) (bs:List Bool),xs=[x]/\mT mh x=some (bs.map .bl)/\Q (.bl (bs.all id)) mh
theorem JV{K:aNm}{μ:List Addr}{H:Hp}:∀{bs:List Bool} {vs:List V} {us:List Value},IsL K μ H (bs.map .bl) vs->Vals vs us->us=bs.map Value.bool
 | [],vs,us,h,r=>by simp only[List.map_nil]at h;unfold IsL at h;subst h;cases r;rfl
 | T::Ts,vs,us,h,r=>by
  simp only[List.map_cons]at h;unfold IsL at h;obtain⟨v,d,rfl,i,l⟩:=h
  cases r with
  | cons b c=>
   cases yU i;have a :_=Value.bool T:=b;subst a;rw[JV l c];rfl
theorem range_all:∀bs:List Bool,(List.range bs.length).all (λi=>bs.getD i true)=bs.all id
 | []=>rfl
 | b::bs=>by
  have:=range_all bs;simp only[List.length_cons,List.range_succ_eq_map,List.all_cons,List.all_map];simp only[Function.comp_def,List.getD_cons_zero,List.getD_cons_succ,this,id]
theorem yT{prog:Program}{w:World}{A:Around}{E:aNn}{s:Shared}{l:Addr}{items:Array Value}{Q:aNn}(b:s.heap.IsList l items)
  (h:∀a:Shared,a={s with heap:=s.heap.push {cls:= .type "list_iterator",data:= .fields #[.ref l,.int 0 0]}}->
   (a.heap.IsListIter s.heap.objs.size l 0/\a.heap.IsList l items)->l≠s.heap.objs.size->Q (.ref s.heap.objs.size) a):
  wpAny (model prog w) A (pyIter (.ref l)) Q E s:=by
 have c:l<s.heap.objs.size:=by obtain⟨_,e,_⟩:=b;exact aJy e
 exact aMq b (h _ rfl ⟨⟨_,aJv _ rfl,rfl,rfl⟩,b.push _⟩ (aK2 c))
theorem aC4(j:X.calm=true):cB X (.builtin "all") (eG X.K RN):=by
 intro pins s σ H xs us Q I r q;obtain⟨μ,mh,ds,R,f,k,⟨x,bs,rfl,e,q⟩,F⟩:=q;obtain⟨v,rfl,m⟩:=gB k;obtain⟨a,vs,rfl,sq,l⟩:=rK f m e;obtain⟨u,rfl,n⟩:=vals1 r;cases n;obtain⟨aJ,p,t,hz⟩:=I.list sq;have w:=JV l p;subst w;refine call_all_walk (yT t.isList λg y st d=>?_);subst y;refine⟨_,_,_,_,_,_,λi=>bs.getD i true,rfl,Walks.list (A:=X.A.in1) (I.ok.hd j) _ a d (bs.map Value.bool).toArray,st,?_,λh' h z=>?_⟩
 ·intro i v E G J B C;have c :(bs.map Value.bool).toArray[i]? =some v:=B;rw[List.getElem?_toArray,List.getElem?_map]at c;obtain⟨b,hb,rfl⟩:=aKr.mp c;have:bs.getD i true=b:=by rw[List.getD_eq_getElem?_getD,hb];rfl
  refine aLy ?_;rw[<-this];exact C
 ·have L:Inv X pins σ H {s with heap:=s.heap.push {cls:= .type "list_iterator",data:= .fields #[.ref a,.int 0 0]}}:=I.kept (t' :=s.toks) λb o e=>aJp _ e;have D:Inv X pins σ H {s with heap:=h',toks:=h}:=I.kept (t' :=h) λb o e=>z b o (by simp;exact aK2 (aJy e)) (aJp _ e);refine⟨.bl (bs.all id),H,D,?_,F.here f q .bl⟩;have:=range_all bs;simp only[List.size_toArray,List.length_map,this];rfl
end
mutual
def Vl(h:Heap):D->Value->Prop
 | .bY,u=>u= .none
 | .bl b,u=>u= .bool b
 | .int i,u=>∃t,u= .int i t
 | .str x,u=>∃t,u= .str x t
 | .ty _,_=>False
 | .tup ds,u=>∃a us,u= .ref a/\IsTup h a us.toArray/\cD h ds us
 | .fl ds,u=>∃a us,u= .ref a/\h.IsList a us.toArray/\cD h ds us
 | .ref _,_=>False
def cD(h:Heap):List D->List Value->Prop
 | [],us=>us=[]
 | d::ds,us=>∃u r,us=u::r/\Vl h d u/\cD h ds r
end
mutual
def bare:D->Bool
 | .ty _=>false
 | .ref _=>false
 | .tup ds=>cI ds
 | .fl ds=>cI ds
 | _=>true
def cI:List D->Bool
 | []=>true
 | d::ds=>bare d && cI ds
end
mutual
def deep:D->Nat
 | .tup ds=>bX ds+1
 | .fl ds=>bX ds+1
 | _=>0
def bX:List D->Nat
 | []=>0
 | d::ds=>max (deep d) (bX ds)
end
mutual
def d5:D->D->Bool
 | .bY,y=>yV y
 | .bl a,y=>match y with | .bl b=>a==b | .int j=>(if a then 1 else 0)==j | _=>false
 | .int i,y=>match y with | .int j=>i==j | .bl b=>i==(if b then 1 else 0) | _=>false
 | .str a,y=>match y with | .str b=>a==b | _=>false
 | .tup as,y=>match y with | .tup bs=>cS as bs | _=>false
 | .fl as,y=>match y with | .fl bs=>cS as bs | _=>false
 | .ref _,_=>false
 | .ty _,_=>false
def cS:List D->List D->Bool
 | [],y=>y.isEmpty
 | a::as,y=>match y with | b::bs=>d5 a b && cS as bs | []=>false
end
theorem cH:∀(as bs:List D),cS as bs=((List.range (min as.length bs.length)).all (λj=>d5 (as.getD j .bY) (bs.getD j .bY)) && as.length==bs.length)
 | [],[]=>by simp[cS]
 | [],b::bs=>by simp[cS]
 | a::as,[]=>by simp[cS]
 | a::as,b::bs=>by
  have c:=cH as bs;simp only[cS,List.length_cons,Nat.succ_min_succ,List.range_succ_eq_map,List.all_cons,List.all_map,Function.comp_def,List.getD_cons_zero,List.getD_cons_succ,c];cases d5 a b <;> simp
theorem bB{h:Heap}:∀{ds:List D} {us:List Value},cD h ds us->us.length=ds.length
 | [],us,q=>by unfold cD at q;subst q;rfl
 | d::ds,us,q=>by unfold cD at q;obtain⟨u,r,rfl,_,l⟩:=q;simp[bB l]
theorem dP{h:Heap}:∀{ds:List D} {us:List Value} {j:Nat} {u:Value},cD h ds us->us[j]? =some u->Vl h (ds.getD j .bY) u
 | [],us,j,u,q,e=>by unfold cD at q;subst q;simp at e
 | d::ds,us,j,u,q,e=>by
  unfold cD at q;obtain⟨w,r,rfl,i,l⟩:=q
  cases j with
  | zero=>simp at e;subst e;exact i
  | succ j=>exact dP (j:=j) l (by simpa using e)
theorem fO:∀(ds:List D) (j:Nat),deep (ds.getD j .bY)<=bX ds
 | [],j=>by simp[deep]
 | d::ds,0=>by simp[bX];lia
 | d::ds,j+1=>by have:=fO ds j;simp[bX]at*;lia
variable{h:Heap}
theorem tZ{x y:Array Value}(d:h.IsList a x)(hb:IsTup h a y):False:=by
 obtain⟨o,ho,e,_⟩:=d;obtain⟨f,b,c,_⟩:=hb;rw[ho]at b;cases b;rw[e]at c;exact absurd c (by simp)
mutual
theorem zN{h:Heap}:∀{d e:D} {u:Value},Vl h d u->Vl h e u->d5 d e=true
 | .bY,e,u,p,q=>by
  unfold Vl at p;subst p
  cases e <;> unfold Vl at q <;> first | rfl | (cases q;done) | (obtain⟨_,q⟩:=q;cases q;done) | (obtain⟨_,_,q,_⟩:=q;cases q;done)
 | .bl a,e,u,p,q=>by
  unfold Vl at p;subst p
  cases e <;> unfold Vl at q <;> first | (subst q;simp[d5];done) | (cases q;simp[d5];done) | (cases q;done) | (obtain⟨_,q⟩:=q;cases q;done) | (obtain⟨_,_,q,_⟩:=q;cases q;done)
 | .int a,e,u,p,q=>by
  unfold Vl at p;obtain⟨t,rfl⟩:=p
  cases e <;> unfold Vl at q <;> first | (cases q;done) | (obtain⟨_,q⟩:=q;cases q;simp[d5];done) | (obtain⟨_,q⟩:=q;cases q;done) | (obtain⟨_,_,q,_⟩:=q;cases q;done)
 | .str a,e,u,p,q=>by
  unfold Vl at p;obtain⟨t,rfl⟩:=p
  cases e <;> unfold Vl at q <;> first | (cases q;done) | (obtain⟨_,q⟩:=q;cases q;simp[d5];done) | (obtain⟨_,q⟩:=q;cases q;done) | (obtain⟨_,_,q,_⟩:=q;cases q;done)
 | .ty _,e,u,p,q=>by unfold Vl at p;exact p.elim
 | .ref _,e,u,p,q=>by unfold Vl at p;exact p.elim
 | .tup as,e,u,p,q=>by
  unfold Vl at p;obtain⟨a,us,rfl,ht,l⟩:=p
  cases e with
  | tup bs=>
   unfold Vl at q;obtain⟨b,f,e,c,g⟩:=q;cases e;obtain⟨o,k,_,n,m⟩:=ht;obtain⟨v,i,_,w,j⟩:=c;rw[k]at i;cases i;rw[m]at j;injection j with r;have s:us=f:=by simpa using aKo Array.toList r
   subst s;show cS as bs=true;exact uL l g
  | fl bs=>
   unfold Vl at q;obtain⟨b,f,e,c,g⟩:=q;cases e;exact(tZ c ht).elim
  | _=>unfold Vl at q;first | (cases q;done) | (obtain⟨_,q⟩:=q;cases q;done)
 | .fl as,e,u,p,q=>by
  unfold Vl at p;obtain⟨a,us,rfl,ht,l⟩:=p
  cases e with
  | fl bs=>
   unfold Vl at q;obtain⟨b,f,e,c,g⟩:=q;cases e;obtain⟨o,k,_,n,m⟩:=ht;obtain⟨v,i,_,w,j⟩:=c;rw[k]at i;cases i;rw[m]at j;injection j with r;have s:us=f:=by simpa using aKo Array.toList r
   subst s;show cS as bs=true;exact uL l g
  | tup bs=>
   unfold Vl at q;obtain⟨b,f,e,c,g⟩:=q;cases e;exact(tZ ht c).elim
  | _=>unfold Vl at q;first | (cases q;done) | (obtain⟨_,q⟩:=q;cases q;done)
theorem uL{h:Heap}:∀{ds es:List D} {us:List Value},cD h ds us->cD h es us->cS ds es=true
 | [],es,us,p,q=>by unfold cD at p;subst p;cases es with | nil=>rfl | cons=>unfold cD at q;obtain⟨_,_,e,_⟩:=q;cases e
 | d::ds,es,us,p,q=>by
  unfold cD at p;obtain⟨u,r,rfl,i,l⟩:=p
  cases es with
  | nil=>unfold cD at q;cases q
  | cons e es=>
   unfold cD at q;obtain⟨f,g,a,b,c⟩:=q;cases a;simp only[cS,zN i b,uL l c,Bool.and_self]
end
open SeqAt in
theorem jT{s:Shared}:∀(k:Nat) {A:Around} {d e:D} {u v:Value},deep d<=k->A.units+k+1<cLine->Vl s.heap d u->Vl s.heap e v->EqAt A s u v (d5 d e)
 | k,A,.bY,e,u,v,hk,hu,p,q=>by
  unfold Vl at p;subst p;cases e <;> unfold Vl at q
  ·subst q;exact EqAt.same _
  ·subst q;exact EqAt.none_bool _
  ·obtain⟨t,rfl⟩:=q;exact EqAt.none_int _ t
  ·obtain⟨t,rfl⟩:=q;exact EqAt.none_str _ t
  ·exact q.elim
  ·obtain⟨a,us,rfl,ht,_⟩:=q;exact EqAt.none_tuple ht (by lia)
  ·obtain⟨a,us,rfl,ht,_⟩:=q;exact EqAt.none_list ht (by lia)
  ·exact q.elim
 | k,A,.bl x,e,u,v,hk,hu,p,q=>by
  unfold Vl at p;subst p;cases e <;> unfold Vl at q
  ·subst q;exact EqAt.bool_none _
  ·subst q;exact EqAt.bool_bool _ _
  ·obtain⟨t,rfl⟩:=q;exact EqAt.bool_int _ _ t
  ·obtain⟨t,rfl⟩:=q;exact EqAt.bool_str _ _ t
  ·exact q.elim
  ·obtain⟨a,us,rfl,ht,_⟩:=q;exact EqAt.bool_tuple _ ht (by lia)
  ·obtain⟨a,us,rfl,ht,_⟩:=q;exact EqAt.bool_list _ ht (by lia)
  ·exact q.elim
 | k,A,.int x,e,u,v,hk,hu,p,q=>by
  unfold Vl at p;obtain⟨w,rfl⟩:=p;cases e <;> unfold Vl at q
  ·subst q;exact EqAt.int_none _ _
  ·subst q;exact EqAt.int_bool _ _ _
  ·obtain⟨t,rfl⟩:=q;exact EqAt.int_int _ _ _ t
  ·obtain⟨t,rfl⟩:=q;exact EqAt.int_str _ _ _ t
  ·exact q.elim
  ·obtain⟨a,us,rfl,ht,_⟩:=q;exact EqAt.int_tuple _ _ ht (by lia)
  ·obtain⟨a,us,rfl,ht,_⟩:=q;exact EqAt.int_list _ _ ht (by lia)
  ·exact q.elim
 | k,A,.str x,e,u,v,hk,hu,p,q=>by
  unfold Vl at p;obtain⟨w,rfl⟩:=p;cases e <;> unfold Vl at q
  ·subst q;exact EqAt.str_none _ _
  ·subst q;exact EqAt.str_bool _ _ _
  ·obtain⟨t,rfl⟩:=q;exact EqAt.str_int _ _ _ t
  ·obtain⟨t,rfl⟩:=q;exact EqAt.str_str _ _ _ t
  ·exact q.elim
  ·obtain⟨a,us,rfl,ht,_⟩:=q;exact EqAt.str_tuple _ _ ht (by lia)
  ·obtain⟨a,us,rfl,ht,_⟩:=q;exact EqAt.str_list _ _ ht (by lia)
  ·exact q.elim
 | k,A,.ty x,e,u,v,hk,hu,p,q=>by unfold Vl at p;exact p.elim
 | k,A,.ref x,e,u,v,hk,hu,p,q=>by unfold Vl at p;exact p.elim
 | k,A,.tup as,e,u,v,hk,hu,p,q=>by
  have o:=p;unfold Vl at p;obtain⟨a,us,rfl,ht,l⟩:=p
  cases e with
  | tup bs=>
   by_cases f:Value.ref a=v
   ·subst f;rw[zN o q];exact EqAt.same _
   unfold Vl at q;obtain⟨b,n,rfl,c,g⟩:=q;have h:a≠b:=λz=>f (by rw[z])
   cases k with
   | zero=>simp[deep]at hk
   | succ k=>
    refine EqAt.of_refs h ?_;have r:=RcAt.tuples (e:=λj=>d5 (as.getD j .bY) (bs.getD j .bY)) ht c (by lia) (λj i m=>jT k (A:=A.in1) (aKe (fO as j) (by simp[deep]at hk;exact hk)) (by show A.units+1+k+1<_;lia) (dP l (by simp at i;simp[i])) (dP g (by simp at m;simp[m])));show RcAt A s _ _ (cS as bs);rw[cH,<-bB l,<-bB g];simpa using r
  | bY=>unfold Vl at q;subst q;exact EqAt.tuple_none ht (by lia)
  | bl x=>unfold Vl at q;subst q;exact EqAt.tuple_bool _ ht (by lia)
  | int x=>unfold Vl at q;obtain⟨t,rfl⟩:=q;exact EqAt.tuple_int _ _ ht (by lia)
  | str x=>unfold Vl at q;obtain⟨t,rfl⟩:=q;exact EqAt.tuple_str _ _ ht (by lia)
  | fl bs=>unfold Vl at q;obtain⟨b,n,rfl,c,g⟩:=q;exact EqAt.tuple_list ht c (by lia)
  | ty x=>unfold Vl at q;exact q.elim
  | ref x=>unfold Vl at q;exact q.elim
 | k,A,.fl as,e,u,v,hk,hu,p,q=>by
  have o:=p;unfold Vl at p;obtain⟨a,us,rfl,ht,l⟩:=p
  cases e with
  | fl bs=>
   by_cases f:Value.ref a=v
   ·subst f;rw[zN o q];exact EqAt.same _
   unfold Vl at q;obtain⟨b,n,rfl,c,g⟩:=q;have h:a≠b:=λz=>f (by rw[z])
   cases k with
   | zero=>simp[deep]at hk
   | succ k=>
    refine EqAt.of_refs h ?_;show RcAt A s _ _ (cS as bs);by_cases hsz:us.length=n.length
    ·have r:=RcAt.lists (e:=λj=>d5 (as.getD j .bY) (bs.getD j .bY)) ht c (by simpa using hsz) (by lia) (λj i m=>jT k (A:=A.in1) (aKe (fO as j) (by simp[deep]at hk;exact hk)) (by show A.units+1+k+1<_;lia) (dP l (by simp at i;simp[i])) (dP g (by simp at m;simp[m])));rw[cH,<-bB l,<-bB g,<-hsz,Nat.min_self,beq_self_eq_true,Bool.and_true];simpa using r
    ·have r:=RcAt.lists_lengths (A:=A) ht c (by simpa using hsz) (by lia);rw[cH,<-bB l,<-bB g,beq_eq_false_iff_ne.mpr hsz,Bool.and_false];exact r
  | bY=>unfold Vl at q;subst q;exact EqAt.list_none ht (by lia)
  | bl x=>unfold Vl at q;subst q;exact EqAt.list_bool _ ht (by lia)
  | int x=>unfold Vl at q;obtain⟨t,rfl⟩:=q;exact EqAt.list_int _ _ ht (by lia)
  | str x=>unfold Vl at q;obtain⟨t,rfl⟩:=q;exact EqAt.list_str _ _ ht (by lia)
  | tup bs=>unfold Vl at q;obtain⟨b,n,rfl,c,g⟩:=q;exact EqAt.list_tuple ht c (by lia)
  | ty x=>unfold Vl at q;exact q.elim
  | ref x=>unfold Vl at q;exact q.elim
open SeqAt in
theorem N5{s:Shared}{A:Around}{d e:D}{u v:Value}(k:deep d<=40)(n:A.units+64<cLine)(p:Vl s.heap d u)(q:Vl s.heap e v):RcAt A s u v (d5 d e):=by
 cases d with
 | bY=>
  unfold Vl at p;subst p;cases e <;> unfold Vl at q
  ·subst q;exact RcAt.none_none
  ·subst q;exact RcAt.none_bool _
  ·obtain⟨t,rfl⟩:=q;exact RcAt.none_int _ _
  ·obtain⟨t,rfl⟩:=q;exact RcAt.none_str _ _
  ·exact q.elim
  ·obtain⟨a,us,rfl,ht,_⟩:=q;exact RcAt.none_tuple ht (by lia)
  ·obtain⟨a,us,rfl,ht,_⟩:=q;exact RcAt.none_list ht (by lia)
  ·exact q.elim
 | bl x=>
  unfold Vl at p;subst p;cases e <;> unfold Vl at q
  ·subst q;exact RcAt.bool_none _
  ·subst q;exact RcAt.bool_bool _ _
  ·obtain⟨t,rfl⟩:=q;exact RcAt.bool_int _ _ _
  ·obtain⟨t,rfl⟩:=q;exact RcAt.bool_str _ _ _
  ·exact q.elim
  ·obtain⟨a,us,rfl,ht,_⟩:=q;exact RcAt.bool_tuple _ ht (by lia)
  ·obtain⟨a,us,rfl,ht,_⟩:=q;exact RcAt.bool_list _ ht (by lia)
  ·exact q.elim
 | int x=>
  unfold Vl at p;obtain⟨m,rfl⟩:=p;cases e <;> unfold Vl at q
  ·subst q;exact RcAt.int_none _ _
  ·subst q;exact RcAt.int_bool _ _ _
  ·obtain⟨t,rfl⟩:=q;exact RcAt.int_int _ _ _ _
  ·obtain⟨t,rfl⟩:=q;exact RcAt.int_str _ _ _ _
  ·exact q.elim
  ·obtain⟨a,us,rfl,ht,_⟩:=q;exact RcAt.int_tuple _ _ ht (by lia)
  ·obtain⟨a,us,rfl,ht,_⟩:=q;exact RcAt.int_list _ _ ht (by lia)
  ·exact q.elim
 | str x=>
  unfold Vl at p;obtain⟨m,rfl⟩:=p;cases e <;> unfold Vl at q
  ·subst q;exact RcAt.str_none _ _
  ·subst q;exact RcAt.str_bool _ _ _
  ·obtain⟨t,rfl⟩:=q;exact RcAt.str_int _ _ _ _
  ·obtain⟨t,rfl⟩:=q;exact RcAt.str_str _ _ _ _
  ·exact q.elim
  ·obtain⟨a,us,rfl,ht,_⟩:=q;exact RcAt.str_tuple _ _ ht (by lia)
  ·obtain⟨a,us,rfl,ht,_⟩:=q;exact RcAt.str_list _ _ ht (by lia)
  ·exact q.elim
 | ty x=>unfold Vl at p;exact p.elim
 | ref x=>unfold Vl at p;exact p.elim
 | tup as=>
  unfold Vl at p;obtain⟨a,us,rfl,ht,l⟩:=p
  cases e with
  | tup bs=>
   unfold Vl at q;obtain⟨b,i,rfl,c,f⟩:=q;have r:=RcAt.tuples (e:=λj=>d5 (as.getD j .bY) (bs.getD j .bY)) ht c (by lia) (λj g h=>jT 40 (A:=A.in1) (aKe (fO as j) (by simp[deep]at k;lia)) (by show A.units+1+40+1<_;lia) (dP l (by simp at g;simp[g])) (dP f (by simp at h;simp[h])));show RcAt A s _ _ (cS as bs);rw[cH,<-bB l,<-bB f];simpa using r
  | fl bs=>unfold Vl at q;obtain⟨b,i,rfl,c,f⟩:=q;exact RcAt.tuple_list ht c (by lia)
  | bY=>unfold Vl at q;subst q;exact RcAt.tuple_none ht (by lia)
  | bl x=>unfold Vl at q;subst q;exact RcAt.tuple_bool _ ht (by lia)
  | int x=>unfold Vl at q;obtain⟨t,rfl⟩:=q;exact RcAt.tuple_int _ _ ht (by lia)
  | str x=>unfold Vl at q;obtain⟨t,rfl⟩:=q;exact RcAt.tuple_str _ _ ht (by lia)
  | ty x=>unfold Vl at q;exact q.elim
  | ref x=>unfold Vl at q;exact q.elim
 | fl as=>
  unfold Vl at p;obtain⟨a,us,rfl,ht,l⟩:=p
  cases e with
  | fl bs=>
   unfold Vl at q;obtain⟨b,i,rfl,c,f⟩:=q;show RcAt A s _ _ (cS as bs);by_cases hsz:us.length=i.length
   ·have r:=RcAt.lists (e:=λj=>d5 (as.getD j .bY) (bs.getD j .bY)) ht c (by simpa using hsz) (by lia) (λj g h=>jT 40 (A:=A.in1) (aKe (fO as j) (by simp[deep]at k;lia)) (by show A.units+1+40+1<_;lia) (dP l (by simp at g;simp[g])) (dP f (by simp at h;simp[h])));rw[cH,<-bB l,<-bB f,<-hsz,Nat.min_self,beq_self_eq_true,Bool.and_true];simpa using r
   ·have r:=RcAt.lists_lengths (A:=A) ht c (by simpa using hsz) (by lia);rw[cH,<-bB l,<-bB f,beq_eq_false_iff_ne.mpr hsz,Bool.and_false];exact r
  | tup bs=>unfold Vl at q;obtain⟨b,i,rfl,c,f⟩:=q;exact RcAt.list_tuple ht c (by lia)
  | bY=>unfold Vl at q;subst q;exact RcAt.list_none ht (by lia)
  | bl x=>unfold Vl at q;subst q;exact RcAt.list_bool _ ht (by lia)
  | int x=>unfold Vl at q;obtain⟨t,rfl⟩:=q;exact RcAt.list_int _ _ ht (by lia)
  | str x=>unfold Vl at q;obtain⟨t,rfl⟩:=q;exact RcAt.list_str _ _ ht (by lia)
  | ty x=>unfold Vl at q;exact q.elim
  | ref x=>unfold Vl at q;exact q.elim
open SeqAt in
theorem C7{s:Shared}{A:Around}{d e:D}{u v:Value}(k:deep d<=40)(n:A.units+64<cLine)(p:Vl s.heap d u)(q:Vl s.heap e v):RcNeAt A s u v (!d5 d e):=by
 cases d with
 | bY=>
  unfold Vl at p;subst p;cases e <;> unfold Vl at q
  ·subst q;exact RcNeAt.none_none
  ·subst q;exact RcNeAt.none_bool _
  ·obtain⟨t,rfl⟩:=q;exact RcNeAt.none_int _ _
  ·obtain⟨t,rfl⟩:=q;exact RcNeAt.none_str _ _
  ·exact q.elim
  ·obtain⟨a,us,rfl,ht,_⟩:=q;exact RcNeAt.none_tuple ht (by lia)
  ·obtain⟨a,us,rfl,ht,_⟩:=q;exact RcNeAt.none_list ht (by lia)
  ·exact q.elim
 | bl x=>
  unfold Vl at p;subst p;cases e <;> unfold Vl at q
  ·subst q;exact RcNeAt.bool_none _
  ·subst q;exact RcNeAt.bool_bool _ _
  ·obtain⟨t,rfl⟩:=q;exact RcNeAt.bool_int _ _ _
  ·obtain⟨t,rfl⟩:=q;exact RcNeAt.bool_str _ _ _
  ·exact q.elim
  ·obtain⟨a,us,rfl,ht,_⟩:=q;exact RcNeAt.bool_tuple _ ht (by lia)
  ·obtain⟨a,us,rfl,ht,_⟩:=q;exact RcNeAt.bool_list _ ht (by lia)
  ·exact q.elim
 | int x=>
  unfold Vl at p;obtain⟨m,rfl⟩:=p;cases e <;> unfold Vl at q
  ·subst q;exact RcNeAt.int_none _ _
  ·subst q;exact RcNeAt.int_bool _ _ _
  ·obtain⟨t,rfl⟩:=q;exact RcNeAt.int_int _ _ _ _
  ·obtain⟨t,rfl⟩:=q;exact RcNeAt.int_str _ _ _ _
  ·exact q.elim
  ·obtain⟨a,us,rfl,ht,_⟩:=q;exact RcNeAt.int_tuple _ _ ht (by lia)
  ·obtain⟨a,us,rfl,ht,_⟩:=q;exact RcNeAt.int_list _ _ ht (by lia)
  ·exact q.elim
 | str x=>
  unfold Vl at p;obtain⟨m,rfl⟩:=p;cases e <;> unfold Vl at q
  ·subst q;exact RcNeAt.str_none _ _
  ·subst q;exact RcNeAt.str_bool _ _ _
  ·obtain⟨t,rfl⟩:=q;exact RcNeAt.str_int _ _ _ _
  ·obtain⟨t,rfl⟩:=q;exact RcNeAt.str_str _ _ _ _
  ·exact q.elim
  ·obtain⟨a,us,rfl,ht,_⟩:=q;exact RcNeAt.str_tuple _ _ ht (by lia)
  ·obtain⟨a,us,rfl,ht,_⟩:=q;exact RcNeAt.str_list _ _ ht (by lia)
  ·exact q.elim
 | ty x=>unfold Vl at p;exact p.elim
 | ref x=>unfold Vl at p;exact p.elim
 | tup as=>
  unfold Vl at p;obtain⟨a,us,rfl,ht,l⟩:=p
  cases e with
  | tup bs=>
   unfold Vl at q;obtain⟨b,i,rfl,c,f⟩:=q;have r:=RcNeAt.tuples (e:=λj=>d5 (as.getD j .bY) (bs.getD j .bY)) ht c (by lia) (λj g h=>jT 40 (A:=A.in1) (aKe (fO as j) (by simp[deep]at k;lia)) (by show A.units+1+40+1<_;lia) (dP l (by simp at g;simp[g])) (dP f (by simp at h;simp[h])));show RcNeAt A s _ _ (!cS as bs);rw[cH,<-bB l,<-bB f];simpa using r
  | fl bs=>unfold Vl at q;obtain⟨b,i,rfl,c,f⟩:=q;exact RcNeAt.tuple_list ht c (by lia)
  | bY=>unfold Vl at q;subst q;exact RcNeAt.tuple_none ht (by lia)
  | bl x=>unfold Vl at q;subst q;exact RcNeAt.tuple_bool _ ht (by lia)
  | int x=>unfold Vl at q;obtain⟨t,rfl⟩:=q;exact RcNeAt.tuple_int _ _ ht (by lia)
  | str x=>unfold Vl at q;obtain⟨t,rfl⟩:=q;exact RcNeAt.tuple_str _ _ ht (by lia)
  | ty x=>unfold Vl at q;exact q.elim
  | ref x=>unfold Vl at q;exact q.elim
 | fl as=>
  unfold Vl at p;obtain⟨a,us,rfl,ht,l⟩:=p
  cases e with
  | fl bs=>
   unfold Vl at q;obtain⟨b,i,rfl,c,f⟩:=q;show RcNeAt A s _ _ (!cS as bs);by_cases hsz:us.length=i.length
   ·have r:=RcNeAt.lists (e:=λj=>d5 (as.getD j .bY) (bs.getD j .bY)) ht c (by simpa using hsz) (by lia) (λj g h=>jT 40 (A:=A.in1) (aKe (fO as j) (by simp[deep]at k;lia)) (by show A.units+1+40+1<_;lia) (dP l (by simp at g;simp[g])) (dP f (by simp at h;simp[h])));rw[cH,<-bB l,<-bB f,<-hsz,Nat.min_self,beq_self_eq_true,Bool.and_true];simpa using r
   ·have r:=RcNeAt.lists_lengths (A:=A) ht c (by simpa using hsz) (by lia);rw[cH,<-bB l,<-bB f,beq_eq_false_iff_ne.mpr hsz,Bool.and_false];exact r
  | tup bs=>unfold Vl at q;obtain⟨b,i,rfl,c,f⟩:=q;exact RcNeAt.list_tuple ht c (by lia)
  | bY=>unfold Vl at q;subst q;exact RcNeAt.list_none ht (by lia)
  | bl x=>unfold Vl at q;subst q;exact RcNeAt.list_bool _ ht (by lia)
  | int x=>unfold Vl at q;obtain⟨t,rfl⟩:=q;exact RcNeAt.list_int _ _ ht (by lia)
  | str x=>unfold Vl at q;obtain⟨t,rfl⟩:=q;exact RcNeAt.list_str _ _ ht (by lia)
  | ty x=>unfold Vl at q;exact q.elim
  | ref x=>unfold Vl at q;exact q.elim
def hZ(mh:MH):D->D
 | .ref n=>match mh[n]? with | some (.lst ds)=>.fl ds | _=>.ref n
 | d=>d
section
variable {X:Cx}{pins:List (Addr×Obj)}{σ:L2.St}{H:Hp}{s:Shared}{μ:List Addr}{mh:MH}
mutual
theorem mH(I:Inv X pins σ H s):∀(d:D) {v:V} {u:Value},bare d=true->Is X.K μ H d v->RelV v u->Vl s.heap d u
 | .bY,v,u,_,i,r=>by cases A0 i;unfold Vl;exact r
 | .bl _,v,u,_,i,r=>by cases yU i;unfold Vl;exact r
 | .int _,v,u,_,i,r=>by cases bU i;unfold Vl;exact r
 | .str _,v,u,_,i,r=>by cases jS i;unfold Vl;exact r
 | .ty _,v,u,b,i,r=>by simp[bare]at b
 | .ref _,v,u,b,i,r=>by simp[bare]at b
 | .tup ds,v,u,b,i,r=>by
  obtain⟨a,vs,rfl,sq,l⟩:=dY i;have c :u=Value.ref a:=r;subst c;obtain⟨aJ,e,p,_⟩:=I.tuple sq;unfold Vl;exact⟨a,aJ,rfl,p,jO I ds (by simpa[bare] using b) l e⟩
 | .fl ds,v,u,b,i,r=>by
  obtain⟨a,vs,rfl,sq,l⟩:=oR i;have c :u=Value.ref a:=r;subst c;obtain⟨aJ,e,p,_⟩:=I.list sq.sq;unfold Vl;exact⟨a,aJ,rfl,p.isList,jO I ds (by simpa[bare] using b) l e⟩
theorem jO(I:Inv X pins σ H s):∀(ds:List D) {vs:List V} {us:List Value},cI ds=true->IsL X.K μ H ds vs->Vals vs us->cD s.heap ds us
 | [],vs,us,_,l,r=>by unfold IsL at l;subst l;cases r;unfold cD;rfl
 | d::ds,vs,us,b,l,r=>by
  unfold IsL at l;obtain⟨v,e,rfl,i,l⟩:=l
  cases r with
  | cons a c=>
   simp only[cI,Bool.and_eq_true]at b;unfold cD;exact⟨_,_,rfl,mH I d b.1 i a,jO I ds b.2 l c⟩
end
theorem uK(I:Inv X pins σ H s)(R:Rep X.K μ mh H){d:D}{v:V}{u:Value}(b:bare (hZ mh d)=true)(i:Is X.K μ H d v)(r:RelV v u):Vl s.heap (hZ mh d) u:=by
 cases d with
 | ref n=>
  simp only[hZ]at b⊢
  cases o:mh[n]? with
  | none=>rw[o]at b;simp[bare]at b
  | some ob=>
   cases ob with
   | lst ds=>
    rw[o]at b;simp only;obtain⟨a,vs,rfl,_,c,l⟩:=jQ R i o;have e :u=Value.ref a:=r;subst e;obtain⟨aJ,g,p,_⟩:=I.list (.of c);unfold Vl;exact⟨a,aJ,rfl,p.isList,jO I ds (by simpa[bare] using b) l g⟩
   | dic t kvs=>rw[o]at b;simp[bare]at b
   | fdc t kvs ob=>rw[o]at b;simp[bare]at b
   | oth ds f=>rw[o]at b;simp[bare]at b
 | _=>exact mH I _ b i r
end
def oEq:O2:=λx y mh Q=>bare (hZ mh x)=true/\bare (hZ mh y)=true/\deep (hZ mh x)<=40/\Q (.bl (d5 (hZ mh x) (hZ mh y))) mh
def XI:O2:=λx y mh Q=>bare (hZ mh x)=true/\bare (hZ mh y)=true/\deep (hZ mh x)<=40/\Q (.bl !d5 (hZ mh x) (hZ mh y)) mh
section
variable {X:Cx}
theorem aEn(b:X.A.units+64<cLine):gE X (compareOp .Eq) (bT X.K oEq):=by
 intro pins s σ H x y v u Q I c d q;obtain⟨μ,mh,dx,h,R,a,ix,e,⟨f,g,hd,q⟩,F⟩:=q;exact N5 hd b (uK I a f ix c) (uK I a g e d) X.prog X.w X.xe _ ⟨.bl _,H,I,rfl,F.here a q .bl⟩
theorem aEj(b:X.A.units+64<cLine):gE X (compareOp .NotEq) (bT X.K XI):=by
 intro pins s σ H x y v u Q I c d q;obtain⟨μ,mh,dx,h,R,a,ix,e,⟨f,g,hd,q⟩,F⟩:=q;exact C7 hd b (uK I a f ix c) (uK I a g e d) X.prog X.w X.xe _ ⟨.bl _,H,I,rfl,F.here a q .bl⟩
def sX:D->Bool
 | .bY=>true | .bl _=>true | .int _=>true | .str _=>true | _=>false
def eqW(x:D)(u:Value):Bool:=match u with
 | .none=>d5 .bY x
 | .bool b=>d5 (.bl b) x
 | .int i _=>d5 (.int i) x
 | .str z _=>d5 (.str z) x
 | _=>false
theorem Q7{x y:D}{u:Value}(f:sX y=true)(p:Vl h y u):eqW x u=d5 y x:=by
 cases y with
 | bY=>unfold Vl at p;subst p;rfl
 | bl b=>unfold Vl at p;subst p;rfl
 | int b=>unfold Vl at p;obtain⟨t,rfl⟩:=p;rfl
 | str b=>unfold Vl at p;obtain⟨t,rfl⟩:=p;rfl
 | _=>simp[sX]at f
theorem JA{A:Around}{s:Shared}{x:D}{v:Value}(a:A.units+64<cLine)(q:Vl s.heap x v):∀{ds:List D} {us:List Value},ds.all sX=true->cD s.heap ds us->∀u∈us,SeqAt.EqAt A.in1 s u v (eqW x u)
 | [],us,_,l=>by unfold cD at l;subst l;intro u a;cases a
 | d::ds,us,f,l=>by
  unfold cD at l;obtain⟨u,r,rfl,p,l⟩:=l;rw[List.all_cons,Bool.and_eq_true]at f;intro b hu';rcases aK1.mp hu' with rfl | hu'
  ·rw[Q7 f.1 p];refine jT 0 ?_ (by show A.units+1+0+1<_;lia) p q
   cases d <;> first | exact aJq _ | (simp[sX]at f)
  ·exact JA a q f.2 l b hu'
theorem wO:∀{ds:List D},ds.all sX=true->cI ds=true
 | [],_=>rfl
 | d::ds,f=>by
  rw[List.all_cons,Bool.and_eq_true]at f;simp only[cI,wO f.2,Bool.and_true]
  cases d <;> first | rfl | (simp[sX]at f)
end
section
variable {prog:Program}{w:World}{A:Around}{E:aNn}{s:Shared}
open HT in
theorem nX{t sl:Addr}{items:Array Value}{e f:Value}{lo hi:Option Int}{Q:aNn}(ht:IsTup s.heap t items)(hs:s.heap.IsSliceOf sl e f .none)(i:IsPart e lo)(j:IsPart f hi)
  (g:dU items.size 0 lo=0/\dU items.size items.size hi=items.size)
  (h:Q (.ref t) s):wpAny (model prog w) A (getItem (.ref t) (.ref sl)) Q E s:=by
 obtain⟨os,b,c,k⟩:=id hs
 have d:s.TypeIs (.ref sl) "slice":=⟨os,b,c⟩
 unfold getItem
 try with_reducible refine aKd ?_
 first | refine aJn (aJo ?_) | skip
 refine aJn (wpAny_sequenceKey ht.typeIs (by decide) ?_)
 refine aJn (aK9 (name:=Str.ofString "__getitem__") ht.typeIs aKm
  (aK8 aKm ht.typeIs entry_tuple_getitem ?_ (args_tuple_getitem _ _)))
 show wpAny _ _ (Builtin.Tuple.tupleItemsOf (.ref t) >>=_) _ _ s;refine aJn (tupleItemsOf_ ht ?_);refine aJn (aMo d ?_);rw[if_pos (by decide)];refine aJn (kA hs i j ?_)
 have a:((((dU items.size 0 lo:Nat):Int)==0 && (1:Int)==1 && (dU items.size items.size hi-dU items.size 0 lo)==items.size)=true):=by
  rw[g.1,g.2];simp
 show wpAny _ _ (if (((dU items.size 0 lo:Nat):Int)==0 && (1:Int)==1 && (dU items.size items.size hi-dU items.size 0 lo)==items.size)=true then _ else _) _ _ s;rw[if_pos a];have l:=ht.typeIs;refine aJn ?_
 first
  | (refine aJn (aMo l (aJo ?_));simp only[beq_self_eq_true,if_true];refine aJn (aKq ?_);first | exact aJo (aJo ⟨_,rfl,aJo h⟩) | exact aJn (aJo (aJo ⟨_,rfl,aJo h⟩)) | exact aJn (aJo (aJo (aJo ⟨_,rfl,aJo h⟩))))
  | trace_state
end
section
variable {X:Cx}
theorem S3:SlR X (λx lo hi H Q=>∃a xs,x= .ref a/\tQ X.K H a xs/\
  ((HT.dU xs.length 0 lo=0/\HT.dU xs.length xs.length hi=xs.length)->Q (.ref a) H)/\(¬(HT.dU xs.length 0 lo=0/\HT.dU xs.length xs.length hi=xs.length)->∀p,H p=none->Q (.ref p) (upd H p (.tup (BM xs lo hi))))):=by
 intro pins s σ H x v g i lo hi sl Q I d hs e f h;obtain⟨a,xs,rfl,hx,j,k⟩:=h;by_cases c:HT.dU xs.length 0 lo=0/\HT.dU xs.length xs.length hi=xs.length
 ·cases d;obtain⟨aJ,r,ht,hz⟩:=I.tuple hx;have b:aJ.toArray.size=xs.length:=by rw[List.size_toArray];exact r.length.symm
  exact⟨"tuple",_,aKm.lookup,ht.typeIs,nX ht hs e f (by rw[b];exact c) ⟨.ref a,H,I,rfl,j c⟩⟩
 ·exact YO pins s σ H _ v g i lo hi sl Q I d hs e f ⟨a,xs,rfl,hx,c,k c⟩
def cutD(xs:List D)(lo hi:Option Int):List D:=(xs.drop (HT.dU xs.length 0 lo)).take (HT.dU xs.length xs.length hi-HT.dU xs.length 0 lo)
abbrev OS:=D->Option Int->Option Int->MH->DK->Prop
def XQ(K:aNm)(f:OS):V->Option Int->Option Int->Hp->VK->Prop:=λx lo hi H Q=>∃μ mh dx R,Rep K μ mh H/\Is K μ H dx x/\f dx lo hi mh R/\Fin K μ H R Q
def oSl:OS:=λx lo hi mh Q=>match x with
 | .tup ds=>Q (.tup (cutD ds lo hi)) mh
 | _=>∃ds,mT mh x=some ds/\Q (.ref mh.length) (mh++[.lst (cutD ds lo hi)])
theorem JU{μ:List Addr}{ds:List D}{vs:List V}(l:IsL K μ H ds vs)(lo hi:Option Int):IsL K μ H (cutD ds lo hi) (BM vs lo hi):=by
 unfold cutD BM;rw[aX l];exact vT _ (vV _ l)
theorem sll:SlR X (XQ X.K oSl):=by
 intro pins s σ H x v d f lo hi sl Q I g hs h i q;obtain⟨μ,mh,dx,R,c,ix,q,F⟩:=q
 have go:(∃ds,mT mh dx=some ds/\R (.ref mh.length) (mh++[.lst (cutD ds lo hi)]))->∃T id,typeLookup (.type T) "__getitem__"=pure (some (.builtin id))/\s.TypeIs v T/\wpAny (model X.prog X.w) X.A (getItem v (.ref sl)) (EP X pins σ Q) X.xe s:=λb=>by
  obtain⟨ds,e,q⟩:=b;obtain⟨a,vs,rfl,sq,l⟩:=rK c ix e;exact S4 pins s σ H _ v d f lo hi sl Q I g hs h i ⟨a,vs,rfl,sq,jF c F (JU l lo hi) q⟩
 cases dx with
 | tup ds=>
  obtain⟨a,vs,rfl,sq,l⟩:=dY ix;refine S3 pins s σ H _ v d f lo hi sl Q I g hs h i ⟨a,vs,rfl,sq,λj=>?_,λ_=>qI c F (JU l lo hi) q⟩
  have e:cutD ds lo hi=ds:=by
   unfold cutD;rw[<-aX l,j.1,j.2,aX l];simp
  have q' :R (.tup (cutD ds lo hi)) mh:=q;rw[e]at q';exact F.here c q' ix
 | _=>exact go q
abbrev WO:=gM->MH->(Option Int->MH->Prop)->Prop
def tLO(K:aNm)(w:WO):TO:=λσ H Q=>∃μ a mh R,Rep K μ mh H/\cQ K μ H a σ/\w a mh R/\∀o mh',R o mh' ->∀μ' H',aP μ H μ' H' ->Rep K μ' mh' H' ->Q o H'
def LO(X:Cx)(e:Option Expr)(w:WO):Prop:=PO X e (tLO X.K w)
def wNo:WO:=λ_ mh Q=>Q none mh
def HX(w:WE):WO:=λb mh Q=>w b mh λx a=>∃i,x= .int i/\Q (some i) a
variable {e:Expr}{w:WE}{lo hi:Option Expr}{wl wh:WO}{pos p2:Pos}
theorem U3:LO X none wNo:=λpins s σ H Q I q=>T5 pins s σ H Q I (by
 obtain⟨μ,b,mh,R,a,E,h,F⟩:=q
 exact F none mh h μ H aP.refl a)
theorem U2(h:LE X e w):LO X (some e) (HX w):=λpins s σ H Q I q=>T4 h pins s σ H Q I (by
 obtain⟨μ,d,mh,R,f,E,h,F⟩:=q;refine⟨μ,d,mh,_,f,E,h,λdx a b c m g j k l=>?_⟩;obtain⟨i,rfl,b⟩:=b
 exact⟨i,bU l,F (some i) a b c g j k⟩)
def wSl(f:OS)(w:WE)(wl wh:WO):WE:=λa mh Q=>w a mh λx b=>wl a b λl c=>wh a c λu d=>f x l u d Q
theorem P5{f:OS}(r:SlR X (XQ X.K f))(he:LE X e w)(s:LO X lo wl)(t:LO X hi wh):LE X (.Subscript e (.Slice lo hi none p2) pos) (wSl f w wl wh):=PE.imp (OI r he s t) λσ H Q q=>by
 obtain⟨μ,a,mh,R,b,E,h,F⟩:=q;refine⟨μ,a,mh,_,b,E,h,λdx c v d x C g o y=>⟨d,a,c,_,o,E.mono b g,v,λl i z j D k R2=>⟨j,a,i,_,R2,E.mono b (g.trans k),z,λu m A n G p B=>?_⟩⟩⟩;exact⟨n,m,dx,R,B,Is.mono o (k.trans p) dx x y,A,F.at ((g.trans k).trans p)⟩
abbrev OM:=D->List D->MH->DK->Prop
def liftM(K:aNm)(f:OM):V->List V->Hp->VK->Prop:=λx xs H Q=>∃μ mh dx ds R,Rep K μ mh H/\Is K μ H dx x/\IsL K μ H ds xs/\f dx ds mh R/\Fin K μ H R Q
def nW(mh:MH)(T:String):D->Prop
 | .str _=>T= "str"
 | .int _=>T= "int"
 | .ref n=>T= "list"/\∃ds,mh[n]? =some (.lst ds)
 | .fl _=>T= "list"
 | .tup _=>T= "tuple"
 | _=>False
theorem aAx{μ:List Addr}{mh:MH}{T:String}{d:D}{v:V}(b:Rep K μ mh H)(i:Is K μ H d v)(k:nW mh T d):tyV K T v H:=by
 cases d with
 | str z=>cases jS i;exact k
 | int z=>cases bU i;exact k
 | ref n=>obtain⟨e,ds,o⟩:=k;obtain⟨a,vs,rfl,_,c,_⟩:=jQ b i o;exact .inl ⟨e,vs,.of c⟩
 | fl ds=>obtain⟨a,vs,rfl,sq,_⟩:=oR i;exact .inl ⟨k,vs,sq.sq⟩
 | tup ds=>obtain⟨a,vs,rfl,sq,_⟩:=dY i;exact .inr (.inl ⟨k,vs,sq⟩)
 | _=>exact False.elim k
variable {o:Expr}{es:List Expr}{wo:WE}{wa:WA}{name:Str}{apos dH:Pos}{T id:String}
def uH(T:String)(f:OM)(wo:WE)(wa:WA):WE:=λc mh Q=>wo c mh λx a=>nW a T x/\wa c a λds b=>f x ds b Q
theorem QA{f:OM}(pa:PlainAttrs T)(slot:Slot T name id)(g:typeOf (.builtin id)=pure (.type "method_descriptor"))(hm:MtR X id (liftM X.K f))(ho:LE X o wo)(ha:LA X (e::es) wa)
  (b:attributeBase o name X.env (eval o X.env)=eval o X.env:=by rfl)
  (d:((backTo dH (starEach (e::es) X.env)).all (λx=>!x.1) && (backToKw dH (keywordEach [] X.env)).all (λx=>x.1.isSome)
   && decide ((e::es).length+([]:List Keyword).length+(if ([]:List Keyword).isEmpty then 0 else 1)<30))=true:=by rfl)
  (c:(apos.endLine==dH.line)=true:=by rfl) (hs:starEach (e::es) X.env=(false,eval e X.env)::starEach es X.env:=by rfl) (a:(backTo dH (starEach es X.env)).any (·.1)=false:=by rfl):
  LE X (.Call (.Attribute o name apos) (e::es) [] dH) (uH T f wo wa):=PE.imp (aEc pa slot g hm ho ha b d c hs a) λσ H Q q=>by
 obtain⟨μ,n,mh,R,p,E,h,F⟩:=q;refine⟨μ,n,mh,_,p,E,h,λdx i r j v z s k t=>⟨aAx k t r.1,j,n,i,_,k,E.mono p s,r.2,λds l w m vs A u R2 y=>?_⟩⟩;exact⟨m,l,dx,ds,R,R2,Is.mono k u dx v t,y,w,F.at (s.trans u)⟩
def bO:OM:=λx ds mh Q=>∃n es d,x= .ref n/\ds=[d]/\mh[n]? =some (.lst es)/\es.length<sizeLine/\Q .bY (mh.set n (.lst (es++[d])))
theorem LD:MtR X "list.append" (liftM X.K bO):=by
 intro pins s σ H x xs v us Q I c rs q;obtain⟨μ,mh,dx,ds,R,b,ix,f,⟨n,es,d,rfl,rfl,e,hz,q⟩,F⟩:=q;obtain⟨a,vs,rfl,g,h,l⟩:=jQ b ix e;obtain⟨z,rfl,i⟩:=gB f;exact yJ pins s σ H _ _ v us Q I c rs ⟨a,vs,z,rfl,rfl,h,by rw[aX l];exact hz,F.put b g (hU l (jD i)) q .bY⟩
end
structure jK where
 nx:gM->MH->Prop
 rt:DK
 bk:gM->MH->Prop:=λ_ _=>False
 ct:gM->MH->Prop:=λ_ _=>False
abbrev WS:=jK->gM->MH->Prop
def HM(K:aNm)(μ:List Addr)(H:Hp)(R:gM->MH->Prop)(Q:L2.St->Hp->Prop):Prop:=
 ∀a mh',R a mh' ->∀μ' b H',aP μ H μ' H' ->Rep K μ' mh' H' ->cQ K μ' H' a b ->Q b H'
structure B3(K:aNm)(μ:List Addr)(H:Hp)(E:jK)(D:Ends):Prop where
 nx:HM K μ H E.nx D.nx
 rt:Fin K μ H E.rt D.rt
 bk:HM K μ H E.bk D.bk
 ct:HM K μ H E.ct D.ct
def tLS(K:aNm)(w:WS):TS:=λD σ H=>∃μ a mh E,Rep K μ mh H/\cQ K μ H a σ/\w E a mh/\B3 K μ H E D
def LS(X:Cx)(st:Stmt)(w:WS):Prop:=PS X st (tLS X.K w)
def jJ(X:Cx)(st:List Stmt)(w:WS):Prop:=B2 X st (tLS X.K w)
theorem PS.imp{e:Stmt}{t t' :TS}(h:PS X e t)(i:∀D σ H,t' D σ H->t D σ H):PS X e t' :=λpins s σ H D I q=>h pins s σ H D I (i D σ H q)
theorem B2.imp{e:List Stmt}{t t' :TS}(h:B2 X e t)(i:∀D σ H,t' D σ H->t D σ H):B2 X e t' :=λpins s σ H D I q=>h pins s σ H D I (i D σ H q)
section
variable {K:aNm}{μ μ1:List Addr}{H H1:Hp}
theorem HM.at{R:gM->MH->Prop}{Q:L2.St->Hp->Prop}(F:HM K μ H R Q)(P:aP μ H μ1 H1):HM K μ1 H1 R Q:=λa mh' r μ' b H' c d I=>F a mh' r μ' b H' (P.trans c) d I
theorem B3.at{E:jK}{D:Ends}(F:B3 K μ H E D)(P:aP μ H μ1 H1):B3 K μ1 H1 E D:=⟨F.nx.at P,F.rt.at P,F.bk.at P,F.ct.at P⟩
theorem cQ.set{c:gM}{σ:L2.St}{d:D}{v:V}(E:cQ K μ H c σ)(i:Nat)(h:Is K μ H d v):cQ K μ H (c.set i (some d)) (σ.set i (some v)):=by
 refine⟨by simp[E.1],λj e b=>?_⟩;by_cases a:j=i
 ·subst a
  have f:j<c.length:=by
   have:=(aJr.mp b).1;simpa using this
  rw[List.getElem?_set_self f]at b;cases b;exact⟨v,by rw[List.getElem?_set_self (by rw[<-E.1];exact f)],h⟩
 ·rw[List.getElem?_set_ne (Ne.symm a)]at b;obtain⟨u,g,k⟩:=E.2 j e b;exact⟨u,by rw[List.getElem?_set_ne (Ne.symm a)];exact g,k⟩
end
def dA:WS:=λE a mh=>E.nx a mh
def aR(t u:WS):WS:=λE a mh=>t {E with nx:=u E} a mh
def X6:WS:=λE a mh=>E.bk a mh
def e9(w:WE):WS:=λE b mh=>w b mh λ_ a=>E.nx b a
def cK(w:WE):WS:=λE a mh=>w a mh E.rt
def g9(t:WT)(a b:WS):WS:=λE e mh=>t e mh λc d=>if c=true then a E e d else b E e d
section
variable {X:Cx}{st:Stmt}{rest a b:List Stmt}{t u:WS}{e:Expr}{w:WE}{wt:WT}{pos:Pos}
theorem aAd:jJ X [] dA:=B2.imp TZ λD σ H a=>by obtain⟨μ,b,mh,E,R,En,h,F⟩:=a;exact F.nx b mh h μ σ H aP.refl R En
theorem U1(d:LS X st t)(e:jJ X rest u):jJ X (st::rest) (aR t u):=B2.imp (OB d e) λD σ H a=>by
 obtain⟨μ,f,mh,E,R,En,h,F⟩:=a;exact⟨μ,f,mh,_,R,En,h,⟨λb mh' q μ' g H' i j c =>⟨μ',b,mh',E,j,c,q,F.at i⟩,F.rt,F.bk,F.ct⟩⟩
theorem aAc(a:LS X st t):jJ X [st] t:=TY a
theorem PX:LS X (.Break pos) X6:=PS.imp OF λD σ H a=>by obtain⟨μ,b,mh,E,R,En,h,F⟩:=a;exact F.bk b mh h μ σ H aP.refl R En
theorem U0(he:LE X e w)(hs:swapsWith e none pos.line X.env=pure false:=by rfl):LS X (.Expr e pos) (e9 w):=PS.imp (T1 he hs) λD σ H ⟨μ,c,mh,E,R,En,h,F⟩=>
 ⟨μ,c,mh,_,R,En,h,λd a q b v g f i j=>F.nx c a q b σ g f i (En.mono R f)⟩
theorem aAa(he:LE X e w):LS X (.Return (some e) pos) (cK w):=PS.imp (Y6 he) λD σ H a=>by obtain⟨μ,b,mh,E,R,En,h,F⟩:=a;exact⟨μ,b,mh,_,R,En,h,F.rt⟩
theorem aEx{c:Expr}(l:LT X c wt)(ha:jJ X a t)(hb:jJ X b u):LS X (.If c a b pos) (g9 wt t u):=PS.imp (aE5 l ha hb) λD σ H g=>by
 obtain⟨μ,i,mh,E,R,En,h,F⟩:=g;refine⟨μ,i,mh,_,R,En,h,λk d q e m f j=>?_⟩
 cases k with
 | true=>rw[if_pos rfl]at q⊢;exact⟨e,i,d,E,j,En.mono R f,q,F.at f⟩
 | false=>rw[if_neg Bool.false_ne_true]at q⊢;exact⟨e,i,d,E,j,En.mono R f,q,F.at f⟩
abbrev WG:=D->gM->(gM->Prop)->Prop
abbrev M8:=List D->gM->(gM->Prop)->Prop
def qY(K:aNm)(g:TG)(gd:WG):Prop:=∀v σ H Q μ c mh d R,Rep K μ mh H->cQ K μ H c σ->Is K μ H d v->gd d c R->(∀a,R a ->∀b,cQ K μ H a b ->Q b H)->g v σ H Q
def wX(K:aNm)(g:FA)(gd:M8):Prop:=∀vs σ H Q μ c mh ds R,Rep K μ mh H->cQ K μ H c σ->IsL K μ H ds vs->gd ds c R->(∀a,R a ->∀b,cQ K μ H a b ->Q b H)->g vs σ H Q
def gN(i:Nat):WG:=λd a Q=>Q (a.set i (some d))
def fJ:M8:=λds a Q=>ds=[]/\Q a
def aT(t:WG)(u:M8):M8:=λds b Q=>∃d r,ds=d::r/\t d b λa =>u r a Q
def gT(n:Nat)(u:M8):WG:=λd a Q=>∃ds,d= .tup ds/\ds.length=n/\u ds a Q
theorem A6(i:Nat):qY K (sW i) (gN i):=λv σ H Q μ a mh d R b En I h F=>F _ h _ (En.set i I)
theorem V0:wX K QY fJ:=λvs σ H Q μ a mh ds R b En I h F=>by
 obtain⟨rfl,h⟩:=h;unfold IsL at I;exact⟨I,F a h σ En⟩
theorem QS{g:TG}{f:FA}{gd:WG}{a:M8}(k:qY K g gd)(l:wX K f a):wX K (EA g f) (aT gd a):=λvs σ H Q μ m mh ds R i En I h F=>by
 obtain⟨d,r,rfl,h⟩:=h;unfold IsL at I;obtain⟨v,j,rfl,n,o⟩:=I;exact⟨v,j,rfl,k v σ H _ μ m mh d _ i En n h λb q c e =>l j c H Q μ b mh r R i e o q F⟩
theorem aBo{n:Nat}{c:FA}{b:M8}(h:wX K c b):qY K (aBq K n c) (gT n b):=λv σ H Q μ e mh d R f En I q F=>by
 obtain⟨ds,rfl,g,q⟩:=q;obtain⟨a,vs,rfl,sq,l⟩:=dY I;exact⟨a,vs,rfl,sq,by rw[aX l];exact g,h vs σ H Q μ e mh ds R f En l q F⟩
def bG(w:WE)(g:WG):WS:=λE c mh=>w c mh λd a=>g d c λb =>E.nx b a
theorem HJ{g:TG}{gd:WG}{D:Ends}{σ:L2.St}(m:qY K g gd)(h:tLS K (bG w gd) D σ H):SY (tL K w) g D σ H:=by
 obtain⟨μ,i,mh,E,R,En,h,F⟩:=h;refine⟨μ,i,mh,_,R,En,h,λd a q b v j k l n=>?_⟩;exact m v σ j _ b i a d _ l (En.mono R k) n q λc q' e f =>F.nx c a q' b e j k l f
theorem aA9(i:Nat){x:Str}{a :Pos}(hN:X.N.Nodup)(he:LE X e w)(hi:X.N[i]? =some x:=by rfl)(hx:Loc X.env.scope x:=by first | exact Or.inl rfl | exact Or.inr rfl)(hs:swapsWith e (some (.Name x a)) pos.line X.env=pure false:=by rfl)(b:X.fn x=true\/X.env.scope.names.lookup x=some .local:=by first | exact .inl rfl | exact .inr rfl | assumption):
  LS X (.Assign [.Name x a] e pos) (bG w (gN i)):=PS.imp (Y5 hN hi hx he hs b) λD σ H h=>HJ (A6 i) h
theorem aAf{tg:Expr}{g:TG}{gd:WG}(he:LE X e w)(hg:PG X tg g)(a:qY X.K g gd)(hs:swapsWithSole [tg] e pos.line X.env=pure false:=by rfl)(b:swappedStores [tg] e X.env=pure none:=by rfl)
  (c:(assignEach [tg] X.env).map (·.2)=[assign tg X.env]:=by rfl):LS X (.Assign [tg] e pos) (bG w gd):=PS.imp (F0 he hg hs b c) λD σ H h=>HJ a h
def S6:D->D->D->MH->(MH->Prop)->Prop:=λo i d mh Q=>∃n ds k j,o= .ref n/\i= .int k/\mh[n]? =some (.lst ds)/\LR ds.length k=some j/\Q (mh.set n (.lst (ds.set j d)))
def HW(w g wi:WE):WS:=λE a mh=>w a mh λd b=>g a b λo c=>wi a c λi e=>S6 o i d e λf=>E.nx a f
theorem UY{o i:Expr}{z wi:WE}{b:Pos}(he:LE X e w)(ho:LE X o z)(hi:LE X i wi)
  (ha:∀v,assign (.Subscript o i b) X.env v=(do
   let ov<-holding [v] (eval o X.env)
   let iv<-holding [v,ov] (eval i X.env)
   standAt b
   holding [v,ov,iv] (setItem ov iv v)
   release [v,ov,iv] []):=by intro _;rfl)
  (hs:swapsWithSole [.Subscript o i b] e pos.line X.env=pure false:=by rfl) (G:swappedStores [.Subscript o i b] e X.env=pure none:=by rfl)
  (I:(assignEach [.Subscript o i b] X.env).map (·.2)=[assign (.Subscript o i b) X.env]:=by rfl):LS X (.Assign [.Subscript o i b] e pos) (HW w z wi):=
 PS.imp (F0 he (ZC ho hi set_list ha) hs G I) λD σ H h=>by
  obtain⟨μ,g,mh,E,R,En,h,F⟩:=h;refine⟨μ,g,mh,_,R,En,h,λd m q p v Z r A J=>?_⟩;refine⟨p,g,m,_,A,En.mono R r,q,λK s L t vo H2 u R2 M=>?_⟩;refine⟨t,g,s,_,R2,En.mono R (r.trans u),L,λdi N O c vi B x y P=>?_⟩;obtain⟨n,ds,k,j,rfl,rfl,Q,S,T⟩:=O;obtain⟨a,vs,rfl,C,U,l⟩:=jQ y (Is.mono R2 x _ _ M) Q;cases bU P;have V:=Is.mono A (u.trans x) d v J;have W:aP c B c (upd B a (.lst (vs.set j v))):=aP.set y C;have Y:=y.set C (JT j V l);have f:=((r.trans u).trans x).trans W;exact⟨a,vs,k,j,rfl,rfl,U,by rw[aX l];exact S,F.nx g _ T c σ _ f Y (En.mono R f)⟩
def q5(t:WT)(b:WS):WS:=λE a mh=>∃W:Nat->gM->MH->Prop,(∃m,W m a mh)/\∀m a mh,W m a mh->∃N:gM->MH->Prop,(∀d mh',N d mh' ->∃f,f<m/\W f d mh')/\
 t a mh λc e=>if c=true then b {E with nx:=N,ct:=N,bk:=E.nx} a e else E.nx a e
theorem PR{c:Expr}{body:List Stmt}(B:PassesOwn (model X.prog X.w) X.A X.env X.xe)(C:LT X c wt)(hb:jJ X body t):LS X (.While c body [] pos) (q5 wt t):=PS.imp (OD B C hb) λD σ H h=>by
 obtain⟨μ,G,mh,E,R,En,⟨W,⟨m,I⟩,o⟩,F⟩:=h;refine⟨λm j H' =>∃μ' e mh',aP μ H μ' H' /\Rep X.K μ' mh' H' /\cQ X.K μ' H' e j /\W m e mh',⟨m,μ,G,mh,aP.refl,R,En,I⟩,?_⟩;rintro m j H' ⟨μ',e,mh',y,x,l,J⟩;obtain⟨N,hN,tt⟩:=o m e mh' J;refine⟨μ',e,mh',_,x,l,tt,λk p q r L v z=>?_⟩
 cases k with
 | false=>rw[if_neg Bool.false_ne_true]at q⊢;exact F.nx e p q r j L (y.trans v) z (l.mono x v)
 | true=>
  rw[if_pos rfl]at q⊢;refine⟨λg n=>∃a b d,aP μ H a n/\Rep X.K a d n/\cQ X.K a n b g/\N b d,?_,?_⟩
  ·rintro g n ⟨a,b,d,s,R2,f,u⟩;obtain⟨M,hm,O⟩:=hN b d u;exact⟨M,hm,a,b,d,s,R2,f,O⟩
  ·have i:=y.trans v;exact⟨r,e,p,_,z,l.mono x v,q,⟨λb d u a g n s R2 f=>⟨a,b,d,i.trans s,R2,f,u⟩,F.rt.at i,F.nx.at i,λb d u a g n s R2 f=>⟨a,b,d,i.trans s,R2,f,u⟩⟩⟩
def dX(t:WT)(b:WS)(E:jK):Nat->gM->MH->Prop
 | 0,_,_=>False
 | n+1,ρ,mh=>t ρ mh λc a=>if c=true then b {E with nx:=dX t b E n,ct:=dX t b E n,bk:=E.nx} ρ a else E.nx ρ a
theorem kR{t:WT}{b:WS}{E:jK}{a:gM}{mh:MH}(n:Nat)(h:dX t b E n a mh):q5 t b E a mh:=by
 refine⟨λm a mh=>dX t b E m a mh,⟨n,h⟩,λm a mh c=>?_⟩
 cases m with
 | zero=>exact c.elim
 | succ m=>exact⟨dX t b E m,λd mh' q=>⟨m,aKt _,q⟩,c⟩
abbrev WI:=gM->MH->(List D->(MH->Prop)->MH->Prop)->Prop
structure kN(μ:List Addr)(H:Hp)(μ' :List Addr)(H' :Hp):Prop where
 pre:∃t,μ' =μ++t
 fr:∀b o,H b=some o->¬Own (some o)->H' b=some o
section
variable {K:aNm}{μ μ' :List Addr}{mh:MH}{H H' :Hp}
theorem aP.weak(R:Rep K μ mh H)(P:aP μ H μ' H'):kN μ H μ' H' :=⟨P.pre,λb o e n=>P.fr b o e λhm=>n (by have:=R.mut hm;rwa [e]at this)⟩
theorem kN.get(p:kN μ H μ' H'){n:Nat}{a:Addr}(h:μ[n]? =some a):μ'[n]? =some a:=by
 obtain⟨t,rfl⟩:=p.pre;rw[List.getElem?_append_left (List.getElem?_eq_some_iff.mp h).1];exact h
theorem kN.sqT(p:kN μ H μ' H'){a:Addr}{vs:List V}(h:BZ K H a vs):BZ K H' a vs:=by
 rcases h with h | h
 ·exact .inl (p.fr _ _ h id)
 ·exact .inr h
theorem kN.sqF(p:kN μ H μ' H'){a:Addr}{vs:List V}(h:R9 K H a vs):R9 K H' a vs:=by
 rcases h with ⟨o,h⟩ | h
 ·exact .inl ⟨o,p.fr _ _ h id⟩
 ·exact .inr h
mutual
theorem Is.oP(p:kN μ H μ' H'):∀(d:D) (v:V),Is K μ H d v->Is K μ' H' d v
 | .bY,v,h=>by unfold Is at*;exact h
 | .bl _,v,h=>by unfold Is at*;exact h
 | .int _,v,h=>by unfold Is at*;exact h
 | .str _,v,h=>by unfold Is at*;exact h
 | .ty _,v,h=>by unfold Is at*;exact h
 | .tup ds,v,h=>by
  unfold Is at*;obtain⟨a,vs,e,s,l⟩:=h;exact⟨a,vs,e,p.sqT s,IsL.oP p ds vs l⟩
 | .fl ds,v,h=>by
  unfold Is at*;obtain⟨a,vs,e,s,l⟩:=h;exact⟨a,vs,e,p.sqF s,IsL.oP p ds vs l⟩
 | .ref n,v,h=>by
  unfold Is at*;obtain⟨a,e,q⟩:=h;exact⟨a,p.get e,q⟩
theorem IsL.oP(p:kN μ H μ' H'):∀(ds:List D) (vs:List V),IsL K μ H ds vs->IsL K μ' H' ds vs
 | [],vs,h=>by unfold IsL at*;exact h
 | d::ds,vs,h=>by
  unfold IsL at*;obtain⟨v,r,e,q,l⟩:=h;exact⟨v,r,e,Is.oP p d v q,IsL.oP p ds r l⟩
end
end
structure MV(K:aNm)(μ:List Addr)(H:Hp)(ds:List D)(St:MH->Prop)(J:It):Prop where
 small:ds.length<=sizeLine
 go:∀μ' mh' H',kN μ H μ' H' ->Rep K μ' mh' H' ->St mh' ->∀(i:Nat) d,ds[i]? =some d->J.go i H' /\∀x H'',J.yld i H' x H'' ->aP μ' H' μ' H'' /\Rep K μ' mh' H'' /\Is K μ' H'' d x
 stop:∀μ' mh' H',kN μ H μ' H' ->Rep K μ' mh' H' ->St mh' ->J.stop ds.length H'
def tLI(K:aNm)(w:WI):TI:=λσ H R=>∃μ d mh e,Rep K μ mh H/\cQ K μ H d σ/\w d mh e /\
 ∀ds St b,e ds St b->∀a J c,aP μ H a c->Rep K a b c->MV K a c ds St J->R J c
def LI(X:Cx)(tg iter:Expr)(w:WI):Prop:=PI X tg iter (tLI X.K w)
theorem PI.imp{X:Cx}{tg e:Expr}{t t' :TI}(h:PI X tg e t)(i:∀σ H Q,t' σ H Q->t σ H Q):PI X tg e t' :=λpins s σ H Q I q=>h pins s σ H Q I (i σ H Q q)
def lO(g:WG)(b:WS)(E:jK)(St:MH->Prop):List D->gM->MH->Prop
 | [],ρ,mh=>St mh/\E.nx ρ mh
 | d::ds,ρ,mh=>St mh/\g d ρ λa=>b {E with nx:=lO g b E St ds,ct:=lO g b E St ds,bk:=E.nx} a mh
def nV(wi:WI)(g:WG)(b:WS):WS:=λE c mh=>wi c mh λds St a=>lO g b E St ds c a
theorem aAe{tg iter:Expr}{body:List Stmt}{wi:WI}{g:TG}{gd:WG}(V:PassesOwn (model X.prog X.w) X.A X.env X.xe)(W:X.calm=true)(hi:LI X tg iter wi)(hg:PG X tg g)(Y:qY X.K g gd)(hb:jJ X body t)
  (hs:∀x,foldedSetIterable iter X.env x=pure x:=by intro _;rfl):LS X (.For tg iter body [] pos) (nV wi gd t):=PS.imp (Y8 V W hi hg hb hs) λD σ H h=>by
 obtain⟨μ,Q,mh,E,R,En,h,F⟩:=h;refine⟨μ,Q,mh,_,R,En,h,λds St B q j J C G I It=>?_⟩;refine⟨λi m k H' =>∃μ' d mh',aP j C μ' H' /\Rep X.K μ' mh' H' /\cQ X.K μ' H' d k /\i<=ds.length/\m=ds.length-i/\lO gd t E St (ds.drop i) d mh',⟨ds.length,j,Q,B,aP.refl,I,En.mono R G,aKz _,by simp,by simpa using q⟩,?_⟩;rintro i m k H' ⟨μ',d,mh',v,z,r,Z,rfl,l⟩;by_cases o:i<ds.length
 ·rw[List.drop_eq_getElem_cons o]at l;obtain⟨L,l⟩:=l;obtain⟨M,hy⟩:=It.go μ' mh' H' (v.weak I) z L i ds[i] (by simp[o]);refine .inr ⟨M,λf n=>∃a b c,aP j C a n/\Rep X.K a c n/\cQ X.K a n b f/\lO gd t E St (ds.drop (i+1)) b c,?_,λx H'' y=>?_⟩
  ·rintro f n ⟨a,b,c,N,R2,p,l2⟩;exact⟨ds.length-(i+1),by lia,a,b,c,N,R2,p,o,rfl,l2⟩
  ·obtain⟨S,T,Iy⟩:=hy x H'' y;refine Y x k H'' _ μ' d mh' _ _ T (r.mono z S) Iy l λO q3 σ3 P=>?_;have U:=v.trans S;have s:=G.trans U
   have u:HM X.K μ' H'' (lO gd t E St (ds.drop (i+1))) (λf n=>∃a b c,aP j C a n/\Rep X.K a c n/\cQ X.K a n b f/\lO gd t E St (ds.drop (i+1)) b c):=
    λb c n2 a f n N R2 p=>⟨a,b,c,U.trans N,R2,p,n2⟩
   exact⟨μ',O,mh',_,T,P,q3,⟨u,F.rt.at s,F.nx.at s,u⟩⟩
 ·have e:i=ds.length:=by lia
  subst e;rw[List.drop_of_length_le (Nat.le_refl _)]at l;exact .inl ⟨It.stop μ' mh' H' (v.weak I) z l.1,F.nx d mh' l.2 μ' k H' (G.trans v) z r⟩
end
def e8(w:WE):WI:=λb mh Q=>w b mh λx a=>∃ds,bC a x=some ds/\Q ds (λmh' =>bC mh' x=some ds) a
section
variable {K:aNm}{μ:List Addr}{mh:MH}{H:Hp}{ds:List D}{vs:List V}{a:Addr}
theorem aB6{St:MH->Prop}(R:Rep K μ mh H)(s:BZ K H a vs)(l:IsL K μ H ds vs)(hz:ds.length<=sizeLine):MV K μ H ds St (Itt K a):=by
 refine⟨hz,λμ' mh' H' b c _ i d e=>?_,λμ' mh' H' b c _=>⟨vs,(b.sqT s).sq,by rw[aX l];exact aJq _⟩⟩;have f :=(b.sqT s).sq;obtain⟨v,g,h⟩:=eL (IsL.oP b ds vs l) e;refine⟨⟨vs,v,f,g⟩,λx H'' y=>?_⟩;obtain⟨rfl,y⟩:=y;have:=y vs f;rw[g]at this;cases this;exact⟨aP.refl,c,h⟩
theorem aFe{St:MH->Prop}(R:Rep K μ mh H)(s:R9 K H a vs)(l:IsL K μ H ds vs)(hz:ds.length<=sizeLine):MV K μ H ds St (Itl K a):=by
 refine⟨hz,λμ' mh' H' b c _ i d e=>?_,λμ' mh' H' b c _=>⟨vs,(b.sqF s).sq,by rw[aX l];exact aJq _⟩⟩;have f :=(b.sqF s).sq;obtain⟨v,g,h⟩:=eL (IsL.oP b ds vs l) e;refine⟨⟨vs,v,f,g⟩,λx H'' y=>?_⟩;obtain⟨rfl,y⟩:=y;have:=y vs f;rw[g]at this;cases this;exact⟨aP.refl,c,h⟩
theorem tX{mh:MH}{n:Nat}{ds:List D}(h:bC mh (.ref n)=some ds):mh[n]? =some (.lst ds):=by
 simp only[bC]at h
 cases o:mh[n]? with
 | none=>rw[o]at h;cases h
 | some ob=>cases ob with
  | lst es=>rw[o]at h;cases h;rfl
  | dic t kvs=>rw[o]at h;cases h
  | fdc t kvs ob=>rw[o]at h;cases h
  | oth ds f=>rw[o]at h;cases h
theorem aB8{n:Nat}(R:Rep K μ mh H)(g:μ[n]? =some a)(hz:ds.length<=sizeLine):MV K μ H ds (λmh' =>bC mh' (.ref n)=some ds) (Itl K a):=by
 refine⟨hz,λμ' mh' H' f b hs i d e=>?_,λμ' mh' H' f b hs=>?_⟩
 ·obtain⟨vs,c,l⟩:=b.obj n a _ (f.get g) (tX hs);obtain⟨v,h,j⟩:=eL l e;refine⟨⟨vs,v,.of c,h⟩,λx H'' y=>?_⟩;obtain⟨rfl,y⟩:=y;have:=y vs (.of c);rw[h]at this;cases this;exact⟨aP.refl,b,j⟩
 ·obtain⟨vs,c,l⟩:=b.obj n a _ (f.get g) (tX hs);exact⟨vs,.of c,by rw[aX l];exact aJq _⟩
end
section
variable {X:Cx}{tg l:Expr}{w:WE}
theorem aAg(C:LE X l w):LI X tg l (e8 w):=by
 intro pins s σ H R I h;obtain⟨μ,D,mh,E,G,En,h,F⟩:=h;refine c8 (C pins s σ H (λv g=>∃c x f ds,aP μ H c g/\Rep X.K c f g/\Is X.K c g x v/\bC f x=some ds/\E ds (λmh' =>bC mh' x=some ds) f) I ⟨μ,D,mh,_,G,En,h,λd f q c v g y m i=>?_⟩) λv s1 ⟨x,g,i,z,J⟩=>?_
 ·obtain⟨ds,e,q⟩:=q;exact⟨c,d,f,ds,y,m,i,e,q⟩
 ·obtain⟨c,dx,f,ds,y,m,ix,e,q⟩:=J;obtain⟨a,vs,rfl,sq,L⟩:=zW m ix e;have hz:ds.length<=sizeLine:=by rw[<-aX L];exact YM i sq
  have j:∀{vs:List V},qU X.K g a vs->MV X.K c g ds (λmh' =>bC mh' dx=some ds) (Itl X.K a)->wpAny (model X.prog X.w) X.A (pyIter v) (PIE X pins σ tg R) X.xe s1:=λ{vs} sq It=>by
   obtain⟨aJ,M,p,_⟩:=i.list sq;cases z;refine aMq p.isList ?_;refine⟨s1.heap.objs.size,[s1.heap.objs.size],_,_,g,rfl,i.kept (t' :=s1.toks) λb o e=>aJp _ e,KO a _,⟨_,aJv _ rfl,rfl,rfl⟩,λb hb=>?_,F ds _ f q c _ g y m It⟩;have e:b=s1.heap.objs.size:=by simpa using hb
   subst e;exact i.Q1 (aJq _) (i.b9.fresh (aJq _))
  cases dx with
  | tup es=>
   cases e;obtain⟨B,t,u,k,r⟩:=AZ ix;cases u;obtain⟨aJ,M,p,_⟩:=i.tuple k.sq;cases z;refine aN6 (show s1.heap.IsTuple a aJ.toArray from p) ?_;refine⟨s1.heap.objs.size,[s1.heap.objs.size],_,_,g,rfl,i.kept (t' :=s1.toks) λb o e=>aJp _ e,FK a _,⟨_,aJv _ rfl,rfl,rfl⟩,λb hb=>?_,F ds _ f q c _ g y m (aB6 m k r hz)⟩;have e:b=s1.heap.objs.size:=by simpa using hb
   subst e;exact i.Q1 (aJq _) (i.b9.fresh (aJq _))
  | fl es=>
   cases e;obtain⟨B,t,u,k,r⟩:=oR ix;cases u;exact j k.sq (aFe m k r hz)
  | ref n=>
   obtain⟨B,t,u,N,O,r⟩:=jQ m ix (tX e);cases u;exact j (.of O) (aB8 m N hz)
  | _=>cases e
def eQ(lo:Int)(n:Nat):List D:=(List.range n).map λ(k:Nat)=>D.int (lo+(k:Int))
theorem aB7{μ:List Addr}{St:MH->Prop}{lo:Int}{n:Nat}(hz:n<=sizeLine):MV K μ H (eQ lo n) St (Itr lo n):=by
 refine⟨by simpa[eQ] using hz,λμ' mh' H' b a _ i d e=>?_,λμ' mh' H' b a _=>by show n<=_;simp[eQ]⟩;simp only[eQ,List.getElem?_map]at e;obtain⟨k,c,rfl⟩:=aKr.mp e;obtain⟨hi,rfl⟩:=aJr.mp c;simp at hi;refine⟨hi,λx H'' y=>?_⟩;obtain⟨rfl,rfl⟩:=y;exact⟨aP.refl,a,by simp;exact .int⟩
variable {a b:Expr}{wa:WA}{p pos:Pos}
def mF(wa:WA):WI:=λb mh Q=>wa b mh λds a=>∃j,ds=[.int j]/\ -(2^62)<=j/\j<=sizeLine/\Q (eQ 0 j.toNat) (λ_=>True) a
theorem LG(hg:Gl X "range")(hm:X.mg "range"=none)(ha:LA X [a] wa)(hs:starEach [a] X.env=[(false,eval a X.env)]:=by rfl):LI X tg (.Call (.Name "range" p) [a] [] pos) (mF wa):=
 PI.imp (K0 hg hm ha hs) λσ H R h=>by
  obtain⟨μ,d,mh,n,e,En,h,F⟩:=h;refine⟨μ,d,mh,_,e,En,h,λds b q c vs f g i k=>?_⟩;obtain⟨j,rfl,l,o,q⟩:=q;obtain⟨v,rfl,m⟩:=gB k;cases bU m;have r:=mU;have hs:sizeLine=16777216:=aK4;exact⟨j,rfl,l,by lia,F _ _ b q c _ f g i (aB7 (by lia))⟩
def nU:List D->List D->List D
 | a::as,b::bs=>.tup [a,b]::nU as bs
 | _,_=>[]
theorem uD:∀(as bs:List D),(nU as bs).length=min as.length bs.length
 | [],bs=>by simp[nU]
 | a::as,[]=>by simp[nU]
 | a::as,b::bs=>by simp[nU,uD as bs]
theorem B7:∀{as bs:List D} {i:Nat} {d:D},(nU as bs)[i]? =some d->∃x y,as[i]? =some x/\bs[i]? =some y/\d= .tup [x,y]
 | [],bs,i,d,h=>by simp[nU]at h
 | a::as,[],i,d,h=>by simp[nU]at h
 | a::as,b::bs,0,d,h=>by simp[nU]at h;exact⟨a,b,rfl,rfl,h.symm⟩
 | a::as,b::bs,i+1,d,h=>by simpa using B7 (as:=as) (bs:=bs) (i:=i) (by simpa[nU] using h)
def x4(wa:WA):WI:=λb mh Q=>wa b mh λxs a=>∃x y ds es,xs=[x,y]/\bC a x=some ds/\bC a y=some es/\ds.length<=sizeLine/\Q (nU ds es) (λmh' =>bC mh' x=some ds/\bC mh' y=some es) a
def QK:D->Bool | .tup _=>true | _=>false
theorem rD{μ:List Addr}{mh:MH}{d:D}{v:V}{ds:List D}(R:Rep K μ mh H)(h:Is K μ H d v)(e:bC mh d=some ds):∃a vs,v= .ref a/\FG K H (QK d) a vs/\IsL K μ H ds vs:=by
 cases d with
 | tup es=>obtain⟨a,vs,rfl,s,l⟩:=dY h;cases e;exact⟨a,vs,rfl,s,l⟩
 | fl es=>obtain⟨a,vs,rfl,s,l⟩:=oR h;cases e;exact⟨a,vs,rfl,s.sq,l⟩
 | ref n=>obtain⟨a,vs,rfl,_,b,l⟩:=jQ R h (tX e);exact⟨a,vs,rfl,qU.of b,l⟩
 | _=>cases e
variable {e1 e2:Expr}{elts:List Expr}{x1:Nat}{tpos:Pos}
theorem U4{x1}(hg:Gl X "zip")(hm:X.mg "zip"=none)(ha:LA X [e1,e2] wa)
  (he:starEach [e1,e2] X.env=(false,eval e1 X.env)::starEach [e2] X.env:=by rfl) (C:(backTo pos (starEach [e2] X.env)).any (·.1)=false:=by rfl):
  LI X (.Tuple elts x1 tpos) (.Call (.Name "zip" p) [e1,e2] [] pos) (x4 wa):=
 PI.imp (Y9 aCy ⟨by decide,by decide⟩ hg hm ha (by decide+kernel) he C) λσ H R h=>by
  obtain⟨μ,T,mh,g,U,En,h,F⟩:=h;refine⟨μ,T,mh,_,U,En,h,λxs D q o vs M V E W=>?_⟩;obtain⟨x,y,ds,es,rfl,Y,Z,hz,q⟩:=q;obtain⟨v,u,rfl,N,O⟩:=JW W;obtain⟨a,xs,rfl,sa,la⟩:=rD E N Y;obtain⟨b,w,rfl,sb,lb⟩:=rD E O Z;refine⟨[(a,QK x),(b,QK y)],rfl,rfl,?_,F _ _ D q o _ M V E ?_⟩
  ·intro G r;simp at r;rcases r with rfl | rfl
   ·exact⟨xs,sa⟩
   ·exact⟨w,sb⟩
  ·have l:∀μ' mh' H',kN o M μ' H' ->Rep X.K μ' mh' H' ->(bC mh' x=some ds/\bC mh' y=some es)->∃xs w,FG X.K H' (QK x) a xs/\IsL X.K μ' H' ds xs/\FG X.K H' (QK y) b w/\IsL X.K μ' H' es w:=λμ' mh' H' m g st=>by
    obtain⟨a',c,e1,s1,n⟩:=rD g (Is.oP m _ _ N) st.1;obtain⟨b',f,e2,s2,s⟩:=rD g (Is.oP m _ _ O) st.2;cases e1;cases e2;exact⟨c,f,s1,n,s2,s⟩
   refine⟨by rw[uD];lia,λμ' mh' H' m g st i d e=>?_,λμ' mh' H' m g st=>?_⟩
   ·obtain⟨c,f,s1,n,s2,s⟩:=l μ' mh' H' m g st;obtain⟨dx,dy,g1,g2,rfl⟩:=B7 e;obtain⟨A,k1,ix⟩:=eL n g1;obtain⟨B,k2,iy⟩:=eL s g2;refine⟨⟨[A,B],rfl,λk a' t' v I P=>?_⟩,λz H'' yl=>?_⟩
    ·match k with
     | 0=>cases I;cases P;exact⟨c,s1,k1⟩
     | 1=>cases I;cases P;exact⟨f,s2,k2⟩
     | k+2=>simp at I
    ·obtain⟨G,vs,Q,rfl,rfl,J,t⟩:=yl
     match vs,J with
     | [v1,v2],_=>
      have e1:=t 0 a (QK x) v1 rfl rfl c s1;have e2:=t 1 b (QK y) v2 rfl rfl f s2;rw[k1]at e1;rw[k2]at e2;cases e1;cases e2;have L:aP μ' H' μ' (upd H' G (.tup [A,B])):=aP.new g Q;refine⟨L,g.new Q,?_⟩;unfold Is;refine⟨G,[A,B],rfl,.of bV,?_⟩;unfold IsL;exact⟨A,[B],rfl,Is.mono g L _ _ ix,jD (Is.mono g L _ _ iy)⟩
   ·obtain⟨c,f,s1,n,s2,s⟩:=l μ' mh' H' m g st;rw[uD];by_cases hle:ds.length<=es.length
    ·refine⟨0,a,QK x,c,rfl,s1,by rw[aX n];lia,λj b u S=>absurd S (by lia)⟩
    ·refine⟨1,b,QK y,f,rfl,s2,by rw[aX s];lia,λj b u S hs=>?_⟩;have:j=0:=by lia
     subst this;cases hs;exact⟨c,s1,by rw[aX n];lia⟩
end
section
variable {K:aNm}{μ μ' :List Addr}{mh:MH}{H H0:Hp}{q:Addr}{o:HO}
mutual
theorem Is.out(hm:RQ (H q)):∀(d:D) (v:V),Is K μ H d v->Is K μ (upd H q o) d v
 | .bY,v,h=>by unfold Is at*;exact h
 | .bl _,v,h=>by unfold Is at*;exact h
 | .int _,v,h=>by unfold Is at*;exact h
 | .str _,v,h=>by unfold Is at*;exact h
 | .ty _,v,h=>by unfold Is at*;exact h
 | .tup ds,v,h=>by
  unfold Is at*;obtain⟨a,vs,e,s,l⟩:=h;refine⟨a,vs,e,?_,IsL.out hm ds vs l⟩;rcases s with s | s
  ·exact .inl (by rw[aV (λz=>by subst z;rw[s]at hm;exact hm)];exact s)
  ·exact .inr s
 | .fl ds,v,h=>by
  unfold Is at*;obtain⟨a,vs,e,s,l⟩:=h;refine⟨a,vs,e,?_,IsL.out hm ds vs l⟩
  rcases s with ⟨ob,s⟩ | s
  ·exact .inl ⟨ob,by rw[aV (λz=>by subst z;rw[s]at hm;exact hm)];exact s⟩
  ·exact .inr s
 | .ref n,v,h=>by unfold Is at*;exact h
theorem IsL.out(hm:RQ (H q)):∀(ds:List D) (vs:List V),IsL K μ H ds vs->IsL K μ (upd H q o) ds vs
 | [],vs,h=>by unfold IsL at*;exact h
 | d::ds,vs,h=>by
  unfold IsL at*;obtain⟨v,r,e,i,l⟩:=h;exact⟨v,r,e,Is.out hm d v i,IsL.out hm ds r l⟩
end
mutual
theorem Is.pre(b:∀(n:Nat) a,μ[n]? =some a->μ'[n]? =some a):∀(d:D) (v:V),Is K μ H d v->Is K μ' H d v
 | .bY,v,h=>by unfold Is at*;exact h
 | .bl _,v,h=>by unfold Is at*;exact h
 | .int _,v,h=>by unfold Is at*;exact h
 | .str _,v,h=>by unfold Is at*;exact h
 | .ty _,v,h=>by unfold Is at*;exact h
 | .tup ds,v,h=>by unfold Is at*;obtain⟨a,vs,e,s,l⟩:=h;exact⟨a,vs,e,s,IsL.pre b ds vs l⟩
 | .fl ds,v,h=>by unfold Is at*;obtain⟨a,vs,e,s,l⟩:=h;exact⟨a,vs,e,s,IsL.pre b ds vs l⟩
 | .ref n,v,h=>by unfold Is at*;obtain⟨a,e,q⟩:=h;exact⟨a,b n a e,q⟩
theorem IsL.pre(b:∀(n:Nat) a,μ[n]? =some a->μ'[n]? =some a):∀(ds:List D) (vs:List V),IsL K μ H ds vs->IsL K μ' H ds vs
 | [],vs,h=>by unfold IsL at*;exact h
 | d::ds,vs,h=>by unfold IsL at*;obtain⟨v,r,e,i,l⟩:=h;exact⟨v,r,e,Is.pre b d v i,IsL.pre b ds r l⟩
end
theorem Rep.out(R:Rep K μ mh H)(hm:RQ (H q))(d:q∉μ):Rep K μ mh (upd H q o):=⟨R.len,R.nd,λn a ob c g=>by
 have h:=R.obj n a ob c g;have b:a≠q:=λz=>d (z▸aJu c)
 cases ob with
 | lst ds=>obtain⟨vs,e,l⟩:=h;exact⟨vs,by rw[aV b];exact e,IsL.out hm ds vs l⟩
 | dic t kvs=>obtain⟨vs,e,l⟩:=h;exact⟨vs,by rw[aV b];exact e,IsL.out hm _ vs l⟩
 | fdc t kvs ob=>obtain⟨vs,u,e,i,l⟩:=h;exact⟨vs,u,by rw[aV b];exact e,i,IsL.out hm _ vs l⟩
 | oth ds f=>obtain⟨vs,⟨e,m⟩,l⟩:=h;exact⟨vs,⟨by rw[aV b];exact e,m⟩,IsL.out hm ds vs l⟩⟩
theorem aP.out(P:aP μ H0 μ' H)(h0:H0 q=none):aP μ H0 μ' (upd H q o):=⟨P.pre,λb u e n=>by rw[aV (bK e h0)];exact P.fr b u e n,P.nw⟩
theorem Rep.RL{j:MO}(R:Rep K μ mh H)(o:q∉μ)(e:oY K (μ++[q]) H j q):Rep K (μ++[q]) (mh++[j]) H:=by
 have k:∀{es us},IsL K μ H es us->IsL K (μ++[q]) H es us:=λ{es us} l=>IsL.pre (λn a h=>by rw[List.getElem?_append_left (List.getElem?_eq_some_iff.mp h).1];exact h) es us l;refine⟨by simp[R.len],?_,λn a ob c i=>?_⟩
 ·rw[List.nodup_append];refine⟨R.nd,by simp,λa ha b hb=>?_⟩;simp at hb;subst hb;exact λz=>o (z▸ha)
 ·by_cases m:n<μ.length
  ·rw[List.getElem?_append_left m]at c;rw[List.getElem?_append_left (by rw[<-R.len];exact m)]at i;have h:=R.obj n a ob c i
   cases ob with
   | lst es=>obtain⟨us,d,g⟩:=h;exact⟨us,d,k g⟩
   | dic t kvs=>obtain⟨us,d,g⟩:=h;exact⟨us,d,k g⟩
   | fdc t kvs ob=>obtain⟨us,u,d,p,g⟩:=h;exact⟨us,u,d,p,k g⟩
   | oth ds f=>obtain⟨us,d,g⟩:=h;exact⟨us,d,k g⟩
  ·rw[List.getElem?_append_right (by lia)]at c;rw[List.getElem?_append_right (by rw[<-R.len];lia)]at i
   have hz:n-μ.length=0:=by
    have:=(aJr.mp c).1;simp at this;lia
   rw[hz]at c;rw[<-R.len,hz]at i;simp at c i;subst c i;exact e
theorem Rep.aFz{ds:List D}{vs:List V}(R:Rep K μ mh H)(b:q∉μ)(e:H q=some (.lst vs))(l:IsL K μ H ds vs):Rep K (μ++[q]) (mh++[.lst ds]) H:=
 R.RL b ⟨vs,e,IsL.pre (λn a h=>by rw[List.getElem?_append_left (List.getElem?_eq_some_iff.mp h).1];exact h) ds vs l⟩
end
def kK(own:List Str)(aK:List Nat)(a:gM):gM:=own.map (λ_=>none)++aK.map λi=>(a[i]?).join
def iR(g:WG)(t:WT)(w:WE)(ρe:gM)(St:MH->Prop)(Q:DK):List D->List D->MH->Prop
 | [],ys,mh=>St mh/\Q (.ref mh.length) (mh++[.lst ys])
 | d::ds,ys,mh=>St mh/\g d ρe λa=>t a mh λb c=>if b=true then w a c λy e=>iR g t w ρe St Q ds (ys++[y]) e else iR g t w ρe St Q ds ys c
def uI(own:List Str)(aK:List Nat)(wi:WI)(g:WG)(t:WT)(w:WE):WE:=λb mh Q=>wi b mh λds St a=>iR g t w (kK own aK b) St Q ds [] a
def lQ:WT:=λ_ mh Q=>Q true mh
section
variable {K:aNm}{μ μ1:List Addr}{mh:MH}{H H1:Hp}
theorem aP.away{q:Addr}{o:HO}(P:aP μ H μ1 H1)(a:q∉μ)(e:H q=some o):q∉μ1/\H1 q=some o:=by
 refine⟨λh=>?_,P.fr q o e a⟩;rcases P.nw q h with z | z
 ·exact a z
 ·rw[e]at z;cases z
theorem cQ.emb{a:gM}{σ:L2.St}{own:List Str}{aK:List Nat}(E:cQ K μ H a σ):cQ K μ H (kK own aK a) (rW own aK σ):=by
 refine⟨by simp[kK,rW],λi d h=>?_⟩;unfold kK at h;unfold rW;by_cases hi:i<own.length
 ·rw[List.getElem?_append_left (by simpa using hi),List.getElem?_map]at h
  cases q:own[i]? with
  | none=>rw[q]at h;simp at h
  | some z=>rw[q]at h;simp at h
 ·rw[List.getElem?_append_right (by simpa using hi),List.getElem?_map]at h⊢;simp only[List.length_map]at h⊢
  cases q:aK[i-own.length]? with
  | none=>rw[q]at h;simp at h
  | some k=>
   rw[q]at h;simp only[Option.map_some,Option.some.injEq]at h⊢
   cases r:a[k]? with
   | none=>rw[r]at h;simp at h
   | some z=>
    rw[r]at h;simp at h;subst h;obtain⟨v,b,c⟩:=E.2 k d r;exact⟨v,by rw[b];rfl,c⟩
end
section
variable {X:Cx}
def SA(X:Cx)(es:List Expr)(w:WT):Prop:=PTs X es (YH X.K w)
theorem UU:SA X [] lQ:=λpins s σ H Q I q=>TR pins s σ H Q I (by
 obtain⟨μ,b,mh,R,a,En,h,F⟩:=q
 exact F true mh h μ H aP.refl a)
theorem UT{c:Expr}{t:WT}(h:LT X c t):SA X [c] t:=TQ h
theorem JF{wi:WI}{g:TG}{gd:WG}{t:WT}{w:WE}{own:List Str}{aK:List Nat}(hr:qY X.K g gd){σ:L2.St}(h:tL X.K (uI own aK wi gd t w) σ H Q):tLC own aK (tLI X.K wi) g (YH X.K t) (tL X.K w) σ H Q:=by
 intro _ _;obtain⟨μ,O,mh,R,RR,En,h,F⟩:=h;refine⟨μ,O,mh,_,RR,En,h,λds St W q n J Y P1 P It d j=>?_⟩;have p:d∉n:=λz=>P.ne j z rfl
 refine⟨λi m v H' =>∃μ' mh' f,aP n Y μ' H' /\Rep X.K μ' mh' H' /\d∉μ' /\H' d=some (.lst v)/\IsL X.K μ' H' f v/\f.length<=i/\i<=ds.length/\m=ds.length-i/\iR gd t w (kK own aK O) St R (ds.drop i) f mh',
  ⟨ds.length,n,W,[],aP.out aP.refl j,P.new j,p,bV,by unfold IsL;rfl,aJq _,aKz _,by simp,by simpa using q⟩,?_⟩
 rintro i m v H' ⟨μ',mh',f,r,A,B,Z,l',hd',hi',rfl,c⟩;refine⟨Z,?_⟩;by_cases s:i<ds.length
 ·rw[List.drop_eq_getElem_cons s]at c;obtain⟨hst,c⟩:=c;obtain⟨hgo,hy⟩:=It.go μ' mh' H' (r.weak P) A hst i ds[i] (by simp[s]);refine .inr ⟨hgo,λu C=>∃l o k,aP n Y l C/\Rep X.K l o C/\d∉l/\C d=some (.lst u)/\IsL X.K l C k u/\k.length<=i+1/\iR gd t w (kK own aK O) St R (ds.drop (i+1)) k o,?_,λx H'' y=>?_⟩
  ·rintro u C ⟨l,o,k,P2,R2,ha2,e2,l2,hd2,c2⟩;exact⟨ds.length-(i+1),by lia,l,o,k,P2,R2,ha2,e2,l2,hd2,s,rfl,c2⟩
  ·obtain⟨S,T,Iy⟩:=hy x H'' y;obtain⟨hay,ey⟩:=S.away B Z;have ly:=IsL.mono A S f v l';have P0y:=P1.trans (r.trans S);refine hr x _ H'' _ μ' (kK own aK O) mh' _ _ T (En.mono RR P0y).emb Iy c λD q2 σ2 E=>?_;refine⟨μ',D,mh',_,T,E,q2,λb G U I H3 V R3=>?_⟩;obtain⟨L,e3⟩:=V.away hay ey;have l3:=IsL.mono T V f v ly;have M:=(r.trans S).trans V
   cases b with
   | false=>rw[if_neg Bool.false_ne_true]at U⊢;exact⟨I,G,f,M,R3,L,e3,l3,by lia,U⟩
   | true=>
    rw[if_pos rfl]at U⊢;refine⟨by have:=It.small;rw[aX l'];lia,I,D,G,_,R3,E.mono T V,U,λy mh4 q4 μ4 vy H4 P4 R4 I4=>?_⟩;obtain⟨N,e4⟩:=P4.away L e3;have hm:RQ (H4 d):=by rw[e4];trivial
    have l4:=IsL.mono R3 P4 f v l3;exact⟨e4,μ4,mh4,f++[y],aP.out (M.trans P4) j,R4.out hm N,N,bV,IsL.out hm _ _ (hU l4 (jD I4)),by simp;lia,q4⟩
 ·have e:i=ds.length:=by lia
  subst e;rw[List.drop_of_length_le (Nat.le_refl _)]at c;refine .inl ⟨It.stop μ' mh' H' (r.weak P) A c.1,?_⟩
  have Pa:aP n Y (μ' ++[d]) H' :=⟨by obtain⟨t,rfl⟩:=r.pre;exact⟨t++[d],by simp⟩,r.fr,λa ha=>by
   rcases aJx.mp ha with ha | ha
   ·exact r.nw a ha
   ·simp at ha;subst ha;exact .inr j⟩
  exact F _ _ c.2 (μ' ++[d]) _ H' (P1.trans Pa) (A.aFz B Z l') (by unfold Is;exact⟨d,by rw[<-A.len];simp,rfl⟩)
theorem XR{tg iter a:Expr}{b:List Expr}{scope sc:Scope}{N:List Str}{pos:Pos}{wi:WI}{g:TG}{gd:WG}{t:WT}{w:WE}(own:List Str)(aK:List Nat)
  (hN:X.N=N) (hsc:X.env.scope=sc) (chk:fW N sc scope aK=true) (hcalm:X.calm=true) (hi:LI X tg iter wi) (ho:wY own.length g)
  (c:qY X.K g gd)
  (hg:∀cl C fp s₀ H₀,PG (aW X own aK scope cl C fp s₀ H₀) tg g) (ht:∀cl C fp s₀ H₀,SA (aW X own aK scope cl C fp s₀ H₀) b t)
  (he:∀cl C fp s₀ H₀,LE (aW X own aK scope cl C fp s₀ H₀) a w)
  (hs:∀x,foldedSetIterable iter X.env x=pure x:=by intro _;rfl):LE X (.ListComp a [⟨tg,iter,b,0⟩] scope pos) (uI own aK wi gd t w):=
 PE.imp (aEa (wi:=tLI X.K wi) (tt:=YH X.K t) (te:=tL X.K w) own aK hN hsc chk hcalm hi ho hg (λcl C fp s₀ H₀=>ht cl C fp s₀ H₀) (λcl C fp s₀ H₀=>he cl C fp s₀ H₀) hs) λσ H Q h=>JF c h
theorem PV(i:Nat){x:Str}{a e:Pos}{tg iter b:Expr}{c:List Expr}{scope sc:Scope}{N:List Str}{pos:Pos}{wi:WI}{g:TG}{gd:WG}{t:WT}{w:WE}(nd:X.N.Nodup)(own:List Str)(aK:List Nat)
  (hN:X.N=N) (hsc:X.env.scope=sc) (chk:fW N sc scope aK=true) (hcalm:X.calm=true) (hi:LI X tg iter wi) (ho:wY own.length g)
  (f:qY X.K g gd)
  (hg:∀cl C fp s₀ H₀,PG (aW X own aK scope cl C fp s₀ H₀) tg g) (ht:∀cl C fp s₀ H₀,SA (aW X own aK scope cl C fp s₀ H₀) c t)
  (he:∀cl C fp s₀ H₀,LE (aW X own aK scope cl C fp s₀ H₀) b w)
  (d:X.N[i]? =some x:=by rfl) (hx:Loc X.env.scope x:=by first | exact Or.inl rfl | exact Or.inr rfl) (j:swapsWith (.ListComp b [⟨tg,iter,c,0⟩] scope pos) (some (.Name x a)) e.line X.env=pure true:=by rfl) (k:X.fn x=true\/X.env.scope.names.lookup x=some .local:=by first | exact .inl rfl | exact .inr rfl | assumption)
  (hs:∀x,foldedSetIterable iter X.env x=pure x:=by intro _;rfl):LS X (.Assign [.Name x a] (.ListComp b [⟨tg,iter,c,0⟩] scope pos) e) (bG (uI own aK wi gd t w) (gN i)):=
 PS.imp (OE (wi:=tLI X.K wi) (tt:=YH X.K t) (te:=tL X.K w) own aK hN hsc chk hcalm hi ho hg (λcl C fp s₀ H₀=>ht cl C fp s₀ H₀) (λcl C fp s₀ H₀=>he cl C fp s₀ H₀) nd d hx j k hs) λD σ H h=>JF f (HJ (A6 i) h)
end
mutual
def bZ(n:Nat):D->Bool
 | .ref k=>decide (k<n)
 | .tup ds=>aO n ds
 | .fl ds=>aO n ds
 | _=>true
def aO(n:Nat):List D->Bool
 | []=>true
 | d::ds=>bZ n d && aO n ds
end
def F6(n:Nat):MO->Bool
 | .lst ds=>aO n ds
 | .dic _ kvs=>aO n (kvs.map (·.2))
 | .fdc _ kvs _=>aO n (kvs.map (·.2))
 | .oth ds _=>aO n ds
def iA(mh:MH):Prop:=∀o∈mh,F6 mh.length o=true
section
variable {K:aNm}{μ:List Addr}{mh:MH}{H:Hp}
mutual
theorem TB:∀(d:D) (v:V),Is K μ H d v->bZ μ.length d=true
 | .bY,v,h=>rfl
 | .bl _,v,h=>rfl
 | .int _,v,h=>rfl
 | .str _,v,h=>rfl
 | .ty _,v,h=>rfl
 | .tup ds,v,h=>by obtain⟨a,vs,_,_,l⟩:=dY h;simpa[bZ] using f9 ds vs l
 | .fl ds,v,h=>by obtain⟨a,vs,_,_,l⟩:=oR h;simpa[bZ] using f9 ds vs l
 | .ref n,v,h=>by obtain⟨a,e,_⟩:=mY h;simpa[bZ] using (aJr.mp e).1
theorem f9:∀(ds:List D) (vs:List V),IsL K μ H ds vs->aO μ.length ds=true
 | [],vs,h=>rfl
 | d::ds,vs,h=>by
  unfold IsL at h;obtain⟨v,r,_,i,l⟩:=h;simp only[aO,TB d v i,f9 ds r l,Bool.and_self]
end
theorem Rep.mok(R:Rep K μ mh H):iA mh:=λo ho=>by
 obtain⟨n,a⟩:=aKi.mp ho;have b:n<μ.length:=by rw[R.len];exact(aJr.mp a).1
 have h:=R.obj n μ[n] o (by simp[b]) a;rw[<-R.len]
 cases o with
 | lst ds=>obtain⟨vs,_,l⟩:=h;exact f9 ds vs l
 | dic t kvs=>obtain⟨vs,_,l⟩:=h;exact f9 _ vs l
 | fdc t kvs ob=>obtain⟨vs,_,_,_,l⟩:=h;exact f9 _ vs l
 | oth ds f=>obtain⟨vs,_,l⟩:=h;exact f9 _ vs l
mutual
theorem Is.cut{n:Nat}:∀(d:D) (v:V),bZ n d=true->Is K μ H d v->Is K (μ.take n) H d v
 | .bY,v,_,h=>by unfold Is at*;exact h
 | .bl _,v,_,h=>by unfold Is at*;exact h
 | .int _,v,_,h=>by unfold Is at*;exact h
 | .str _,v,_,h=>by unfold Is at*;exact h
 | .ty _,v,_,h=>by unfold Is at*;exact h
 | .tup ds,v,b,h=>by unfold Is at*;obtain⟨a,vs,e,s,l⟩:=h;exact⟨a,vs,e,s,IsL.cut ds vs (by simpa[bZ] using b) l⟩
 | .fl ds,v,b,h=>by unfold Is at*;obtain⟨a,vs,e,s,l⟩:=h;exact⟨a,vs,e,s,IsL.cut ds vs (by simpa[bZ] using b) l⟩
 | .ref k,v,b,h=>by unfold Is at*;obtain⟨a,e,q⟩:=h;exact⟨a,by rw[List.getElem?_take_of_lt (by simpa[bZ] using b)];exact e,q⟩
theorem IsL.cut{n:Nat}:∀(ds:List D) (vs:List V),aO n ds=true->IsL K μ H ds vs->IsL K (μ.take n) H ds vs
 | [],vs,_,h=>by unfold IsL at*;exact h
 | d::ds,vs,b,h=>by
  unfold IsL at*;simp only[aO,Bool.and_eq_true]at b;obtain⟨v,r,e,i,l⟩:=h;exact⟨v,r,e,Is.cut d v b.1 i,IsL.cut ds r b.2 l⟩
end
theorem Rep.cut{c d:MH}(R:Rep K μ (c++d) H)(ok:iA c):Rep K (μ.take c.length) c H:=by
 have k:c.length<=μ.length:=by rw[R.len];simp
 refine⟨by simp[k],List.Nodup.sublist (aNb _ _) R.nd,λn a o i g=>?_⟩;have j:n<c.length:=(aJr.mp g).1;rw[List.getElem?_take_of_lt j]at i;have h:=R.obj n a o i (by rw[List.getElem?_append_left j];exact g);have b:=ok o (aJu g)
 cases o with
 | lst ds=>obtain⟨vs,e,l⟩:=h;exact⟨vs,e,IsL.cut ds vs b l⟩
 | dic t kvs=>obtain⟨vs,e,l⟩:=h;exact⟨vs,e,IsL.cut _ vs b l⟩
 | fdc t kvs ob=>obtain⟨vs,u,e,m,l⟩:=h;exact⟨vs,u,e,m,IsL.cut _ vs b l⟩
 | oth ds f=>obtain⟨vs,e,l⟩:=h;exact⟨vs,e,IsL.cut ds vs b l⟩
end
def Out(n:Nat)(d:D)(c:MH)(R:DK):Prop:=R d c\/(∃a b,c=a++b/\n<=a.length/\iA a/\bZ a.length d=true/\R d a)\/
 ∃a b j o,c=a++b/\n<=a.length/\iA a/\d= .ref j/\a.length<=j/\c[j]? =some o/\F6 a.length o=true/\R (.ref a.length) (a++[o])
variable{μ:List Addr}{mh:MH}
theorem UD(I:Rep K μ mh H)(F:Fin K μ H R Q):Fin K μ H (λd x=>Out mh.length d x R) Q:=by
 intro d x h i v y p A D
 have s:∀{g:MH},mh.length<=g.length->∃t,i.take g.length=μ++t:=λ{g} m=>by
  obtain⟨t,rfl⟩:=p.pre;rw[List.take_append,List.take_of_length_le (by rw[I.len];exact m)];exact⟨_,rfl⟩
 rcases h with h | ⟨g,B,rfl,m,ok,b,h⟩ | ⟨g,B,j,o,rfl,m,ok,rfl,L,ho,b,h⟩
 ·exact F d x h i v y p A D
 ·exact F d g h (i.take g.length) v y ⟨s m,p.fr,λa ha=>p.nw a (aKp ha)⟩ (A.cut ok) (Is.cut d v b D)
 ·have C:=A.cut ok;obtain⟨a,ha,rfl⟩:=mY D;have w:=A.obj j a o ha ho;have q:(i.take g.length).length=g.length:=C.len
  have r:a∉i.take g.length:=λz=>by
   obtain⟨k,E⟩:=aKi.mp z;have G:k<g.length:=by have:=(aJr.mp E).1;lia
   rw[List.getElem?_take_of_lt G]at E;have:=O6 A.nd E ha
   lia
  cases o with
  | lst ds=>
   obtain⟨vs,e,l⟩:=w;refine F _ _ h (i.take g.length++[a]) _ y ⟨?_,p.fr,λc hc=>?_⟩ (C.aFz r e (IsL.cut ds vs b l)) (by unfold Is;exact⟨a,by rw[<-q];simp,rfl⟩)
   ·obtain⟨t,ht⟩:=s m;exact⟨t++[a],by rw[ht];simp⟩
   ·rcases aJx.mp hc with hc | hc
    ·exact p.nw c (aKp hc)
    ·simp at hc;subst hc;exact p.nw c (aJu ha)
  | dic t kvs=>
   obtain⟨vs,e,l⟩:=w;refine F _ _ h (i.take g.length++[a]) _ y ⟨?_,p.fr,λc hc=>?_⟩ (C.RL r ⟨vs,e,IsL.pre (λn a h=>by rw[List.getElem?_append_left (List.getElem?_eq_some_iff.mp h).1];exact h) _ vs (IsL.cut _ vs b l)⟩) (by unfold Is;exact⟨a,by rw[<-q];simp,rfl⟩)
   ·obtain⟨t,ht⟩:=s m;exact⟨t++[a],by rw[ht];simp⟩
   ·rcases aJx.mp hc with hc | hc
    ·exact p.nw c (aKp hc)
    ·simp at hc;subst hc;exact p.nw c (aJu ha)
  | oth ds f=>
   obtain⟨vs,e,l⟩:=w;refine F _ _ h (i.take g.length++[a]) _ y ⟨?_,p.fr,λc hc=>?_⟩ (C.RL r ⟨vs,e,IsL.pre (λn a h=>by rw[List.getElem?_append_left (List.getElem?_eq_some_iff.mp h).1];exact h) _ vs (IsL.cut _ vs b l)⟩) (by unfold Is;exact⟨a,by rw[<-q];simp,rfl⟩)
   ·obtain⟨t,ht⟩:=s m;exact⟨t++[a],by rw[ht];simp⟩
   ·rcases aJx.mp hc with hc | hc
    ·exact p.nw c (aKp hc)
    ·simp at hc;subst hc;exact p.nw c (aJu ha)
  | fdc t kvs ob=>
   obtain⟨vs,u,e,J,l⟩:=w;refine F _ _ h (i.take g.length++[a]) _ y ⟨?_,p.fr,λc hc=>?_⟩ (C.RL r ⟨vs,u,e,J,IsL.pre (λn a h=>by rw[List.getElem?_append_left (List.getElem?_eq_some_iff.mp h).1];exact h) _ vs (IsL.cut _ vs b l)⟩) (by unfold Is;exact⟨a,by rw[<-q];simp,rfl⟩)
   ·obtain⟨t,ht⟩:=s m;exact⟨t++[a],by rw[ht];simp⟩
   ·rcases aJx.mp hc with hc | hc
    ·exact p.nw c (aKp hc)
    ·simp at hc;subst hc;exact p.nw c (aJu ha)
def aG(N:List Str)(ds:List D):gM:=ds.map some++List.replicate (N.length-ds.length) none
variable{N:List Str}{ds:List D}
theorem NR{vs:List V}(l:IsL K μ H ds vs):cQ K μ H (aG N ds) (L2.start N vs):=by
 have a:=aX l;refine⟨by simp[aG,L2.start,a],λi d h=>?_⟩;unfold aG at h;unfold L2.start;by_cases hi:i<ds.length
 ·rw[List.getElem?_append_left (by simpa using hi),List.getElem?_map]at h;obtain⟨d',b,c⟩:=aKr.mp h;cases c;obtain⟨v,e,f⟩:=eL l b;exact⟨v,by rw[List.getElem?_append_left (by simpa[a] using hi),List.getElem?_map,e];rfl,f⟩
 ·rw[List.getElem?_append_right (by simpa using hi)]at h;obtain⟨_,h⟩:=aJr.mp h;simp at h
section
variable {P:Program}{w:World}{K:aNm}{mg:aNp}{base:Heap}
theorem aFq{x qual:Str}{st:Stmt}{f:Addr}{fd:FuncData}{N ps:List Str}{k:Nat}{s:OA}{wB:WS}(F:Fun K x qual st f fd)(S:aN N ps (aE st))(len:∀ds mh R,s ds mh R->ds.length=ps.length)
  (hb:∀(cdv:Value) (A:Around) (outer:List Env) (s:Shared) (H:Hp) (E:XK),gL k (A.deeper (envOfC qual (aE st) s.heap.objs.size f cdv))->
   jJ (wG FE P w K mg base N qual (aE st) f cdv A outer s H E).UL (cG st) wB)
  (g:∀ds mh R,iA mh->aO mh.length ds=true->s ds mh R->wB {nx:=λ_ a=>Out mh.length .bY a R,rt:=λd a=>Out mh.length d a R} (aG N ds) mh):kP P w K mg base FE (k+1) f fd ps (R0 K s):=by
 refine F.ok S (λvs H Q E h=>?_) (λcdv A outer i H vs Q E j h=>?_)
 ·obtain⟨μ,mh,ds,R,b,c,h,_⟩:=h;rw[aX c];exact len ds mh R h
 ·obtain⟨μ,mh,ds,R,b,c,h,l⟩:=h;refine⟨_,hb cdv A outer i H E j,μ,aG N ds,mh,_,b,NR c,g ds mh R b.mok (by rw[<-b.len];exact f9 ds vs c) h,?_⟩;have e:=UD b l;exact⟨λm mh' q μ' n H' o p r =>e .bY mh' q μ' .bY H' o p .bY,e,λ_ _ q=>False.elim q,λ_ _ q=>False.elim q⟩
end
def Fn(P:Program)(w:World)(K:aNm)(mg:aNp)(base:Heap)(k:Nat)(x:Str)(ps:List Str)(s:OA):Prop:=
 ∃f fd,kP P w K mg base FE k f fd ps (R0 K s)/\mg x=some (.ref f)/\PySem.W.keepIn K (.ref f)=true/\Binds K fd ps []
variable{P:Program}{w:World}{mg:aNp}{x:Str}{ps:List Str}
theorem Fn.mono{base:Heap}{j k:Nat}{s:OA}(h:Fn P w K mg base j x ps s)(e:j<=k):Fn P w K mg base k x ps s:=
 let ⟨f,fd,a,b,c,d⟩:=h;⟨f,fd,a.mono e,b,c,d⟩
theorem Fn.imp{base:Heap}{k:Nat}{s g :OA}(h:Fn P w K mg base k x ps s)(hi:∀ds mh R,g ds mh R->s ds mh R):Fn P w K mg base k x ps g :=
 let ⟨f,fd,a,b,c,d⟩:=h;⟨f,fd,a.imp λvs H Q E e=>by obtain⟨μ,mh,ds,R,i,j,l,m⟩:=e;exact⟨μ,mh,ds,R,i,j,hi ds mh R l,m⟩,b,c,d⟩
def qX(K:aNm)(mg:aNp)(x:Str)(d:D):Prop:=∃v u,mg x=some u/\RelV v u/\∀μ H,Is K μ H d v
section
variable {X:Cx}{e:Expr}{es:List Expr}{wr:WA}{pos p:Pos}{x:Str}
theorem P8{k:Nat}{s:OA}(F:Fn X.prog X.w X.K X.mg X.base k x ps s)(i:gL k X.A)(ha:LA X (e::es) wr)(hg:Gl X x:=by rfl)(g:(x==("__debug__":Str))=false:=by decide)
  (he:starEach (e::es) X.env=(false,eval e X.env)::starEach es X.env:=by rfl) (h:(backTo pos (starEach es X.env)).any (·.1)=false:=by rfl):LE X (.Call (.Name x p) (e::es) [] pos) (aD s wr):=by
 obtain⟨f,fd,a,b,c,d⟩:=F;exact VA a i hg b c d ha g he h
theorem aF6{d:D}(h:qX X.K X.mg x d)(hg:Gl X x:=by rfl)(hd:(x==("__debug__":Str))=false:=by decide):LE X (.Name x pos) (wC d):=by
 obtain⟨v,u,a,b,c⟩:=h;exact U6 hg a b c hd
theorem JD{T:String}(hm:X.mg x=none)(a:bootBuiltins x=some (.type T))(hg:Gl X x:=by rfl)(b:x≠ "__name__":=by decide)(hd:(x==("__debug__":Str))=false:=by decide):LE X (.Name x pos) (wC (.ty T)):=U5 hg hm a b hd
theorem aF9{id:String}{f:OA}(c:cB X (.builtin id) (eG X.K f))(hm:X.mg x=none)(d:bootBuiltins x=some (.builtin id))(ha:LA X (e::es) wr)(hg:Gl X x:=by rfl)(g:x≠ "__name__":=by decide)(a:(x==("__debug__":Str))=false:=by decide)
  (he:starEach (e::es) X.env=(false,eval e X.env)::starEach es X.env:=by rfl) (b:(backTo pos (starEach es X.env)).any (·.1)=false:=by rfl):LE X (.Call (.Name x p) (e::es) [] pos) (aD f wr):=P9 c hg hm d ha g a he b
theorem aF7{T:String}{f:OA}(c:cB X (.type T) (eG X.K f))(hm:X.mg x=none)(d:bootBuiltins x=some (.type T))(ha:LA X (e::es) wr)(hg:Gl X x:=by rfl)(g:x≠ "__name__":=by decide)(a:(x==("__debug__":Str))=false:=by decide)
  (he:starEach (e::es) X.env=(false,eval e X.env)::starEach es X.env:=by rfl) (b:(backTo pos (starEach es X.env)).any (·.1)=false:=by rfl):LE X (.Call (.Name x p) (e::es) [] pos) (aD f wr):=LH c hg hm d ha g a he b
theorem SW(i:Nat)(hN:X.N.Nodup)(hi:X.N[i]? =some x:=by rfl)(hx:Loc X.env.scope x:=by first | exact Or.inl rfl | exact Or.inr rfl)(a:X.fn x=true\/X.env.scope.names.lookup x=some .local:=by first | exact .inl rfl | exact .inr rfl):PG X (.Name x pos) (sW i):=T7 hN hi hx a
theorem aEp{op:CmpOp}(b:Expr)(h:op≠ .In:=by decide)(a:op≠ .NotIn:=by decide):behindInMarks op b=false:=OX b h a
end
structure Bl(mg:aNp):Prop where
 len:mg "len"=none
 range:mg "range"=none
 zip:mg "zip"=none
 all:mg "all"=none
 any:mg "any"=none
 abs:mg "abs"=none
 min:mg "min"=none
 max:mg "max"=none
 isinstance:mg "isinstance"=none
 sorted:mg "sorted"=none
 int:mg "int"=none
 str:mg "str"=none
 bool:mg "bool"=none
 list:mg "list"=none
 tuple:mg "tuple"=none
 set:mg "set"=none
 dict:mg "dict"=none
 sum:mg "sum"=none
 enumerate:mg "enumerate"=none
theorem RJ:bootBuiltins "int"=some (.type "int"):=by decide+kernel
theorem aC7:bootBuiltins "str"=some (.type "str"):=by decide+kernel
theorem WJ:bootBuiltins "bool"=some (.type "bool"):=by decide+kernel
theorem WH:bootBuiltins "list"=some (.type "list"):=by decide+kernel
theorem EX:bootBuiltins "tuple"=some (.type "tuple"):=by decide+kernel
theorem aC8:bootBuiltins "set"=some (.type "set"):=by decide+kernel
theorem RI:bootBuiltins "len"=some (.builtin "len"):=by decide+kernel
theorem aCb:bootBuiltins "all"=some (.builtin "all"):=by decide+kernel
theorem aCc:bootBuiltins "abs"=some (.builtin "abs"):=by decide+kernel
theorem aC9:bootBuiltins "min"=some (.builtin "min"):=by decide+kernel
theorem aCa:bootBuiltins "max"=some (.builtin "max"):=by decide+kernel
theorem xS:bootBuiltins "isinstance"=some (.builtin "isinstance"):=by decide+kernel
theorem nS:bootBuiltins "sorted"=some (.builtin "sorted"):=by decide+kernel
def oLt:O2:=λx y mh Q=>match x with
 | .int i=>match y with | .int j=>Q (.bl (decide (i<j))) mh | _=>False
 | .str a=>match y with | .str b=>Q (.bl (decide (a.cps.toList<b.cps.toList))) mh | _=>False
 | _=>False
def DD:O2:=λx y mh Q=>match x with
 | .int i=>match y with | .int j=>Q (.bl (decide (j<i))) mh | _=>False
 | _=>False
section
variable {X:Cx}
theorem aEk(f:X.A.units+64<cLine):gE X (compareOp .Lt) (bT X.K oLt):=by
 intro pins s σ H x y v u Q I a b q;obtain⟨μ,mh,dx,c,R,d,ix,e,q,F⟩:=q
 cases dx with
 | int i=>cases c with
  | int j=>cases bU ix;cases bU e;exact aEf pins s σ H _ _ v u Q I a b ⟨i,j,rfl,rfl,F.here d q .bl⟩
  | _=>exact False.elim q
 | str i=>cases c with
  | str j=>cases jS ix;cases jS e;exact K4 pins s σ H _ _ v u Q I a b ⟨i,j,rfl,rfl,F.here d q .bl⟩
  | _=>exact False.elim q
 | _=>exact False.elim q
theorem aEm(f:X.A.units+64<cLine):gE X (compareOp .Gt) (bT X.K DD):=by
 intro pins s σ H x y v u Q I a b q;obtain⟨μ,mh,dx,c,R,d,ix,e,q,F⟩:=q
 cases dx with
 | int i=>cases c with
  | int j=>cases bU ix;cases bU e;exact aEg pins s σ H _ _ v u Q I a b ⟨i,j,rfl,rfl,F.here d q .bl⟩
  | _=>exact False.elim q
 | _=>exact False.elim q
end
variable{α:Type}
def got(o:Option α)(k:α->Prop):Prop:=match o with | some a=>k a | none=>False
@[simp] theorem aI (a:α)(k:α->Prop):got (some a) k=k a:=rfl
@[simp] theorem aFm (k:α->Prop):got none k=False:=rfl
theorem fE(o:Option α)(k:α->Prop):(∃a,o=some a/\k a)↔got o k:=by
 cases o <;> simp[got]
def asB:D->Option Bool | .bl b=>some b | _=>none
def asI:D->Option Int | .int i=>some i | _=>none
@[simp] theorem aJb (b:Bool):asB (.bl b)=some b:=rfl
@[simp] theorem aGt (i:Int):asI (.int i)=some i:=rfl
theorem exB(x:D)(P:Bool->Prop):(∃k,x= .bl k/\P k)=got (asB x) P:=by
 apply propext
 cases x with
 | bl b=>exact⟨λa=>by obtain⟨k,e,h⟩:=a;cases e;exact h,λh=>⟨b,rfl,h⟩⟩
 | _=>exact⟨λc=>by obtain⟨k,e,h⟩:=c;exact(by cases e),λh=>False.elim h⟩
theorem exI(x:D)(P:Int->Prop):(∃k,x= .int k/\P k)=got (asI x) P:=by
 apply propext
 cases x with
 | int b=>exact⟨λa=>by obtain⟨k,e,h⟩:=a;cases e;exact h,λh=>⟨b,rfl,h⟩⟩
 | _=>exact⟨λc=>by obtain⟨k,e,h⟩:=c;exact(by cases e),λh=>False.elim h⟩
section
variable {mh:MH}{Q:DK}{ρ:gM}
@[simp] theorem aDn (i:Nat):aB i ρ mh Q↔got ((ρ[i]?).join) λd=>Q d mh:=by
 unfold aB
 cases h:ρ[i]? with
 | none=>simp
 | some o=>cases o <;> simp
@[simp] theorem s_c (d:D):wC d ρ mh Q=(Q d mh):=rfl
@[simp] theorem aHs (f:O2)(a b:WE):aZ f a b ρ mh Q=(a ρ mh λx c=>b ρ c λy d=>f x y d Q):=rfl
@[simp] theorem s_un (f:O1)(a:WE):RX f a ρ mh Q=(a ρ mh λx b=>f x b Q):=rfl
@[simp] theorem aDq (R:List D->MH->Prop):aC ρ mh R=(R [] mh):=rfl
@[simp] theorem YR (a:WE)(r:WA)(R:List D->MH->Prop):aA a r ρ mh R=(a ρ mh λx b=>r ρ b λxs c=>R (x::xs) c):=rfl
@[simp] theorem s_call (f:OA)(a:WA):aD f a ρ mh Q=(a ρ mh λds b=>f ds b Q):=rfl
@[simp] theorem s_tup (a:WA):cV a ρ mh Q=(a ρ mh λds b=>ds.length<=sizeLine/\Q (.tup ds) b):=rfl
@[simp] theorem s_lst (a:WA):gI a ρ mh Q=(a ρ mh λds b=>ds.length<=sizeLine/\Q (.ref b.length) (b++[.lst ds])):=rfl
@[simp] theorem aI9 (a b:WE):CI a b ρ mh Q↔a ρ mh λx d=>got (asB x) λc=>if c=true then b ρ d Q else Q (.bl false) d:=by unfold CI;simp only[exB]
@[simp] theorem aHt (a:WE):HY a ρ mh Q↔a ρ mh λx b=>got (asB x) λc=>Q (.bl !c) b:=by unfold HY;simp only[exB]
@[simp] theorem s_if (t:WT)(a b:WE):wIf t a b ρ mh Q=(t ρ mh λc d=>if c=true then a ρ d Q else b ρ d Q):=rfl
@[simp] theorem s_sl (f:OS)(a:WE)(l h:WO):wSl f a l h ρ mh Q=(a ρ mh λx b=>l ρ b λlo c=>h ρ c λhi d=>f x lo hi d Q):=rfl
@[simp] theorem s_no (R:Option Int->MH->Prop):wNo ρ mh R=(R none mh):=rfl
@[simp] theorem aHr (a:WE)(R:Option Int->MH->Prop):HX a ρ mh R↔a ρ mh λx b=>got (asI x) λi=>R (some i) b:=by unfold HX;simp only[exI]
@[simp] theorem s_mt (T:String)(f:OM)(a:WE)(r:WA):uH T f a r ρ mh Q=(a ρ mh λx b=>nW b T x/\r ρ b λds c=>f x ds c Q):=rfl
@[simp] theorem s_lc (own:List Str)(aK:List Nat)(i:WI)(g:WG)(t:WT)(a:WE):uI own aK i g t a ρ mh Q=(i ρ mh λds St b=>iR g t a (kK own aK ρ) St Q ds [] b):=rfl
variable {R:Bool->MH->Prop}
@[simp] theorem s_tst (a:WE):eO a ρ mh R↔a ρ mh λx b=>got (asB x) λk=>R k b:=by unfold eO;simp only[exB]
@[simp] theorem s_tru (a:WE):o5 a ρ mh R↔a ρ mh λx b=>got (jP b x) λk=>R k b:=by
 unfold o5
 have:(λx b=>∃k,jP b x=some k/\R k b)=λx b=>got (jP b x) λk=>R k b:=by
  funext x m;exact propext (fE _ _)
 rw[this]
@[simp] theorem aIa (t u:WT):IC t u ρ mh R=(t ρ mh λc a=>if c=true then u ρ a R else R false a):=rfl
@[simp] theorem s_orT (t u:WT):KL t u ρ mh R=(t ρ mh λc a=>if c=true then R true a else u ρ a R):=rfl
@[simp] theorem aHu (t:WT):j8 t ρ mh R=(t ρ mh λc a=>R (!c) a):=rfl
@[simp] theorem XD:lQ ρ mh R=(R true mh):=rfl
variable {E:jK}
@[simp] theorem aHw:dA E ρ mh=(E.nx ρ mh):=rfl
@[simp] theorem s_seq (t u:WS):aR t u E ρ mh=(t {E with nx:=u E} ρ mh):=rfl
@[simp] theorem s_brk:X6 E ρ mh=(E.bk ρ mh):=rfl
@[simp] theorem aI5 (a:WE):e9 a E ρ mh=(a ρ mh λ_ b=>E.nx ρ b):=rfl
@[simp] theorem s_ret (a:WE):cK a E ρ mh=(a ρ mh E.rt):=rfl
@[simp] theorem s_ifS (t:WT)(a b:WS):g9 t a b E ρ mh=(t ρ mh λc d=>if c=true then a E ρ d else b E ρ d):=rfl
@[simp] theorem aDv (a:WE)(g:WG):bG a g E ρ mh=(a ρ mh λd b=>g d ρ λc =>E.nx c b):=rfl
@[simp] theorem aHn (a o i:WE):HW a o i E ρ mh=(a ρ mh λd b=>o ρ b λob c=>i ρ c λix e=>S6 ob ix d e λf=>E.nx ρ f):=rfl
@[simp] theorem s_for (i:WI)(g:WG)(b:WS):nV i g b E ρ mh=(i ρ mh λds St a=>lO g b E St ds ρ a):=rfl
@[simp] theorem aI4 (i:Nat)(d:D)(P:gM->Prop):gN i d ρ P=(P (ρ.set i (some d))):=rfl
@[simp] theorem aGc (P:gM->Prop):fJ [] ρ P↔P ρ:=by simp[fJ]
@[simp] theorem aDt (t:WG)(u:M8)(d:D)(r:List D)(P:gM->Prop):aT t u (d::r) ρ P↔t d ρ λc =>u r c P:=⟨λf=>by obtain⟨a,b,e,h⟩:=f;cases e;exact h,λh=>⟨d,r,rfl,h⟩⟩
@[simp] theorem s_gT (n:Nat)(u:M8)(ds:List D)(P:gM->Prop):gT n u (.tup ds) ρ P↔ds.length=n/\u ds ρ P:=by
 unfold gT;exact⟨λa=>by obtain⟨es,e,h⟩:=a;cases e;exact h,λh=>⟨ds,rfl,h⟩⟩
@[simp] theorem aHo (a:WE)(P:List D->(MH->Prop)->MH->Prop):e8 a ρ mh P↔a ρ mh λx b=>got (bC b x) λds=>P ds (λmh' =>bC mh' x=some ds) b:=by
 unfold e8
 have:(λx b=>∃ds,bC b x=some ds/\P ds (λmh' =>bC mh' x=some ds) b)=λx b=>got (bC b x) λds=>P ds (λmh' =>bC mh' x=some ds) b:=by
  funext x m;exact propext (fE _ _)
 rw[this]
@[simp] theorem aHp (a:WA)(P:List D->(MH->Prop)->MH->Prop):mF a ρ mh P=(a ρ mh λds b=>∃j,ds=[.int j]/\ -(2^62)<=j/\j<=sizeLine/\P (eQ 0 j.toNat) (λ_=>True) b):=rfl
@[simp] theorem aHm (a:WA)(P:List D->(MH->Prop)->MH->Prop):x4 a ρ mh P↔a ρ mh λxs b=>match xs with
  | [x,y]=>got (bC b x) λds=>got (bC b y) λes=>ds.length<=sizeLine/\P (nU ds es) (λmh' =>bC mh' x=some ds/\bC mh' y=some es) b
  | _=>False:=by
 unfold x4
 have:(λxs b=>∃x y ds es,xs=[x,y]/\bC b x=some ds/\bC b y=some es/\ds.length<=sizeLine/\P (nU ds es) (λmh' =>bC mh' x=some ds/\bC mh' y=some es) b)=λxs b=>match xs with
  | [x,y]=>got (bC b x) λds=>got (bC b y) λes=>ds.length<=sizeLine/\P (nU ds es) (λmh' =>bC mh' x=some ds/\bC mh' y=some es) b
  | _=>False:=by
  funext xs m;apply propext
  match xs with
  | []=>simp
  | [_]=>simp
  | [x,y]=>
   simp only[<-fE];constructor
   ·rintro⟨f,g,ds,es,e,c,d,h⟩;cases e;exact⟨ds,c,es,d,h⟩
   ·rintro⟨ds,c,es,d,h⟩;exact⟨x,y,ds,es,rfl,c,d,h⟩
  | _::_::_::_=>simp
 rw[this]
@[simp high] theorem aGq (b:Int)(P:Int->Prop):(∃c,[D.int b]=[D.int c]/\P c)↔P b:=⟨λa=>by obtain⟨c,e,h⟩:=a;cases e;exact h,λh=>⟨b,rfl,h⟩⟩
@[simp high] theorem aGp (a b:Int)(P:Int->Int->Prop):(∃c d,[D.int a,D.int b]=[D.int c,D.int d]/\P c d)↔P a b:=⟨λf=>by obtain⟨c,d,e,h⟩:=f;cases e;exact h,λh=>⟨a,b,rfl,h⟩⟩
@[simp] theorem NY (C:Int->Int->Prop)(g:Int->Int->D)(i j:Int):DC C g (.int i) (.int j) mh Q↔C i j/\Q (g i j) mh:=by
 unfold DC;exact⟨λc=>by obtain⟨a,b,e,f,h⟩:=c;cases e;cases f;exact h,λh=>⟨i,j,rfl,rfl,h⟩⟩
@[simp] theorem s_neg (i:Int):xC (.int i) mh Q↔Q (.int (-i)) mh:=by
 unfold xC;exact⟨λb=>by obtain⟨a,e,h⟩:=b;cases e;exact h,λh=>⟨i,rfl,h⟩⟩
@[simp] theorem zX (i j:Int):iT (.int i) (.int j) mh Q=(Q (.int (i+j)) mh):=rfl
@[simp] theorem aIc (i j:Str):iT (.str i) (.str j) mh Q=(i.length+j.length<=sizeLine/\Q (.str (i++j)) mh):=rfl
@[simp] theorem aIb (i j:List D):iT (.tup i) (.tup j) mh Q=(i.length+j.length<=sizeLine/\Q (.tup (i++j)) mh):=rfl
@[simp] theorem aDr (ds:List D)(i:Int):cM (.tup ds) (.int i) mh Q↔got (jH ds i) λd=>Q d mh:=by
 unfold cM;rw[<-fE];exact⟨λb=>by obtain⟨a,e,es,d,f,g,h⟩:=b;cases e;cases f;exact⟨d,g,h⟩,λc=>by obtain⟨d,f,h⟩:=c;exact⟨i,rfl,ds,d,rfl,f,h⟩⟩
@[simp] theorem aDs (ds:List D)(i:Int):cM (.fl ds) (.int i) mh Q↔got (jH ds i) λd=>Q d mh:=by
 unfold cM;rw[<-fE];exact⟨λb=>by obtain⟨a,e,es,d,f,g,h⟩:=b;cases e;cases f;exact⟨d,g,h⟩,λc=>by obtain⟨d,f,h⟩:=c;exact⟨i,rfl,ds,d,rfl,f,h⟩⟩
variable{n:Nat}
theorem dF(h:mh[n]? =some (.lst ds))(i:Int):cM (.ref n) (.int i) mh Q↔got (jH ds i) λd=>Q d mh:=by
 unfold cM;rw[<-fE];have e:bC mh (.ref n)=some ds:=by simp[bC,h]
 exact⟨λb=>by obtain⟨a,j,es,d,f,k,g⟩:=b;cases j;rw[e]at f;cases f;exact⟨d,k,g⟩,λc=>by obtain⟨d,f,g⟩:=c;exact⟨i,rfl,ds,d,e,f,g⟩⟩
@[simp] theorem s_ltI (i j:Int):oLt (.int i) (.int j) mh Q=(Q (.bl (decide (i<j))) mh):=rfl
@[simp] theorem s_gtI (i j:Int):DD (.int i) (.int j) mh Q=(Q (.bl (decide (j<i))) mh):=rfl
@[simp] theorem s_eqI (i j:Int):oEq (.int i) (.int j) mh Q↔Q (.bl (i==j)) mh:=by simp[oEq,hZ,bare,deep,d5]
@[simp] theorem s_neI (i j:Int):XI (.int i) (.int j) mh Q↔Q (.bl (!(i==j))) mh:=by simp[XI,hZ,bare,deep,d5]
@[simp] theorem s_eqB (i j:Bool):oEq (.bl i) (.bl j) mh Q↔Q (.bl (i==j)) mh:=by simp[oEq,hZ,bare,deep,d5]
@[simp] theorem s_neB (i j:Bool):XI (.bl i) (.bl j) mh Q↔Q (.bl (!(i==j))) mh:=by simp[XI,hZ,bare,deep,d5]
@[simp] theorem s_eqS (i j:Str):oEq (.str i) (.str j) mh Q↔Q (.bl (i==j)) mh:=by simp[oEq,hZ,bare,deep,d5]
@[simp] theorem aDu (i j:List D):oEq (.tup i) (.tup j) mh Q↔cI i=true/\cI j=true/\bX i+1<=40/\Q (.bl (cS i j)) mh:=by simp[oEq,hZ,bare,deep,d5]
@[simp] theorem aHv (x:D):vD x .bY mh Q↔Q (.bl !yV x) mh:=by simp[vD]
@[simp] theorem aI3 (x:D)(T:String):wU [x,.ty T] mh Q↔got (XB mh x) λt=>T∈bJ/\Q (.bl (rC t T)) mh:=by
 unfold wU;rw[<-fE];constructor
 ·rintro⟨f,c,t,e,a,⟨g,b,d,h⟩ | ⟨i,b,_⟩⟩
  ·cases e;cases b;exact⟨t,a,d,h⟩
  ·cases e;cases b
 ·rintro⟨t,a,d,h⟩;exact⟨x,_,t,rfl,a,.inl ⟨T,rfl,d,h⟩⟩
@[simp] theorem aI2 (x:D)(T U:String):wU [x,.tup [.ty T,.ty U]] mh Q↔got (XB mh x) λt=>T∈bJ/\U∈bJ/\Q (.bl (rC t T || rC t U)) mh:=by
 unfold wU;rw[<-fE];constructor
 ·rintro⟨k,c,t,e,d,⟨g,f,a,h⟩ | ⟨i,f,a,h⟩⟩
  ·cases e;cases f
  ·cases e;injection f with b
   match i,b with
   | [g,l],b=>
    simp at b;obtain⟨rfl,rfl⟩:=b;exact⟨t,d,a _ (by simp),a _ (by simp),by simpa using h⟩
 ·rintro⟨t,d,a,j,h⟩;exact⟨x,_,t,rfl,d,.inr ⟨[T,U],rfl,by simp[a,j],by simpa using h⟩⟩
@[simp] theorem aHz (ds:List D):gK [.tup ds] mh Q↔Q (.int ds.length) mh:=by
 unfold gK;exact⟨λb=>by obtain⟨a,e,h⟩:=b;cases e;obtain⟨es,c,h⟩:=h;cases c;exact h,λh=>⟨_,rfl,ds,rfl,h⟩⟩
@[simp] theorem aI1 (ds:List D):gK [.fl ds] mh Q↔Q (.int ds.length) mh:=by
 unfold gK;exact⟨λb=>by obtain⟨a,e,h⟩:=b;cases e;obtain⟨es,c,h⟩:=h;cases c;exact h,λh=>⟨_,rfl,ds,rfl,h⟩⟩
theorem o8(h:mh[n]? =some (.lst ds)):gK [.ref n] mh Q↔Q (.int ds.length) mh:=by
 unfold gK;have e:bC mh (.ref n)=some ds:=by simp[bC,h]
 exact⟨λb=>by obtain⟨a,f,c⟩:=b;cases f;obtain⟨es,d,c⟩:=c;rw[e]at d;cases d;exact c,λc=>⟨_,rfl,ds,e,c⟩⟩
@[simp] theorem aI0 (z:Str):gK [.str z] mh Q↔z.length<=sizeLine/\Q (.int z.length) mh:=by
 unfold gK;exact⟨λb=>by obtain⟨a,e,h⟩:=b;cases e;exact h,λh=>⟨_,rfl,h⟩⟩
@[simp] theorem s_abs (i:Int):RO [.int i] mh Q↔Q (.int (if i<0 then -i else i)) mh:=by
 unfold RO;exact⟨λb=>by obtain⟨a,e,h⟩:=b;cases e;exact h,λh=>⟨i,rfl,h⟩⟩
@[simp] theorem aHy (i j:Int):E7 [.int i,.int j] mh Q↔Q (.int (if j > i then j else i)) mh:=by
 unfold E7;exact⟨λc=>by obtain⟨a,b,e,h⟩:=c;cases e;exact h,λh=>⟨i,j,rfl,h⟩⟩
@[simp] theorem aHx (i j:Int):wR [.int i,.int j] mh Q↔Q (.int (if j<i then j else i)) mh:=by
 unfold wR;exact⟨λc=>by obtain⟨a,b,e,h⟩:=c;cases e;exact h,λh=>⟨i,j,rfl,h⟩⟩
@[simp] theorem aDo (x:D):dZ [x] mh Q↔got (bC mh x) λds=>Q (.tup ds) mh:=by
 unfold dZ;rw[<-fE];exact⟨λb=>by obtain⟨a,ds,e,d,h⟩:=b;cases e;exact⟨ds,d,h⟩,λc=>by obtain⟨ds,d,h⟩:=c;exact⟨x,ds,rfl,d,h⟩⟩
@[simp] theorem s_slT (ds:List D)(lo hi:Option Int):oSl (.tup ds) lo hi mh Q=(Q (.tup (cutD ds lo hi)) mh):=rfl
theorem aDp(h:mh[n]? =some (.lst ds))(lo hi:Option Int):oSl (.ref n) lo hi mh Q↔Q (.ref mh.length) (mh++[.lst (cutD ds lo hi)]):=by
 show (∃ds,mT mh (.ref n)=some ds/\Q (.ref mh.length) (mh++[.lst (cutD ds lo hi)]))↔_;have e:mT mh (.ref n)=some ds:=by simp[mT,h]
 exact⟨λa=>by obtain⟨es,c,b⟩:=a;rw[e]at c;cases c;exact b,λb=>⟨ds,e,b⟩⟩
theorem NW{P:MH->Prop}(h:mh[n]? =some (.lst ds))(i:Int)(d:D):S6 (.ref n) (.int i) d mh P↔got (LR ds.length i) λj=>P (mh.set n (.lst (ds.set j d))):=by
 unfold S6;rw[<-fE];exact⟨λa=>by obtain⟨m,es,k,j,f,g,c,l,e⟩:=a;cases f;cases g;rw[h]at c;cases c;exact⟨j,l,e⟩,λb=>by obtain⟨j,c,e⟩:=b;exact⟨n,ds,i,j,rfl,rfl,h,c,e⟩⟩
theorem eP{es:List D}(h:mh[n]? =some (.lst es))(d:D):bO (.ref n) [d] mh Q↔es.length<sizeLine/\Q .bY (mh.set n (.lst (es++[d]))):=by
 unfold bO;exact⟨λa=>by obtain⟨m,fs,d',e,f,c,b⟩:=a;cases e;cases f;rw[h]at c;cases c;exact b,λb=>⟨n,es,d,rfl,rfl,h,b⟩⟩
theorem YS{bs:List Bool}(h:mh[n]? =some (.lst (bs.map .bl))):RN [.ref n] mh Q↔Q (.bl (bs.all id)) mh:=by
 unfold RN;have e:mT mh (.ref n)=some (bs.map .bl):=by simp[mT,h]
 constructor
 ·rintro⟨x,c,i,g,d⟩;cases i;rw[e]at g;have j:bs.map D.bl=c.map D.bl:=aK5 g;have k:bs=c :=(aN8 (f:=D.bl) (λa b e=>by injection e)).mp j;subst k;exact d
 ·intro d;exact⟨_,bs,rfl,e,d⟩
@[simp] theorem atI0 (d:D)(ds:List D):jH (d::ds) 0=some d:=by
 have:=cT (xs:=d::ds) (j:=0) (v:=d) rfl;simpa using this
theorem aL(mh:MH)(o:MO):(mh++[o])[mh.length]? =some o:=by simp
end
variable{n:Nat}{d:D}
theorem cZ(h:R d mh):Out n d mh R:= .inl h
theorem vB{mh a:MH}(ok:iA mh)(b:bZ mh.length d=true)(h:R d mh):Out mh.length d (mh++a) R:= .inr (.inl ⟨mh,a,rfl,aJq _,ok,b,h⟩)
theorem K3{mh a:MH}(c:n<=mh.length)(ok:iA mh)(b:bZ mh.length d=true)(h:R d mh):Out n d (mh++a) R:= .inr (.inl ⟨mh,a,rfl,c,ok,b,h⟩)
def lx:List Int->List Int->Bool
 | [],[]=>false
 | [],_::_=>true
 | _::_,[]=>false
 | a::as,b::bs=>if a<b then true else if b<a then false else lx as bs
theorem t7:∀x y:List Int,lx x y=true->lx y x=false
 | [],[],h=>by simp[lx]at h
 | [],_::_,h=>by simp[lx]
 | _::_,[],h=>by simp[lx]at h
 | a::as,b::bs,h=>by
  simp only[lx]at h⊢;by_cases c:a<b
  ·rw[if_neg (by lia),if_pos c]
  ·rw[if_neg c]at h;by_cases d:b<a
   ·rw[if_pos d]at h;cases h
   ·rw[if_neg d]at h⊢;rw[if_neg c];exact t7 as bs h
theorem PL:∀x y z:List Int,lx y x=false->lx z y=false->lx z x=false
 | [],y,z,h1,h2=>by
  cases z with
  | nil=>rfl
  | cons _ _=>rfl
 | a::as,[],z,h1,h2=>by simp[lx]at h1
 | a::as,b::bs,[],h1,h2=>by simp[lx]at h2
 | a::as,b::bs,c::cs,h1,h2=>by
  simp only[lx]at h1 h2⊢;by_cases d:b<a
  ·rw[if_pos d]at h1;cases h1
  ·rw[if_neg d]at h1;by_cases e:c<b
   ·rw[if_pos e]at h2;cases h2
   ·rw[if_neg e]at h2;rw[if_neg (by lia)];by_cases f:a<c
    ·rw[if_pos f]
    ·rw[if_neg f];rw[if_neg (by lia)]at h1 h2;exact PL as bs cs h1 h2
def bR:D->List Int
 | .int i=>[i]
 | .str z=>z.cps.toList.map (λ(c:Nat)=>(c:Int))++[-1]
 | _=>[]
def enc:D->List Int
 | .tup ds=>ds.flatMap bR
 | d=>bR d
theorem rJ:∀a b:List Nat,lx (a.map (λ(c:Nat)=>(c:Int))++[-1]) (b.map (λ(c:Nat)=>(c:Int))++[-1])=decide (a<b)
 | [],[]=>by simp[lx]
 | [],b::bs=>by
  have:(-1:Int)<(b:Int):=by lia
  simp[lx,this]
 | a::as,[]=>by
  have d:¬((a:Int) < -1):=by lia
  have f:(-1:Int)<(a:Int):=by lia
  simp[lx,d,f]
 | a::as,b::bs=>by
  have g:=rJ as bs;simp only[List.map_cons,List.cons_append,lx,g];by_cases d:a<b
  ·rw[if_pos (by lia)];exact(decide_eq_true (List.cons_lt_cons_iff.mpr (.inl d))).symm
  ·rw[if_neg (by lia)];by_cases f:b<a
   ·rw[if_pos (by lia)];exact(aL3 (λq=>by rcases List.cons_lt_cons_iff.mp q with q | q <;> lia)).symm
   ·rw[if_neg (by lia)];have e:a=b:=by lia
    subst e;rw[Bool.eq_iff_iff,decide_eq_true_iff,decide_eq_true_iff,List.cons_lt_cons_iff];simp
inductive Sc where | i | s
def bW:Sc->D->Bool
 | .i,.int _=>true
 | .s,.str _=>true
 | _,_=>false
def aQ:List Sc->List D->Bool
 | [],[]=>true
 | c::cs,d::ds=>bW c d && aQ cs ds
 | _,_=>false
theorem qC(x:List Int):∀r b :List Int,lx (x++r) (x++b)=lx r b :=by
 induction x with
 | nil=>intro r b;rfl
 | cons a as ih=>intro r b;simp[lx,ih]
theorem map_inj:∀a b:List Nat,a.map (λ(c:Nat)=>(c:Int))++[-1]=b.map (λ(c:Nat)=>(c:Int))++[-1]->a=b
 | [],[],_=>rfl
 | [],b::bs,h=>by simp at h
 | a::as,[],h=>by simp at h
 | a::as,b::bs,h=>by
  simp only[List.map_cons,List.cons_append,List.cons.injEq]at h;have d:a=b:=by lia
  rw[d,map_inj as bs h.2]
theorem IH{a b:Str}(h:a.cps.toList=b.cps.toList):a=b:=by
 cases a;cases b;simp at h;simp[h]
theorem J3{c:Sc}{d e:D}(a:bW c d=true)(b:bW c e=true)(h:bR d=bR e):d=e:=by
 cases c <;> cases d <;> simp[bW]at a <;> cases e <;> simp[bW]at b
 ·simp[bR]at h;rw[h]
 ·simp only[bR]at h;rw[IH (map_inj _ _ h)]
theorem sT:∀(a b:List Nat) (r d :List Int),a≠b->lx ((a.map (λ(c:Nat)=>(c:Int))++[-1])++r) ((b.map (λ(c:Nat)=>(c:Int))++[-1])++d)=lx (a.map (λ(c:Nat)=>(c:Int))++[-1]) (b.map (λ(c:Nat)=>(c:Int))++[-1])
 | [],[],_,_,h=>absurd rfl h
 | [],b::bs,r,d,_=>by
  have:(-1:Int)<(b:Int):=by lia
  simp[lx,this]
 | a::as,[],r,d,_=>by
  have f:¬((a:Int) < -1):=by lia
  have g:(-1:Int)<(a:Int):=by lia
  simp[lx,f,g]
 | a::as,b::bs,r,d,h=>by
  simp only[List.map_cons,List.cons_append,lx];by_cases f:(a:Int)<b
  ·simp[f]
  ·by_cases g:(b:Int)<a
   ·simp[f,g]
   ·have e:a=b:=by lia
    subst e;simp only[f,g,if_false];exact sT as bs r d λq=>h (by rw[q])
theorem hG{c:Sc}{d e:D}(f:bW c d=true)(k:bW c e=true)(h:d≠e)(r g :List Int):lx (bR d++r) (bR e++g)=lx (bR d) (bR e):=by
 cases c <;> cases d <;> simp[bW]at f <;> cases e <;> simp[bW]at k
 ·rename_i i j;have:i≠j:=λq=>h (by rw[q]);simp only[bR,List.cons_append,List.nil_append,lx];by_cases f:i<j
  ·simp[f]
  ·have:j<i:=by lia
   simp[f,this]
 ·rename_i a b;simp only[bR];exact sT _ _ r g λq=>h (by rw[IH q])
theorem Q8{c:Sc}{d e:D}(a:bW c d=true)(b:bW c e=true):d5 d e=true↔d=e:=by
 cases c <;> cases d <;> simp[bW]at a <;> cases e <;> simp[bW]at b
 ·simp[d5]
 ·simp[d5]
mutual
theorem FI{h:Heap}:∀{d e:D} {u:Value},Vl h d u->Vl h e u->d=e
 | .bY,e,u,p,q=>by
  unfold Vl at p;subst p
  cases e <;> unfold Vl at q <;> first | rfl | (cases q;done) | (obtain⟨_,q⟩:=q;cases q;done) | (obtain⟨_,_,q,_⟩:=q;cases q;done)
 | .bl a,e,u,p,q=>by
  unfold Vl at p;subst p
  cases e <;> unfold Vl at q <;> first | (cases q;rfl) | (cases q;done) | (obtain⟨_,q⟩:=q;cases q;done) | (obtain⟨_,_,q,_⟩:=q;cases q;done)
 | .int a,e,u,p,q=>by
  unfold Vl at p;obtain⟨t,rfl⟩:=p
  cases e <;> unfold Vl at q <;> first | (cases q;done) | (obtain⟨_,q⟩:=q;cases q;rfl) | (obtain⟨_,q⟩:=q;cases q;done) | (obtain⟨_,_,q,_⟩:=q;cases q;done)
 | .str a,e,u,p,q=>by
  unfold Vl at p;obtain⟨t,rfl⟩:=p
  cases e <;> unfold Vl at q <;> first | (cases q;done) | (obtain⟨_,q⟩:=q;cases q;rfl) | (obtain⟨_,q⟩:=q;cases q;done) | (obtain⟨_,_,q,_⟩:=q;cases q;done)
 | .ty _,e,u,p,q=>by unfold Vl at p;exact p.elim
 | .ref _,e,u,p,q=>by unfold Vl at p;exact p.elim
 | .tup as,e,u,p,q=>by
  unfold Vl at p;obtain⟨a,us,rfl,ht,l⟩:=p
  cases e with
  | tup bs=>
   unfold Vl at q;obtain⟨b,f,e,c,g⟩:=q;cases e;obtain⟨o,k,_,n,m⟩:=ht;obtain⟨v,i,_,w,j⟩:=c;rw[k]at i;cases i;rw[m]at j;injection j with r;have s:us=f:=by simpa using aKo Array.toList r
   subst s;rw[zO l g]
  | fl bs=>
   unfold Vl at q;obtain⟨b,f,e,c,g⟩:=q;cases e;exact(tZ c ht).elim
  | _=>unfold Vl at q;first | (cases q;done) | (obtain⟨_,q⟩:=q;cases q;done)
 | .fl as,e,u,p,q=>by
  unfold Vl at p;obtain⟨a,us,rfl,ht,l⟩:=p
  cases e with
  | fl bs=>
   unfold Vl at q;obtain⟨b,f,e,c,g⟩:=q;cases e;obtain⟨o,k,_,n,m⟩:=ht;obtain⟨v,i,_,w,j⟩:=c;rw[k]at i;cases i;rw[m]at j;injection j with r;have s:us=f:=by simpa using aKo Array.toList r
   subst s;rw[zO l g]
  | tup bs=>
   unfold Vl at q;obtain⟨b,f,e,c,g⟩:=q;cases e;exact(tZ ht c).elim
  | _=>unfold Vl at q;first | (cases q;done) | (obtain⟨_,q⟩:=q;cases q;done)
theorem zO{h:Heap}:∀{ds es:List D} {us:List Value},cD h ds us->cD h es us->ds=es
 | [],es,us,p,q=>by unfold cD at p;subst p;cases es with | nil=>rfl | cons=>unfold cD at q;obtain⟨_,_,e,_⟩:=q;cases e
 | d::ds,es,us,p,q=>by
  unfold cD at p;obtain⟨u,r,rfl,i,l⟩:=p
  cases es with
  | nil=>unfold cD at q;cases q
  | cons e es=>
   unfold cD at q;obtain⟨f,g,a,b,c⟩:=q;cases a;rw[FI i b,zO l c]
end
mutual
theorem Vl.keep{h h' :Heap}(k:∀b o,h.get? b=some o->h'.get? b=some o):∀(d:D) (u:Value),Vl h d u->Vl h' d u
 | .bY,u,q=>by unfold Vl at*;exact q
 | .bl _,u,q=>by unfold Vl at*;exact q
 | .int _,u,q=>by unfold Vl at*;exact q
 | .str _,u,q=>by unfold Vl at*;exact q
 | .ty _,u,q=>by unfold Vl at*;exact q
 | .ref _,u,q=>by unfold Vl at*;exact q
 | .tup ds,u,q=>by
  unfold Vl at*;obtain⟨a,us,e,⟨o,c,f⟩,l⟩:=q;exact⟨a,us,e,⟨o,k _ _ c,f⟩,cD.keep k ds us l⟩
 | .fl ds,u,q=>by
  unfold Vl at*;obtain⟨a,us,e,⟨o,c,f⟩,l⟩:=q;exact⟨a,us,e,⟨o,k _ _ c,f⟩,cD.keep k ds us l⟩
theorem cD.keep{h h' :Heap}(k:∀b o,h.get? b=some o->h'.get? b=some o):∀(ds:List D) (us:List Value),cD h ds us->cD h' ds us
 | [],us,q=>by unfold cD at*;exact q
 | d::ds,us,q=>by
  unfold cD at*;obtain⟨u,r,e,i,l⟩:=q;exact⟨u,r,e,Vl.keep k d u i,cD.keep k ds r l⟩
end
def E8(ds:List D):Prop:=(∃c,∀d∈ds,bW c d=true)\/∃c cs,∀d∈ds,∃es,d= .tup es/\aQ (c::cs) es=true
open Classical in
noncomputable def dv(h:Heap)(u:Value):D:=if q:∃d,Vl h d u then q.choose else .bY
theorem jG{u:Value}(p:Vl h d u):dv h u=d:=by
 unfold dv;rw[dif_pos ⟨d,p⟩];exact FI (Exists.choose_spec (⟨d,p⟩:∃d,Vl h d u)) p
noncomputable def ltV(h:Heap)(x y:Keyed):Bool:=lx (enc (dv h x.1)) (enc (dv h y.1))
theorem GF(h:Heap):TS.Wk (ltV h):=⟨λx y=>t7 _ _,λx y z=>PL _ _ _⟩
theorem jB{h:Heap}:∀{ds:List D} {us:List Value},cD h ds us->∀u∈us,∃d∈ds,Vl h d u
 | [],us,q,u,hu=>by unfold cD at q;subst q;cases hu
 | d::ds,us,q,u,hu=>by
  unfold cD at q;obtain⟨w,r,rfl,i,l⟩:=q;rcases aK1.mp hu with rfl | hu
  ·exact⟨d,aJs,i⟩
  ·obtain⟨e,he,p⟩:=jB l u hu;exact⟨e,aJt _ he,p⟩
open PySem.W in
theorem yQ{prog:Program}{w:World}{A:Around}{Q:Bool->Shared->Prop}{s:Shared}(n:A.units+32<cLine):∀(cs:List Sc) (as bs:List D) (us vs:List Value) (i:Nat) (b:Bool),(b=true->i=0->True)->aQ cs as=true->aQ cs bs=true->cD s.heap as us->cD s.heap bs vs->
  Q (lx (as.flatMap bR) (bs.flatMap bR)) s->KatLex prog w A b false Q (us.zip vs) i s
 | [],[],[],us,vs,i,b,_,_,_,f,g,q=>by unfold cD at f g;subst f g;exact kat_nil q
 | [],[],_::_,_,_,_,_,_,_,h2,_,_,_=>by simp[aQ]at h2
 | [],_::_,_,_,_,_,_,_,h1,_,_,_,_=>by simp[aQ]at h1
 | _::_,[],_,_,_,_,_,_,h1,_,_,_,_=>by simp[aQ]at h1
 | _::_,_::_,[],_,_,_,_,_,_,h2,_,_,_=>by simp[aQ]at h2
 | c::cs,a::as,d::bs,us,vs,i,b,hb,h1,h2,f,g,q=>by
  unfold cD at f g;obtain⟨u,o,rfl,h,f⟩:=f;obtain⟨v,p,rfl,j,g⟩:=g;simp only[aQ,Bool.and_eq_true]at h1 h2;rw[List.zip_cons_cons];have r:deep a<=0:=by cases c <;> cases a <;> simp[bW]at h1 <;> simp[deep]
  refine kat_cons (jT (s:=s) 0 r (by lia) h j prog w _ _ ?_);simp only[List.flatMap_cons]at q;refine kat_go (λe=>kat_yes ?_) (λe=>kat_no ?_)
  ·have l:a=d:=(Q8 h1.1 h2.1).mp e;subst l;rw[qC]at q;exact yQ n cs as bs o p (i+1) b (λ_ _=>trivial) h1.2 h2.2 f g q
  ·have m:a≠d:=λz=>by rw[(Q8 h1.1 h2.1).mpr z]at e;cases e
   rw[hG h1.1 h2.1 m]at q
   cases c with
   | i=>
    cases a <;> simp[bW]at h1;cases d <;> simp[bW]at h2;rename_i x y;unfold Vl at h j;obtain⟨t,rfl⟩:=h;obtain⟨B,rfl⟩:=j
    have q' :Q (decide (x<y)) s:=by
     have:lx (bR (.int x)) (bR (.int y))=decide (x<y):=by
      simp only[bR,lx];by_cases k:x<y
      ·simp[k]
      ·simp[k]
     rw[<-this];exact q
    cases hbi:(b && i==0) with
    | true=>exact oneLt_int q'
    | false=>exact kat_one _ _ (lt_int q')
   | s=>
    cases a <;> simp[bW]at h1;cases d <;> simp[bW]at h2;rename_i x y;unfold Vl at h j;obtain⟨t,rfl⟩:=h;obtain⟨B,rfl⟩:=j
    have q' :Q (decide (x.cps.toList<y.cps.toList)) s:=by
     have:lx (bR (.str x)) (bR (.str y))=decide (x.cps.toList<y.cps.toList):=rJ _ _;rw[<-this];exact q
    cases hbi:(b && i==0) with
    | true=>exact oneLt_str q'
    | false=>exact kat_one _ _ (lt_str q')
def scT:Sc->String | .i=>"int" | .s=>"str"
section
variable {prog:Program}{w:World}{A:Around}
theorem rP:∀{cs:List Sc} {ds:List D},aQ cs ds=true->ds.length=cs.length
 | [],[],_=>rfl
 | [],_::_,h=>by simp[aQ]at h
 | _::_,[],h=>by simp[aQ]at h
 | c::cs,d::ds,h=>by simp only[aQ,Bool.and_eq_true]at h;simp[rP h.2]
theorem iD{vs:List Value}{x:Keyed}(h:x∈(pairsOf vs).toList):x=(x.1,x.1)/\x.1∈vs:=by
 rw[pairsOf_toList]at h
 induction vs with
 | nil=>simp at h
 | cons v r ih=>
  rw[List.zip_cons_cons]at h;rcases aK1.mp h with e | e
  ·rw[e];exact⟨rfl,aJs⟩
  ·obtain⟨a,b⟩:=ih e;exact⟨a,aJt _ b⟩
theorem uS{s:Shared}{vs:List Value}(hu:A.units+40<cLine)(U:E8 ds)(l:cD s.heap ds vs)(P:2<=vs.length):
  ∃κ,∀h' :Heap,(∀b o,s.heap.get? b=some o->h'.get? b=some o)->TS.nC prog w A {s with heap:=h'} κ (ltV s.heap) (pairsOf vs)/\
   ∀B E,B κ {s with heap:=h'}->wpAny (model prog w) A (keyKind' vs.toArray) B E {s with heap:=h'}:=by
 rcases U with ⟨c,f⟩ | ⟨c,cs,f⟩
 ·refine⟨oneType',λh' k=>⟨λx y hx F Q q=>?_,λB E q=>?_⟩⟩
  ·obtain⟨_,G⟩:=iD hx;obtain⟨_,H⟩:=iD F;obtain⟨d,g,dp⟩:=jB l _ G;obtain⟨e,em,ep⟩:=jB l _ H
   have q' :Q (lx (enc d) (enc e)) {s with heap:=h'}:=by
    have:ltV s.heap x y=lx (enc d) (enc e):=by unfold ltV;rw[jG dp,jG ep]
    rw[<-this];exact q
   have hd:=f d g;have he:=f e em;obtain⟨x1,V⟩:=x;obtain⟨R,X⟩:=y
   cases c with
   | i=>
    cases d <;> simp[bW]at hd;cases e <;> simp[bW]at he;rename_i i j;unfold Vl at dp ep;obtain⟨h,rfl⟩:=dp;obtain⟨Y,rfl⟩:=ep;refine PySem.W.kat_lt_int ?_
    have:lx (enc (.int i)) (enc (.int j))=decide (i<j):=by
     simp only[enc,bR,lx];by_cases m:i<j
     ·simp[m]
     ·simp[m]
    rw[<-this];exact q'
   | s=>
    cases d <;> simp[bW]at hd;cases e <;> simp[bW]at he;rename_i i j;unfold Vl at dp ep;obtain⟨h,rfl⟩:=dp;obtain⟨Y,rfl⟩:=ep;refine PySem.W.kas_lt_str ?_;have:lx (enc (.str i)) (enc (.str j))=decide (i.cps.toList<j.cps.toList):=rJ _ _;rw[<-this];exact q'
  ·have ty:∀v∈vs,PySem.W.Looks (model prog w) h' (typeOf v) (.type (scT c)):=λv hv=>by
    obtain⟨d,g,dp⟩:=jB l _ hv;have hd:=f d g
    cases c with
    | i=>cases d <;> simp[bW]at hd;unfold Vl at dp;obtain⟨h,rfl⟩:=dp;exact aLh rfl
    | s=>cases d <;> simp[bW]at hd;unfold Vl at dp;obtain⟨h,rfl⟩:=dp;exact aLh rfl
   exact PySem.W.kas_kind (s:={s with heap:=h'}) P ty (by cases c <;> rfl) (by cases c <;> rfl) q
 ·refine⟨tuples' true,λh' k=>⟨λx y hx F Q q=>?_,λB E q=>?_⟩⟩
  ·obtain⟨_,G⟩:=iD hx;obtain⟨_,H⟩:=iD F;obtain⟨d,g,dp⟩:=jB l _ G;obtain⟨e,em,ep⟩:=jB l _ H
   have q' :Q (lx (enc d) (enc e)) {s with heap:=h'}:=by
    have:ltV s.heap x y=lx (enc d) (enc e):=by unfold ltV;rw[jG dp,jG ep]
    rw[<-this];exact q
   obtain⟨as,rfl,ha⟩:=f d g;obtain⟨bs,rfl,hb⟩:=f e em;obtain⟨x1,V⟩:=x;obtain⟨R,X⟩:=y;unfold Vl at dp ep;obtain⟨a,us,Z,⟨o,ho,t,n,hd⟩,z⟩:=dp;obtain⟨b,I,eb,⟨o2,J,S,n2,K⟩,lw⟩:=ep;have L :x1=Value.ref a:=Z;have M :R=Value.ref b:=eb;subst L M;refine PySem.W.kat_lt (s:={s with heap:=h'}) (k _ _ ho) hd (k _ _ J) K ?_;have z1:=bB z;have z2:=bB lw;have z3:=rP ha;have z4:=rP hb;have zz:decide (us.toArray.size<I.toArray.size)=false:=aL3 (by simp only[List.size_toArray];lia);rw[zz];exact yQ (s:={s with heap:=h'}) (by lia) (c::cs) as bs us I 0 true (λ_ _=>trivial) ha hb (cD.keep k as us z) (cD.keep k bs I lw) q'
  ·have fs:∃fs:List Value,PySem.W.KatTups h' vs fs/\fs.length=vs.length/\∀v∈fs,PySem.W.Looks (model prog w) h' (typeOf v) (.type (scT c)):=by
    clear q P
    have go:∀(ds:List D) (vs:List Value),(∀d∈ds,∃es,d= .tup es/\aQ (c::cs) es=true)->cD s.heap ds vs->∃fs:List Value,PySem.W.KatTups h' vs fs/\fs.length=vs.length/\∀v∈fs,PySem.W.Looks (model prog w) h' (typeOf v) (.type (scT c)):=by
     intro ds
     induction ds with
     | nil=>intro vs _ l;unfold cD at l;subst l;exact⟨[],PySem.W.KatTups.nil,rfl,λv hv=>by cases hv⟩
     | cons d r ih=>
      intro vs f l;unfold cD at l;obtain⟨u,ur,rfl,p,l⟩:=l;obtain⟨fs,N,T,O⟩:=ih ur (λe he=>f e (aJt _ he)) l;obtain⟨es,rfl,he⟩:=f d aJs;unfold Vl at p;obtain⟨a,us,rfl,⟨o,ho,t,n,hd⟩,z⟩:=p
      cases es with
      | nil=>simp[aQ]at he
      | cons e0 er=>
       unfold cD at z;obtain⟨u0,u1,rfl,C,_⟩:=z;simp only[aQ,Bool.and_eq_true]at he;refine⟨u0::fs,PySem.W.KatTups.cons (k _ _ ho) t hd (by simp) N,by simp[T],λv hv=>?_⟩;rcases aK1.mp hv with rfl | hv
       ·cases c with
        | i=>cases e0 <;> simp[bW]at he;unfold Vl at C;obtain⟨h,rfl⟩:=C;exact aLh rfl
        | s=>cases e0 <;> simp[bW]at he;unfold Vl at C;obtain⟨h,rfl⟩:=C;exact aLh rfl
       ·exact O v hv
    exact go ds vs f l
   obtain⟨fs,N,T,O⟩:=fs;refine PySem.W.kat_kind (s:={s with heap:=h'}) N (by lia) O (by cases c <;> rfl) ?_;have:(Value.type (scT c) !=Value.type "tuple")=true:=by cases c <;> rfl
   rw[this];exact q
end
theorem mR{α c:Type}(f:α->c):∀{l:List c} {m:List c},l.Perm m->∀t:List α,m=t.map f->∃t' :List α,t'.Perm t/\t'.map f=l:=by
 intro l m h
 induction h with
 | nil=>intro t e;cases t <;> simp at e;exact⟨[],.refl _,rfl⟩
 | cons x _ ih=>
  intro t e
  cases t with
  | nil=>simp at e
  | cons a r=>
   simp at e;obtain⟨t',p,q⟩:=ih r e.2;exact⟨a::t',p.cons a,by simp[q,e.1]⟩
 | swap x y l=>
  intro t e
  match t,e with
  | [],e=>simp at e
  | [_],e=>simp at e
  | a::b::r,e=>
   simp at e;exact⟨b::a::r,.swap _ _ _,by simp[e]⟩
 | trans _ _ ih1 ih2=>
  intro t e;obtain⟨d,g,i⟩:=ih2 t e;obtain⟨j,k,n⟩:=ih1 d i.symm;exact⟨j,k.trans g,n⟩
def h9:OA:=λxs mh Q=>∃x ds,xs=[x]/\mT mh x=some ds/\ds.length<4000/\E8 ds/\
 ∀a,a.Perm ds->a.Pairwise (λd e=>lx (enc e) (enc d)=false)->Q (.ref mh.length) (mh++[.lst a])
theorem nT(U:E8 ds):cI ds=true:=by
 have sc:∀{cs:List Sc} {es:List D},aQ cs es=true->cI es=true:=λ{cs}=>by
  induction cs with
  | nil=>intro es h;cases es with | nil=>rfl | cons=>simp[aQ]at h
  | cons c cs ih=>
   intro es h
   cases es with
   | nil=>simp[aQ]at h
   | cons e es=>
    simp only[aQ,Bool.and_eq_true]at h;simp only[cI,ih h.2,Bool.and_true];cases c <;> cases e <;> simp[bW]at h <;> rfl
 rcases U with ⟨c,a⟩ | ⟨c,cs,a⟩
 ·induction ds with
  | nil=>rfl
  | cons d r ih=>
   have hd:=a d aJs;simp only[cI,ih λe he=>a e (List.mem_cons_of_mem _ he),Bool.and_true];cases c <;> cases d <;> simp[bW]at hd <;> rfl
 ·induction ds with
  | nil=>rfl
  | cons d r ih=>
   obtain⟨es,rfl,he⟩:=a d aJs;simp only[cI,ih λe he=>a e (List.mem_cons_of_mem _ he),Bool.and_true];simpa[bare] using sc he
structure Tri where
 d:D
 v:V
 u:Value
theorem SU{K:aNm}{μ:List Addr}{H:Hp}{h:Heap}:∀{ds:List D} {vs:List V} {us:List Value},IsL K μ H ds vs->Vals vs us->cD h ds us->∃g:List Tri,g.map (·.d)=ds/\g.map (·.v)=vs/\g.map (·.u)=us/\∀t∈g,Is K μ H t.d t.v/\RelV t.v t.u/\Vl h t.d t.u
 | [],vs,us,l,r,q=>by unfold IsL at l;subst l;cases r;exact⟨[],rfl,rfl,rfl,λt ht=>by cases ht⟩
 | d::ds,vs,us,l,r,q=>by
  unfold IsL at l;obtain⟨v,x,rfl,i,l⟩:=l
  cases r with
  | @cons _ j _ k m n=>
   unfold cD at q;obtain⟨w,y,e,p,q⟩:=q;injection e with o s;subst o s;obtain⟨g,a,b,c,f⟩:=SU l n q
   exact⟨⟨d,v,j⟩::g,by simp[a],by simp[b],by simp[c],λt ht=>by
    rcases aK1.mp ht with rfl | ht
    ·exact⟨i,m,p⟩
    ·exact f t ht⟩
theorem uA{K:aNm}{μ:List Addr}{H:Hp}:∀{a:List Tri},(∀t∈a,Is K μ H t.d t.v)->IsL K μ H (a.map (·.d)) (a.map (·.v))
 | [],_=>by simp[IsL]
 | t::a,h=>by
  simp only[List.map_cons];unfold IsL;exact⟨_,_,rfl,h t aJs,uA λx hx=>h x (aJt _ hx)⟩
theorem pO:∀{a:List Tri},(∀t∈a,RelV t.v t.u)->Vals (a.map (·.v)) (a.map (·.u))
 | [],_=>.nil
 | t::a,h=>.cons (h t aJs) (pO λx hx=>h x (aJt _ hx))
section
variable {X:Cx}
theorem MM(hu:X.A.units+64<cLine):cB X (.builtin "sorted") (eG X.K h9):=by
 intro pins s σ H xs us Q I r q;obtain⟨μ,mh,ds,R,n,G,⟨x,es,rfl,e,J,U,q⟩,F⟩:=q;obtain⟨v,rfl,L⟩:=gB G;obtain⟨a,vs,rfl,sq,l⟩:=rK n L e;obtain⟨u,rfl,M⟩:=vals1 r;cases M;obtain⟨aJ,p,N,hz⟩:=I.list sq;have g:=jO I es (nT U) l p;have y:aJ.length=es.length:=bB g;have O:X.A.in1.in1.units+40<cLine:=by show X.A.units+1+1+40<_;lia
 have ask:∃κ,2<=aJ.length->∀h' :Heap,(∀b o,s.heap.get? b=some o->h'.get? b=some o)->TS.nC X.prog X.w X.A.in1.in1 {s with heap:=h'} κ (ltV s.heap) (pairsOf aJ)/\
   ∀B P,B κ {s with heap:=h'}->wpAny (model X.prog X.w) X.A.in1.in1 (keyKind' aJ.toArray) B P {s with heap:=h'}:=by
  by_cases C:2<=aJ.length
  ·obtain⟨κ,S⟩:=uS (prog:=X.prog) (w:=X.w) (A:=X.A.in1.in1) O U g C;exact⟨κ,λ_=>S⟩
  ·exact⟨general',λz=>absurd z C⟩
 obtain⟨κ,ask⟩:=ask;refine TS.CQ (κ:=κ) (GF s.heap) N.isList (by lia) ask λout D h=>?_;obtain⟨T,V,W,Y,Z⟩:=SU l p g;rw[<-Y]at D;obtain⟨c,i,E⟩:=mR (·.u) D T rfl;have f:∀t∈c,Is X.K μ H t.d t.v/\RelV t.v t.u/\Vl s.heap t.d t.u:=λt ht=>Z t (i.mem_iff.mp ht);have pd:(c.map (·.d)).Perm es:=by rw[<-V];exact i.map _
 have pw:(c.map (·.d)).Pairwise (λd e=>lx (enc e) (enc d)=false):=by
  rw[<-E]at h;rw[List.pairwise_map]at h⊢;refine h.imp_of_mem λ{t t'} m m' j=>?_;have e1:dv s.heap t.u=t.d:=jG (f t m).2.2;have e2:dv s.heap t'.u=t'.d:=jG (f t' m').2.2;unfold ltV at j;rw[e1,e2]at j;exact j
 obtain⟨ep,he⟩:=sortedAll_at s.heap aJ out.toArray
 have ln:(c.map (·.v)).length<=sizeLine:=by
  have:=i.length_eq;have k :=aKo List.length W;simp at k ⊢
  lia
 have I1:Inv X pins σ (upd H (s.heap.objs.size+1) (.lst (c.map (·.v)))) {s with heap:=sortedAll s.heap aJ out.toArray}:=
  I.laid (t' :=s.toks) (λb o hb=>sortedAll_old hb) (aMz _) ⟨ln,out,ep,by rw[<-E];exact pO λt ht=>(f t ht).2.1,he⟩
 exact⟨.ref (s.heap.objs.size+1),_,I1,rfl,jF n F (uA λt ht=>(f t ht).1) (q _ pd pw) _ (I.b9.fresh (aMz _))⟩
end
theorem c5{g:WG}{b:WS}{E:jK}{St:MH->Prop}(e:Nat->gM->MH->Prop)(ds:List D)(f:∀i a mh,e i a mh->St mh)
  (hs:∀i d a mh (N:gM->MH->Prop),ds[i]? =some d->e i a mh->(∀c mh',e (i+1) c mh' ->N c mh')->g d a λj=>b {E with nx:=N,ct:=N,bk:=E.nx} j mh)
  (hd:∀a mh,e ds.length a mh->E.nx a mh) {a:gM}  (h0:e 0 a mh):lO g b E St ds a mh:=by
 have go:∀(k i:Nat),i+k=ds.length->∀a mh,e i a mh->lO g b E St (ds.drop i) a mh:=by
  intro k
  induction k with
  | zero=>
   intro i hi a mh p;have:i=ds.length:=by lia
   subst this;rw[List.drop_of_length_le (Nat.le_refl _)];exact⟨f _ _ _ p,hd a mh p⟩
  | succ k ih=>
   intro i hi a mh p;have h:i<ds.length:=by lia
   rw[List.drop_eq_getElem_cons h];exact⟨f _ _ _ p,hs i ds[i] a mh _ (by simp[h]) p λc mh' l =>ih (i+1) (by lia) c mh' l⟩
 have:=go ds.length 0 (by simp) a mh h0;simpa using this
theorem qP{g:WG}{t:WT}{w:WE}{ρe:gM}{St:MH->Prop}{Q:DK}(e:Nat->List D->MH->Prop)(ds:List D)(f:∀i a mh,e i a mh->St mh)
  (hs:∀i d a mh (N:List D->MH->Prop),ds[i]? =some d->e i a mh->(∀c mh',e (i+1) c mh' ->N c mh')->g d ρe λh=>t h mh λb j=>if b=true then w h j λy m=>N (a++[y]) m else N a j)
  (hd:∀a mh,e ds.length a mh->Q (.ref mh.length) (mh++[.lst a]))  (h0:e 0 [] mh):iR g t w ρe St Q ds [] mh:=by
 have go:∀(k i:Nat),i+k=ds.length->∀a mh,e i a mh->iR g t w ρe St Q (ds.drop i) a mh:=by
  intro k
  induction k with
  | zero=>
   intro i hi a mh p;have:i=ds.length:=by lia
   subst this;rw[List.drop_of_length_le (Nat.le_refl _)];exact⟨f _ _ _ p,hd a mh p⟩
  | succ k ih=>
   intro i hi a mh p;have l:i<ds.length:=by lia
   rw[List.drop_eq_getElem_cons l];exact⟨f _ _ _ p,hs i ds[i] a mh (λc mh' =>iR g t w ρe St Q (ds.drop (i+1)) c mh') (by simp[l]) p λc mh' n =>ih (i+1) (by lia) c mh' n⟩
 have:=go ds.length 0 (by simp) [] mh h0;simpa using this
theorem nG{lo:Int}{n i:Nat}(h:(eQ lo n)[i]? =some d):i<n/\d= .int (lo+i):=by
 simp only[eQ,List.getElem?_map]at h;obtain⟨k,a,rfl⟩:=aKr.mp h;obtain⟨hi,rfl⟩:=aJr.mp a;simp at hi;exact⟨hi,by simp⟩
@[simp] theorem aGg (lo:Int)(n:Nat):(eQ lo n).length=n:=by simp[eQ]
def B6(mh:MH)(b:Nat):Prop:=∃c m:Int,mh[b]? =some (.lst [.int c,.int m])/\0<=c/\0<=m/\m<2147483629
variable{b:Nat}
theorem B6.lt(h:B6 mh b):b<mh.length:=let ⟨_,_,e,_⟩:=h;(aJr.mp e).1
def dJ(mh:MH)(b:Nat)(mh' :MH):Prop:=B6 mh' b/\∃o,mh' =mh.set b o
theorem dJ.len{mh mh' :MH}(h:dJ mh b mh'):mh'.length=mh.length:=by obtain⟨_,o,rfl⟩:=h;simp
theorem dJ.trans{mh a c:MH}(h:dJ mh b a)(h' :dJ a b c):dJ mh b c:=by
 obtain⟨_,o,rfl⟩:=h;obtain⟨d,e,rfl⟩:=h';exact⟨d,e,by simp⟩
theorem dJ.refl(h:B6 mh b):dJ mh b mh:=by
 refine⟨h,mh[b]'h.lt,?_⟩;simp
theorem dJ.other{mh mh' :MH}(h:dJ mh b mh')(a:n≠b):mh'[n]? =mh[n]? :=by
 obtain⟨_,o,rfl⟩:=h;exact List.getElem?_set_ne (aL4 a)
theorem B6.F6(h:B6 mh b)(k:Nat):∀o,mh[b]? =some o->F6 k o=true:=by
 obtain⟨c,m,e,_⟩:=h;intro o ho;rw[e]at ho;cases ho;rfl
theorem dJ.mok{mh mh' :MH}(h:dJ mh b mh')(ok:iA mh):iA mh' :=by
 have hb:=h.1;obtain⟨_,o,e⟩:=h;intro x hx;have d:mh'.length=mh.length:=by rw[e];simp
 obtain⟨n,c⟩:=aKi.mp hx;by_cases a:n=b
 ·subst a;exact hb.F6 _ x c
 ·rw[e,List.getElem?_set_ne (Ne.symm a)]at c;rw[d];exact ok x (aJu c)
def cA:OA:=λds mh Q=>∃b a,ds=[.ref b,.int a]/\1<=a/\a<=1073741789/\B6 mh b/\∀r mh',0<=r->r<a->dJ mh b mh' ->Q (.int r) mh'
def KW:OA:=λds mh Q=>∃(ns:List Int) (a:Int),ds=[.fl (ns.map .int),.int a]/\ns.length<=63/\0<=a/\a<=100/\∀mh',(∃o,mh' =mh++[o])->B6 mh' mh.length->Q (.ref mh.length) mh'
def dI(K:aNm)(x:Str)(st:Stmt):Prop:=∃f oc od kV doc pm an a ct sl,PySem.W.nsIn K mainGlobals x=some (some (.ref f))/\
 K.lookup f=some ⟨oc,od,.func (PySem.W.fnOf x x (eN st) (cG st) (aE st) .none kV doc pm an a ct),sl⟩/\PySem.W.codeIn K a x=true/\PySem.W.keepIn K (.ref f)=true
variable{st:Stmt}
theorem aGs{f:Addr}{oc:Value}{od an:Option Addr}{sl:Array (Option Value)}{kV doc pm b ct:Value}(a:PySem.W.nsIn K mainGlobals x=some (some (.ref f)))
  (l:K.lookup f=some ⟨oc,od,.func (PySem.W.fnOf x x (eN st) (cG st) (aE st) .none kV doc pm an b ct),sl⟩) (c:PySem.W.codeIn K b x=true) (k:PySem.W.keepIn K (.ref f)=true):dI K x st:=⟨f,oc,od,kV,doc,pm,an,b,ct,sl,a,l,c,k⟩
def bL(x:Str)(st:Stmt)(ps:List Str):Prop:=∀(kV doc pm:Value) (an:Option Addr) (cdv ct:Value) (us:List Value),us.length=ps.length->bindArgs (PySem.W.fnOf x x (eN st) (cG st) (aE st) .none kV doc pm an cdv ct) ⟨us,[]⟩=pure (ps.zip us)
section
variable {P:Program}{w:World}{K:aNm}{mg:aNp}{base:Heap}{h:Heap}
theorem aBr{k:Nat}{s:OA}{wB:WS}(e:dI K x st)(KX:K.In h)(G:h.Ns mainGlobals mg)(g:bL x st ps)(S:aN N ps (aE st))(len:∀ds mh R,s ds mh R->ds.length=ps.length)
  (hb:∀(f:Addr) (cdv:Value) (A:Around) (outer:List Env) (s:Shared) (H:Hp) (E:XK),gL k (A.deeper (envOfC x (aE st) s.heap.objs.size f cdv))->
   jJ (wG FE P w K mg base N x (aE st) f cdv A outer s H E).UL (cG st) wB)
  (i:∀ds mh R,iA mh->aO mh.length ds=true->s ds mh R->wB {nx:=λ_ b=>Out mh.length .bY b R,rt:=λd b=>Out mh.length d b R} (aG N ds) mh):Fn P w K mg base (k+1) x ps s:=by
 obtain⟨f,oc,od,kV,doc,pm,an,m,ct,sl,a,l,c,kp⟩:=e;have F:=GY (st:=st) l c kp;exact⟨f,_,aFq F S len (λcdv A outer s H E j=>hb f cdv A outer s H E j) i,aNf KX G a,kp,F.binds g⟩
theorem Q3{k:Nat}(b:dI K x st)(KX:K.In h)(G:h.Ns mainGlobals mg)(d:bL x st ps):Fn P w K mg base k x ps (λ_ _ _=>False):=by
 obtain⟨f,oc,od,kV,doc,pm,an,e,ct,sl,a,l,c,kp⟩:=b;have F:=GY (st:=st) l c kp;refine⟨f,_,⟨λvs H Q E q=>?_,λA outer s H args us vs Q E _ _ _ _ q=>?_⟩,aNf KX G a,kp,F.binds d⟩
 ·obtain⟨_,_,_,_,_,_,q,_⟩:=q;exact q.elim
 ·obtain⟨_,_,_,_,_,_,q,_⟩:=q;exact q.elim
end
def xA:OA:=λds mh Q=>∃ns:List Int,ds=[.fl (ns.map .int)]/\ns.length<=63/\∀mh',Q (.bl true) mh'
theorem vU{K:aNm}{μ:List Addr}{H:Hp}:∀ns:List Int,IsL K μ H (ns.map .int) (ns.map .int)
 | []=>by simp[IsL]
 | n::ns=>by simp only[List.map_cons];unfold IsL;exact⟨_,_,rfl,.int,vU ns⟩
theorem aAs{ns:List Int}(b:ns.length<=63)(c:WW H)(hS:qU K H a (ns.map V.int)):R0 K xA [.ref a] H (λv _=>v= .bl true) λ_ _ _=>False:=by
 have e:R9 K H a (ns.map V.int):=by
  rcases hS with (hS | hS) | hS
  ·rcases c a with z | ⟨o,xs,z⟩
   ·rw[hS]at z;cases z
   ·rw[hS]at z;cases z
  ·exact .inl hS
  ·exact .inr hS
 refine⟨[],[],[.fl (ns.map .int)],λd _=>d= .bl true,⟨rfl,List.nodup_nil,λn a o f=>by simp at f⟩,?_,⟨ns,rfl,b,λ_=>rfl⟩,λd mh' q μ' v H' _ _ I=>?_⟩
 ·refine jD ?_;unfold Is;exact⟨a,_,rfl,e,vU ns⟩
 ·subst q;exact yU I
theorem walkD{l:PySem.W.OpenLaw}{k:Nat}{q:Program}{loose:List Str}{XP:(aNp)->Heap->Prop}{c:World->Heap->Prop}{d:DefRec}{K:Params->aNm}(g:l.most=some 63)(b:d.params.defaults=[])(i:gL k callerA)
  (j:∀(w:World) (h:Heap),c w h->(K w.params).In h)
  (F:∀(w:World) (mg:aNp) (e:Addr) (h:Heap),(K w.params).In h->h.Ns mainGlobals mg->mg d.name=some (.ref e)->
   ∃fd:FuncData,(∀(s:Shared) (u:Value),BindsTo s fd ⟨[u],[]⟩ [(x,u)])/\∀base:Heap,(K w.params).In base->base.Ns mainGlobals mg->kP l.prog w (K w.params) mg base FE k e fd [x] (R0 (K w.params) xA)):
  PySem.W.WalkO q loose XP c l.row.toRowW d [] (λf vs=>PySem.call f vs):=
 L2.SM (n:=63) (k:=k) (x:=x) (CX:=λ_=>FE) (sp:=λw=>R0 (K w.params) xA) g (by decide) b i j F (λ_ _ a ns m o p=>aAs m o p) λ_ _ _ _ _ z=>z
theorem aAu{k:Nat}{g:Addr}(KX:K.In h)(G:h.Ns mainGlobals mg)(i:mg "law"=some (.ref g))(j:dI K "law" st)(S:aN N [x] (aE st))(m:bL "law" st [x])
  (hb:∀base:Heap,∃wB:WS,(∀(f:Addr) (cdv:Value) (A:Around) (outer:List Env) (s:Shared) (H:Hp) (E:XK),gL k (A.deeper (envOfC "law" (aE st) s.heap.objs.size f cdv))->
   jJ (wG FE P w K mg base N "law" (aE st) f cdv A outer s H E).UL (cG st) wB)/\
   ∀ds mh R,iA mh->aO mh.length ds=true->xA ds mh R->wB {nx:=λ_ b=>Out mh.length .bY b R,rt:=λd b=>Out mh.length d b R} (aG N ds) mh):
  ∃fd:FuncData,(∀(s:Shared) (u:Value),BindsTo s fd ⟨[u],[]⟩ [(x,u)])/\∀base:Heap,kP P w K mg base FE (k+1) g fd [x] (R0 K xA):=by
 obtain⟨f,oc,od,kV,doc,pm,an,n,ct,sl,a,l,c,kp⟩:=j;have e:=i.symm.trans (aNf KX G a);cases e;have F:=GY (st:=st) l c kp;refine⟨_,λs u=>.of_eq (m kV doc pm an n ct [u] rfl),λbase=>?_⟩;obtain⟨wB,o,p⟩:=hb base;exact aFq F S (λds mh R hs=>by obtain⟨ns,rfl,_⟩:=hs;rfl) (λcdv A outer s H E q=>o g cdv A outer s H E q) p
theorem bl_mk(KX:K.In h)(G:h.Ns mainGlobals mg)
  (l:PySem.W.nsIn K mainGlobals "len"=some none) (m:PySem.W.nsIn K mainGlobals "range"=some none) (n:PySem.W.nsIn K mainGlobals "zip"=some none) (o:PySem.W.nsIn K mainGlobals "all"=some none) (p:PySem.W.nsIn K mainGlobals "any"=some none) (q:PySem.W.nsIn K mainGlobals "abs"=some none) (r:PySem.W.nsIn K mainGlobals "min"=some none) (s:PySem.W.nsIn K mainGlobals "max"=some none) (t:PySem.W.nsIn K mainGlobals "isinstance"=some none) (a:PySem.W.nsIn K mainGlobals "sorted"=some none) (b:PySem.W.nsIn K mainGlobals "int"=some none) (c:PySem.W.nsIn K mainGlobals "str"=some none) (d:PySem.W.nsIn K mainGlobals "bool"=some none) (e:PySem.W.nsIn K mainGlobals "list"=some none) (f:PySem.W.nsIn K mainGlobals "tuple"=some none) (g:PySem.W.nsIn K mainGlobals "set"=some none) (i:PySem.W.nsIn K mainGlobals "dict"=some none) (j:PySem.W.nsIn K mainGlobals "sum"=some none) (k:PySem.W.nsIn K mainGlobals "enumerate"=some none):Bl mg:=
 ⟨aK7 KX G l,aK7 KX G m,aK7 KX G n,aK7 KX G o,aK7 KX G p,aK7 KX G q,aK7 KX G r,aK7 KX G s,aK7 KX G t,aK7 KX G a,aK7 KX G b,aK7 KX G c,aK7 KX G d,aK7 KX G e,aK7 KX G f,aK7 KX G g,aK7 KX G i,aK7 KX G j,aK7 KX G k⟩
theorem vO{a b:Key}(h:cO a=cO b):a=b:=by
 cases a <;> cases b <;> simp[cO]at h <;> rw[h]
open Classical in
noncomputable def putD(kvs:List (D×D))(k v:D):List (D×D):=if ∃p∈kvs,p.1=k then kvs.map (λp=>if p.1=k then (p.1,v) else p) else kvs++[(k,v)]
theorem N8(kvs:List (D×D))(k v:D):(putD kvs k v).length<=kvs.length+1:=by
 unfold putD;split <;> simp
section
variable {K:aNm}{μ:List Addr}{H:Hp}{κ:Type}[DecidableEq κ]{f:κ->D}
theorem C3(g:∀{a b},f a=f b->a=b)(k:κ){d:D}{v:V}(hd:Is K μ H d v):∀(kvs:List (D×D)) (kk:List (κ×V)),kvs.map (·.1)=kk.map (λp=>f p.1)->IsL K μ H (kvs.map (·.2)) (kk.map (·.2))->
  IsL K μ H ((open Classical in kvs.map λp=>if p.1=f k then (p.1,d) else p).map (·.2)) ((kk.map λp=>if p.1=k then (p.1,v) else p).map (·.2))
 | [],[],_,_=>by simp[IsL]
 | [],_::_,h,_=>by simp at h
 | _::_,[],h,_=>by simp at h
 | p::kvs,q::kk,h,l=>by
  simp only[List.map_cons,List.cons.injEq]at h;simp only[List.map_cons]at l⊢;unfold IsL at l⊢;obtain⟨w,r,e,i,l⟩:=l;simp only[List.cons.injEq]at e;obtain⟨rfl,rfl⟩:=e;have j:=C3 g k hd kvs kk h.2 l;by_cases c:q.1=k
  ·have:p.1=f k:=by rw[h.1,c]
   simp only[if_pos c,if_pos this];exact⟨_,_,rfl,hd,j⟩
  ·have:¬p.1=f k:=λz=>c (g (h.1.symm.trans z));simp only[if_neg c,if_neg this];exact⟨_,_,rfl,i,j⟩
theorem TM(m:∀{a b},f a=f b->a=b)(k:κ){v:V}(hd:Is K μ H d v){kvs:List (D×D)}{kk:List (κ×V)}(h:kvs.map (·.1)=kk.map (λp=>f p.1))(l:IsL K μ H (kvs.map (·.2)) (kk.map (·.2))):
  (putD kvs (f k) d).map (·.1)=(putK kk k v).map (λp=>f p.1)/\IsL K μ H ((putD kvs (f k) d).map (·.2)) ((putK kk k v).map (·.2)):=by
 have same:(∃p∈kvs,p.1=f k)↔(kk.any λn=>decide (n.1=k))=true:=by
  rw[List.any_eq_true];constructor
  ·rintro⟨p,i,e⟩;have:f k∈kk.map (λp=>f p.1):=by rw[<-h,<-e];exact aK0.mpr ⟨p,i,rfl⟩
   obtain⟨q,j,g⟩:=aK0.mp this;exact⟨q,j,by simpa using m g⟩
  ·rintro⟨q,j,e⟩;have:f q.1∈kvs.map (·.1):=by rw[h];exact aK0.mpr ⟨q,j,rfl⟩
   obtain⟨p,i,g⟩:=aK0.mp this;exact⟨p,i,by rw[g];simp at e;rw[e]⟩
 unfold putD putK;by_cases c:∃p∈kvs,p.1=f k
 ·rw[if_pos c,if_pos (same.mp c)];refine⟨?_,C3 m k hd kvs kk h l⟩
  have o:(open Classical in kvs.map λp=>if p.1=f k then (p.1,d) else p).map (·.1)=kvs.map (·.1):=by
   rw[List.map_map];apply aKg;intro p _;simp only[Function.comp];split <;> rfl
  have g:(kk.map λp=>if p.1=k then (p.1,v) else p).map (λp=>f p.1)=kk.map (λp=>f p.1):=by
   rw[List.map_map];apply aKg;intro p _;simp only[Function.comp];split <;> rfl
  rw[o,g,h]
 ·rw[if_neg c,if_neg (λz=>c (same.mpr z))];refine⟨by simp[h],?_⟩;simp only[List.map_append,List.map_cons,List.map_nil];exact hU l (jD hd)
end
theorem J6{o:MO}{ob:HO}(R:Rep K μ mh H)(h:μ[n]? =some a)(hm:RQ (some ob))(l:oY K μ (upd H a ob) o a):Rep K μ (mh.set n o) (upd H a ob):=by
 have P:aP μ H μ (upd H a ob):=aP.set R h;refine⟨by simp[R.len],R.nd,λm b f d e=>?_⟩;by_cases c:m=n
 ·subst c;rw[h]at d;cases d;have g:m<mh.length:=by rw[<-R.len];exact(aJr.mp h).1
  rw[List.getElem?_set_self g]at e;cases e;exact l
 ·rw[List.getElem?_set_ne (Ne.symm c)]at e;exact(R.obj m b f d e).mono R P (aV λz=>c (O6 R.nd d (by rw[z];exact h)))
theorem Rep.aEt{q:Addr}{o:MO}{ob:HO}(R:Rep K μ mh H)(a:H q=none)(l:oY K (μ++[q]) (upd H q ob) o q):Rep K (μ++[q]) (mh++[o]) (upd H q ob):=by
 have b:Rep K μ mh (upd H q ob):=R.new a;exact b.RL (λz=>R.ne a z rfl) l
def SN(t:Bool):WE:=λ_ mh Q=>Q (.ref mh.length) (mh++[.dic t []])
section
variable {X:Cx}{pos:Pos}
theorem U8:LE X (.Dict [] [] pos) (SN false):=PE.imp ON λσ H Q h=>by
 obtain⟨μ,c,mh,R,a,E,h,F⟩:=h;intro p b;exact F _ _ h (μ++[p]) _ _ (aP.LC a b) (a.aEt b ⟨[],⟨[],bV,rfl,rfl⟩,by simp[IsL]⟩) (by unfold Is;exact⟨p,by rw[<-a.len];simp,rfl⟩)
end
theorem t9{k:Key}{v:V}(h:Is K μ H (cO k) v):v=kV k:=by
 cases k <;> (simp only[cO]at h;unfold Is at h;exact h)
theorem yW{K:aNm}{μ:List Addr}{H:Hp}:∀{ks:List Key} {vs:List V},IsL K μ H (ks.map cO) vs->vs=ks.map kV
 | [],vs,h=>by simp only[List.map_nil]at h;unfold IsL at h;exact h
 | k::ks,vs,h=>by
  simp only[List.map_cons]at h;unfold IsL at h;obtain⟨v,r,rfl,i,l⟩:=h;rw[t9 i,yW l];rfl
theorem BD{v:V}{t:Bool}{kvs:List (D×D)}(R:Rep K μ mh H)(h:Is K μ H (.ref n) v)(e:mh[n]? =some (.dic t kvs)):∃a vs,v= .ref a/\μ[n]? =some a/\RW (H a) (kvs.map (·.1)) vs t/\IsL K μ H (kvs.map (·.2)) vs:=by
 obtain⟨a,q,rfl⟩:=mY h;obtain⟨vs,b,l⟩:=R.obj n a _ q e;exact⟨a,vs,rfl,q,b,l⟩
def XG(o k d:D)(mh:MH)(Q:MH->Prop):Prop:=∃n kvs a,o= .ref n/\mh[n]? =some (.dic false kvs)/\k=cO a/\kvs.length<sizeLine/\Q (mh.set n (.dic false (putD kvs k d)))
def NI(w g wi:WE):WS:=λE a mh=>w a mh λd b=>g a b λo c=>wi a c λi e=>XG o i d e λf=>E.nx a f
section
variable {X:Cx}{pos pos' tpos:Pos}{o i e:Expr}{es:List Expr}{w wo wi:WE}{wa:WA}
theorem UZ(hu:X.A.units+64<cLine)(he:LE X e w)(ho:LE X o wo)(hi:LE X i wi)(hs:swapsWith e (some (.Subscript o i pos')) pos.line X.env=pure false:=by rfl):LS X (.Assign [.Subscript o i pos'] e pos) (NI w wo wi):=
 PS.imp (T2 (by lia) ho hi he hs) λD σ H h=>by
  obtain⟨μ,j,mh,E,R,En,h,F⟩:=h;refine⟨μ,j,mh,_,R,En,h,λd p q r v H1 s C L=>?_⟩;refine⟨r,j,p,_,C,En.mono R s,q,λM t N u vo H2 x R2 O=>?_⟩;refine⟨u,j,t,_,R2,En.mono R (s.trans x),N,λdi y P b vi z B m Q=>?_⟩;obtain⟨n,kvs,c,rfl,S,rfl,hz,T⟩:=P;obtain⟨a,vs,rfl,G,⟨kk,U,I,rfl⟩,l⟩:=BD m (Is.mono R2 B _ _ O) S;cases t9 Q;have V:=Is.mono C (x.trans B) d v L;have J:aP b z b (upd z a (.dK (putK kk c v))):=aP.set m G;have ln:kk.length=kvs.length:=by have:=aKo List.length I;simp at this;lia
  obtain⟨W,Y⟩:=TM (f:=cO) vO c V I l;have Z:Rep X.K b (y.set n (.dic false (putD kvs (cO c) d))) (upd z a (.dK (putK kk c v))):=J6 m G (by trivial) ⟨_,⟨_,bV,W,rfl⟩,Y.mono m J⟩;have g:=((s.trans x).trans B).trans J;exact⟨a,_,rfl,.k U (by lia),F.nx j _ T b σ _ g Z (En.mono R g)⟩
end
def B4(h:Heap)(d:Addr)(es:Array DictEntry)(ep:Nat):Prop:=∃o,h.get? d=some o/\o.ExactDict/\o.data= .dict es ep
theorem B4.typeIs{s:Shared}{d:Addr}{es:Array DictEntry}{ep:Nat}(x:B4 s.heap d es ep):s.TypeIs (.ref d) "dict":=let ⟨o,a,b,c⟩:=x;⟨o,a,b.1⟩
end D3
namespace TS
open PySem PySem.Spec PyProof.Rows L2
end TS
namespace D3
open PySem PySem.Spec PyProof.Rows L2
theorem aFf{K:aNm}{μ:List Addr}{H:Hp}(k:Key):Is K μ H (cO k) (kV k):=by
 cases k <;> (simp only[cO];unfold Is;rfl)
theorem A2{K:aNm}{μ:List Addr}{H:Hp}:∀ks:List Key,IsL K μ H (ks.map cO) (ks.map kV)
 | []=>by simp[IsL]
 | k::ks=>by simp only[List.map_cons];unfold IsL;exact⟨_,_,rfl,aFf k,A2 ks⟩
theorem t8:∀x y:List Int,lx x y=false->lx y x=false->x=y
 | [],[],_,_=>rfl
 | [],b::y,h,_=>by simp[lx]at h
 | a::x,[],_,h=>by simp[lx]at h
 | a::x,b::y,h1,h2=>by
  unfold lx at h1 h2;by_cases e:a=b
  ·subst e;simp at h1 h2;rw[t8 x y h1 h2]
  ·have c :¬b=a:=λz=>e z.symm;simp[e,c]at h1 h2
   lia
theorem pA(x:List Int):lx x x=false:=by
 cases h:lx x x with
 | false=>rfl
 | true=>have:=t7 x x h;rw[h]at this;cases this
theorem v8:∀{cs:List Sc} {es fs:List D},aQ cs es=true->aQ cs fs=true->(es.map bR).flatten=(fs.map bR).flatten->es=fs
 | [],[],[],_,_,_=>rfl
 | [],_::_,_,h,_,_=>by simp[aQ]at h
 | [],_,_::_,_,h,_=>by simp[aQ]at h
 | _::_,[],_,h,_,_=>by simp[aQ]at h
 | _::_,_::_,[],_,h,_=>by simp[aQ]at h
 | c::cs,e::es,f::fs,h1,h2,h=>by
  simp only[aQ,Bool.and_eq_true]at h1 h2;simp only[List.map_cons,List.flatten_cons]at h
  have he:e=f:=by
   apply aK3;intro ne;have a:=hG h1.1 h2.1 ne (es.map bR).flatten (fs.map bR).flatten;have b:=hG h2.1 h1.1 (λz=>ne z.symm) (fs.map bR).flatten (es.map bR).flatten;rw[h,pA]at a;rw[<-h,pA]at b;exact ne (J3 h1.1 h2.1 (t8 _ _ a.symm b.symm))
  subst he;rw[v8 h1.2 h2.2 (List.append_cancel_left h)]
theorem SR{ds:List D}(U:E8 ds){d e:D}(hd:d∈ds)(he:e∈ds)(h:enc d=enc e):d=e:=by
 rcases U with ⟨c,a⟩ | ⟨c,cs,a⟩
 ·have b:=a d hd;have f:=a e he;cases c <;> cases d <;> simp[bW]at b <;> cases e <;> simp[bW]at f
  ·simpa[enc,bR] using h
  ·exact J3 (c:= .s) rfl rfl h
 ·obtain⟨es,rfl,b⟩:=a d hd;obtain⟨fs,rfl,f⟩:=a e he;rw[v8 b f h]
theorem iC{ds:List D}(U:E8 ds):∀{f c:List D},(∀d∈f,d∈ds)->f.Perm c->f.Pairwise (λd e=>lx (enc e) (enc d)=false)->c.Pairwise (λd e=>lx (enc e) (enc d)=false)->f=c
 | [],c,_,p,_,_=>(List.nil_perm.mp p).symm
 | a::t,c,hm,p,s1,s2=>by
  cases c with
  | nil=>exact absurd p.length_eq (by simp)
  | cons b u=>
   have ha:lx (enc b) (enc a)=false:=by
    rcases aK1.mp (p.mem_iff.mpr aJs) with z | z
    ·rw[z];exact pA _
    ·exact(aL7.mp s1).1 b z
   have hb:lx (enc a) (enc b)=false:=by
    rcases aK1.mp (p.mem_iff.mp aJs) with z | z
    ·rw[z];exact pA _
    ·exact(aL7.mp s2).1 a z
   have e:a=b:=SR U (hm a aJs) (hm b (p.mem_iff.mpr aJs)) (t8 _ _ hb ha);subst e;rw[iC U (λd hd=>hm d (List.mem_cons_of_mem _ hd)) (List.Perm.cons_inv p) (List.pairwise_cons.mp s1).2 (List.pairwise_cons.mp s2).2]
def dM(mh:MH)(b:Nat)(mh' :MH):Prop:=∃a T,mh' =a++T/\dJ mh b a
variable{mh:MH}{b:Nat}
theorem dM.refl(h:B6 mh b):dM mh b mh:=⟨mh,[],by simp,.refl h⟩
variable{mh':MH}
theorem dM.le(h:dM mh b mh'):mh.length<=mh'.length:=by
 obtain⟨a,T,rfl,t⟩:=h;rw[List.length_append,t.len];lia
theorem dM.blt(h:dM mh b mh'):b<mh.length:=by
 obtain⟨a,T,rfl,t⟩:=h;rw[<-t.len];exact t.1.lt
theorem dM.bag(h:dM mh b mh'):B6 mh' b:=by
 obtain⟨a,T,rfl,⟨c,m,e,r⟩,_⟩:=h;exact⟨c,m,by rw[List.getElem?_append_left (List.getElem?_eq_some_iff.mp e).1];exact e,r⟩
theorem dM.to{mh mh' a:MH}(h:dM mh b mh')(t:dJ mh' b a):dM mh b a:=by
 have hb:=h.blt;obtain⟨d,T,rfl,g⟩:=h;have f:b<d.length:=by rw[g.len];exact hb
 obtain⟨⟨c,m,e,r⟩,o,rfl⟩:=t;rw[List.set_append_left _ _ f]at e⊢;refine⟨d.set b o,T,rfl,g.trans ⟨⟨c,m,?_,r⟩,o,rfl⟩⟩;rw[List.getElem?_append_left (by simpa using f)]at e;exact e
theorem dM.push(h:dM mh b mh')(o:MO):dM mh b (mh' ++[o]):=by
 obtain⟨a,T,rfl,c⟩:=h;exact⟨a,T++[o],by simp,c⟩
theorem dM.set{b n:Nat}(h:dM mh b mh')(d:mh.length<=n)(o:MO):dM mh b (mh'.set n o):=by
 obtain⟨a,T,rfl,c⟩:=h;refine⟨a,T.set (n-a.length) o,?_,c⟩;rw[List.set_append_right _ _ (by rw[c.len];exact d)]
theorem dM.out{d:D}{R:DK}(h:dM mh b mh')(ok:iA mh)(hd:bZ mh.length d=true)(q:∀a,dJ mh b a->R d a):Out mh.length d mh' R:=by
 obtain⟨a,T,rfl,c⟩:=h;exact K3 (by rw[c.len];exact aJq _) (c.mok ok) (by rw[c.len];exact hd) (q a c)
theorem fX{a:Int}{Q:DK}(h:dM mh b mh')(d:1<=a)(e:a<=1073741789)
  (q:∀r c,0<=r->r<a->dM mh b c->c.length=mh'.length->(∀n,mh.length<=n->c[n]? =mh'[n]?)->Q (.int r) c):cA [.ref b,.int a] mh' Q:=
 ⟨b,a,rfl,d,e,h.bag,λr c f g t=>q r c f g (h.to t) t.len λn i=>t.other (by have:=h.blt;lia)⟩
open Classical in
noncomputable def fH:List (D×D)->D->Option D
 | [],_=>none
 | p::r,k=>if p.1=k then some p.2 else fH r k
theorem zP{K:aNm}{μ:List Addr}{H:Hp}(a:Key):∀{kvs:List (D×D)} {kk:List (Key×V)},kvs.map (·.1)=kk.map (λp=>cO p.1)->IsL K μ H (kvs.map (·.2)) (kk.map (·.2))->
  (rA kk a=none/\fH kvs (cO a)=none)\/∃d v,rA kk a=some v/\fH kvs (cO a)=some d/\Is K μ H d v
 | [],[],_,_=>.inl ⟨rfl,rfl⟩
 | [],_::_,h,_=>by simp at h
 | _::_,[],h,_=>by simp at h
 | p::kvs,q::kk,h,l=>by
  simp only[List.map_cons,List.cons.injEq]at h;simp only[List.map_cons]at l;unfold IsL at l;obtain⟨w,r,e,i,l⟩:=l;simp only[List.cons.injEq]at e;obtain⟨rfl,rfl⟩:=e;by_cases b:q.1=a
  ·right;have c:p.1=cO a:=by rw[h.1,b]
   exact⟨p.2,q.2,pP b,by simp[fH,c],i⟩
  ·have c:¬p.1=cO a:=λz=>b (vO (h.1.symm.trans z));rw[pQ b];simp only[fH,if_neg c];exact zP a h.2 l
section
variable {X:Cx}
theorem VH(l:X.A.units+64<cLine):X2 X (λx y H Q=>∃a v,x= .ref a/\HN H a y (some v)/\Q v H):=by
 intro b c pins s σ H x y v u Q I i j h hs;obtain⟨a,z,rfl,g,q⟩:=h;cases i;have f:=EL I g;unfold subscriptTail;refine aJn ?_;rw[getitemInPython_of_ne f.not_modules];refine aJn (aLm f PySem.F.slot_dict_getitem.lookup ?_)
 have fin:wpAny (model X.prog X.w) X.A (subscripted c false (.ref a) u) (λr d=>wpAny (model X.prog X.w) X.A (letTemporaryGo b (.ref a) r >>=λ_=>pure r) (EP X pins σ Q) X.xe d) X.xe s:=by
  rw[hs];exact wpAny_operating (MI (by lia) I g j λm n k e =>aJn (wpAny_letTemporaryGo (aJo ⟨z,H,k,e,q⟩)))
 first
  | exact aJo (aJn fin)
  | exact aJn (aJo (aJn fin))
  | exact aJn fin
def Z3:O2:=λx y mh Q=>∃n kvs a d,x= .ref n/\mh[n]? =some (.dic false kvs)/\y=cO a/\fH kvs y=some d/\Q d mh
theorem ixD(i:X.A.units+64<cLine):X2 X (bT X.K Z3):=by
 intro b c pins s σ H x y v u Q I j m q hs;obtain⟨μ,mh,dx,C,R,g,ix,o,⟨n,kvs,f,d,rfl,e,rfl,hd,q⟩,F⟩:=q;obtain⟨a,vs,rfl,D,⟨kk,p,r,rfl⟩,l⟩:=BD g ix e;cases t9 o
 rcases zP f r l with ⟨_,z⟩ | ⟨d',w,t,h,B⟩
 ·rw[hd]at z;cases z
 ·rw[hd]at h;cases h;exact VH i b c pins s σ H _ _ v u Q I j m ⟨a,w,rfl,by rw[<-t];exact .k p,F.here g q B⟩ hs
end
def aDb(b:TA):TE:=λσ H Q=>b σ H λvs a=>∃j:Int,vs=[.int j]/\ -(2^62)<=j/\j<2^62/\∀p,a p=none->Q (.ref p) (upd a p (.rng 0 j))
theorem T8{X:Cx}{a:Expr}{b:TA}{p pos:Pos}(hg:Gl X "range")(hm:X.mg "range"=none)(ha:PA X [a] b)(hs:starEach [a] X.env=[(false,eval a X.env)]:=by rfl):PE X (.Call (.Name "range" p) [a] [] pos) (aDb b):=by
 intro pins s σ H Q I h;refine Call_ (pB I hg hm boot_range (aL0 (c8 (ha pos pins s σ H _ I h) λus s1 ⟨vs,i,c,f,d⟩=>?_) hs rfl));obtain⟨j,e,d,k,q⟩:=d;subst e
 cases f with
 | cons r g=>
  cases g;obtain⟨t,rfl⟩:=r;exact call_range_1 ⟨.ref s1.heap.objs.size,_,c.laid (a:=s1.heap.objs.size) (o:= .rng 0 j) (λ_ _ q=>aJp _ q) (aJq _) ⟨_,_,_,aJv _ rfl⟩,rfl,q _ (c.b9.fresh (aJq _))⟩
theorem CJ:∀(vs:List Value) (n:Nat) (k:Int),vs.length=n->(∀(j:Nat) (v:Value),vs[j]? =some v->∃t,v=Value.int (k+j) t)->Vals ((List.range n).map λ(i:Nat)=>V.int (k+(i:Int))) vs
 | [],0,_,_,_=>.nil
 | [],n+1,_,h,_=>by simp at h
 | v::vs,0,_,h,_=>by simp at h
 | v::vs,n+1,k,h,hi=>by
  rw[List.range_succ_eq_map,List.map_cons,List.map_map];refine .cons ?_ ?_
  ·obtain⟨t,e⟩:=hi 0 v rfl;exact⟨t,by simpa using e⟩
  ·have:=CJ vs n (k+1) (by simpa using h) λj v a=>by
    obtain⟨t,e⟩:=hi (j+1) v (by simpa using a);exact⟨t,by rw[e];congr 1;push_cast;lia⟩
   have e:((λi:Nat=>V.int (k+(i:Int))) ∘ Nat.succ)=λi:Nat=>V.int (k+1+(i:Int)):=by
    funext i;simp only[Function.comp];congr 1;push_cast;lia
   rw[e];exact this
theorem BO{X:Cx}(c:X.calm=true):cB X (.type "list") (λxs H Q=>∃a j,xs=[.ref a]/\H a=some (.rng 0 j)/\ -(2^62)<=j/\j<=16777216/\∀p,H p=none->Q (.ref p) (upd H p (.lst ((List.range j.toNat).map λ(i:Nat)=>V.int (0+(i:Int)))))):=by
 intro pins s σ H xs us Q I r q;obtain⟨a,j,rfl,e,d,y,q⟩:=q;obtain⟨u,rfl,f⟩:=vals1 r;cases f
 obtain⟨t,u,v,g⟩:=(show cL X.prog X.w H s.heap a (.rng 0 j) from I.b9 a _ e)
 refine call_list_range (n:=j.toNat) (I.ok.hd c) g (small_one (by lia) (by lia) d (by lia)) (by rw[rangeSize_one];split <;> lia) (by lia) λh' h b k l m hi=>?_;refine⟨.ref s.heap.objs.size,_,I.laid (a:=s.heap.objs.size) (o:= .lst ((List.range j.toNat).map λ(i:Nat)=>V.int (0+(i:Int)))) (t' :=h) l (aJq _) ⟨by simp[sizeLine_eq];lia,b.toList,k,CJ _ _ _ (by simpa using hi.1) λi v x=>?_,by simpa using m⟩,rfl,q _ (I.b9.fresh (aJq _))⟩;obtain⟨t,e⟩:=hi.2 i v (by simpa using x);exact⟨t,by rw[e];simp⟩
def mG(b:WA):WE:=λc mh Q=>b c mh λds a=>∃j,ds=[.int j]/\ -(2^62)<=j/\j<=16777216/\Q (.ref a.length) (a++[.lst (eQ 0 j.toNat)])
@[simp] theorem aCn (b:WA)(c:gM)(mh:MH)(Q:DK):mG b c mh Q=(b c mh λds a=>∃j,ds=[.int j]/\ -(2^62)<=j/\j<=16777216/\Q (.ref a.length) (a++[.lst (eQ 0 j.toNat)])):=rfl
theorem VM{K:aNm}{μ:List Addr}{H:Hp}(lo:Int)(n:Nat):IsL K μ H (eQ lo n) ((List.range n).map λ(i:Nat)=>V.int (lo+(i:Int))):=by
 have:=vU (K:=K) (μ:=μ) (H:=H) ((List.range n).map λ(i:Nat)=>lo+(i:Int));rw[List.map_map,List.map_map]at this;exact this
theorem GI{X:Cx}{a:Expr}{f:WA}{l c d pos:Pos}(m:X.calm=true)(hm:X.mg "list"=none)(n:X.mg "range"=none)(ha:LA X [a] f)(hg:Gl X "list":=by rfl)(e:Gl X "range":=by rfl)
  (hs:starEach [a] X.env=[(false,eval a X.env)]:=by rfl)
  (b:starEach [.Call (.Name "range" c) [a] [] d] X.env=(false,eval (.Call (.Name "range" c) [a] [] d) X.env)::starEach [] X.env:=by rfl):
  LE X (.Call (.Name "list" l) [.Call (.Name "range" c) [a] [] d] [] pos) (mG f):=
 PE.imp (rG (BO m) hg hm WH (tY (T8 e n ha hs) AD b) (by decide) (by decide) b rfl) λσ H Q h=>by
  obtain⟨μ,o,mh,R,r,E,h,F⟩:=h;refine⟨μ,o,mh,_,r,E,h,λds s t u vs A w g x=>?_⟩;obtain⟨j,rfl,i,y,q⟩:=t;obtain⟨v,rfl,z⟩:=gB x;cases bU z;refine⟨j,rfl,i,by lia,λp k=>?_⟩;show ∃a j',[V.ref p]=[.ref a]/\_;exact⟨p,j,rfl,bV,i,y,jF (g.new k) (F.at (w.trans (aP.new g k))) (VM 0 j.toNat) q⟩
section
variable {prog:Program}{w:World}{A:Around}{E:aNn}{s:Shared}
variable{items:Array Value}{e:Value->Bool}
theorem QL{x:Value}{j:Nat}(l:j<items.size)(a:e items[j]=true)(c:∀m (hm:m<items.size),m<j->e items[m]=false)
  (he:∀y,y∈items->SeqAt.EqAt A s y x (e y)) {R:Option PySem.Fin×Unit->Shared->Prop} (h:R (some (.done (.ret (.int j s.toks))),()) {s with toks:=s.toks+1}):
  ∀(n i:Nat),i<=j->i+n=items.size->
   wpAny (model prog w) A (forIn (List.range' i n 1) ((none,()):Option PySem.Fin×Unit) λ(i:Nat) f=>
      match items[i]? with
      | some y=>do
       let b<-eqBool y x
       if b=true then do
         let r<-retInt (i:Int)
         pure (ForInStep.done (some r,()))
        else pure (ForInStep.yield (none,()))
      | x=>pure (ForInStep.yield (none,()))) R E s:=by
 intro n
 induction n with
 | zero=>intro i g k;lia
 | succ n ih=>
  intro i g k;have hi:i<items.size:=by lia
  rw[List.range'_succ];refine PySem.W.KPc.turn ?_;rw[show items[i]? =some items[i] by simp[hi]];dsimp only;refine aJn (he _ (Array.getElem_mem hi) prog w _ _ ?_);by_cases d:i=j
  ·subst d;rw[a,if_pos rfl];refine aJn (m:=retInt (i:Int)) ?_;unfold retInt;exact aJn (aNe (aJo (aJo h)))
  ·rw[c i hi (by lia),if_neg Bool.false_ne_true];exact aJo (ih (i+1) (by lia) (by lia))
theorem KP{t:Addr}{x:Value}{j:Nat}{Q:aNn}(ht:s.heap.IsTuple t items)(c:j<items.size)(a:e items[j]=true)(b:∀m (hm:m<items.size),m<j->e items[m]=false)
  (he:∀y,y∈items->SeqAt.EqAt A.in1 s y x (e y)) (h:Q (.int j s.toks) {s with toks:=s.toks+1}):wpAny (model prog w) A (call (.builtin "tuple.index") [.ref t,x]) Q E s:=by
 obtain⟨o,ho,d,n,hd⟩:=id ht;refine aK8 PySem.F.slot_tuple_index ht.typeIs PySem.F.entry_tuple_index ?_ (PySem.F.args_tuple_index_2 _ _);unfold Builtin.«tuple.index»;refine aJn (m:=selfAndSome "tuple.index" "index" 1 3 _) (aJo ?_);dsimp only;refine aJn (m:=Builtin.Tuple.tupleItemsOf _) ?_;unfold Builtin.Tuple.tupleItemsOf;refine aJn (aKs ho hd (aJo ?_));refine aJn (aJo (aJn (aJo ?_)));rw[Nat.min_self];refine aJn ?_;rw[PySem.W.KPc.range_list];exact QL c a b he (aJo ⟨_,rfl,h⟩) _ 0 (aKz _) (by simp)
end
section
variable {X:Cx}
def GD:OM:=λx ds mh Q=>∃(es:List D) (d:D) (j:Nat),x= .tup es/\ds=[d]/\es.all sX=true/\bare (hZ mh d)=true/\es.findIdx? (λy=>d5 y (hZ mh d))=some j/\Q (.int j) mh
theorem NK{h:Heap}:∀{ds:List D} {us:List Value} {j:Nat} {d:D},cD h ds us->ds[j]? =some d->∃u,us[j]? =some u/\Vl h d u
 | d0::ds,us,0,d,l,e=>by
  unfold cD at l;obtain⟨u,r,rfl,p,l⟩:=l;simp at e;subst e;exact⟨u,rfl,p⟩
 | d0::ds,us,j+1,d,l,e=>by
  unfold cD at l;obtain⟨u,r,rfl,p,l⟩:=l;simp at e;obtain⟨v,a,b⟩:=NK l e;exact⟨v,by simpa using a,b⟩
theorem O9(r:X.A.units+64<cLine):MtR X "tuple.index" (liftM X.K GD):=by
 intro pins s σ H x xs v us Q I t rs q;obtain⟨μ,mh,dx,ds,R,n,ix,B,⟨es,d,j,rfl,rfl,h,hb,hi,q⟩,F⟩:=q;obtain⟨z,rfl,C⟩:=gB B;obtain⟨a,vs,rfl,sq,l⟩:=dY ix;cases t;obtain⟨u,rfl,D⟩:=rs.one;obtain⟨aJ,E,G,hz⟩:=I.tuple sq;have b:=jO I es (wO h) l E;have J:=uK I n hb C D;obtain⟨o,c,i⟩:=List.findIdx?_eq_some_iff_getElem.mp hi;have f:=bB b
 have at_:∀(m:Nat) (hm:m<aJ.length) (g:m<es.length),eqW (hZ mh d) aJ[m]=d5 es[m] (hZ mh d):=λm hm g=>by
  obtain⟨w,p,L⟩:=NK b (aKu g);rw[List.getElem?_eq_getElem hm]at p;cases p;exact Q7 (List.all_eq_true.mp h _ (aNh _)) L
 refine KP (e:=eqW (hZ mh d)) (j:=j) (show s.heap.IsTuple a aJ.toArray from G) (by simpa[f] using o) ?_ ?_ (λy M=>JA r J h b y (by simpa using M)) ⟨.int j,H,I.tok _,⟨_,rfl⟩,F.here n q .int⟩
 ·rw[List.getElem_toArray,at_ j (by lia) o];simpa using c
 ·intro m hm k;rw[List.getElem_toArray,at_ m (by simpa using hm) (by lia)];simpa using i m k
end
end D3
namespace TS
open PySem PySem.Spec PyProof.Rows L2
section
variable {prog:Program}{w:World}{A:Around}{E:aNn}{s:Shared}{lt:Value×Value->Value×Value->Bool}
theorem CP(O:Wk lt){Q:aNn}{r:Addr}{Ok:List Value->Shared->Prop}
  (c:∀(E:aNn) (R:List Value->Shared->Prop),(∀vs a,Ok vs a ->R vs a)->wpAny (model prog w) A.in1 (collect (.ref r)) R E s)
  (g:∀vs a,Ok vs a ->vs.length<4000)
  (i:∀vs a,Ok vs a ->∃κ,2<=vs.length->∀h' :Heap,(∀b o,a.heap.get? b=some o->h'.get? b=some o)->
   nC prog w A.in1.in1 {a with heap:=h'} κ lt (pairsOf vs)/\∀f j,f κ {a with heap:=h'}->wpAny (model prog w) A.in1.in1 (keyKind' vs.toArray) f j {a with heap:=h'})
  (h:∀vs a,Ok vs a ->∀out:List Value,out.Perm vs->out.Pairwise (λx y=>lt (y,y) (x,x)=false)->∀(d:Heap) (ep:Nat),(∀b o,a.heap.get? b=some o->d.get? b=some o)->
   d.get? a.heap.objs.size=some (seqObj "list" out.toArray ep)->Q (.ref a.heap.objs.size) {a with heap:=d}):
  wpAny (model prog w) A (call (.builtin "sorted") [.ref r]) Q E s:=by
 have u:sizeLine=16777216:=aK4;refine aM8 kind_sorted plain_sorted entry_sorted (args_sorted1 _) ?_;unfold Builtin.«sorted»;refine aJn (m:=checkCount "sorted" 1 1 _) (aJo ?_);refine aJn (c _ _ λvs a ok=>?_);have hsz:=g vs a ok;obtain⟨κ,i⟩:=i vs a ok;refine aJn (wpAny_newList ?_ (by lia));have ob:(a.heap.push (seqObj "list" vs.toArray 0)).get? a.heap.objs.size=some (seqObj "list" vs.toArray 0):=aJv _ rfl;refine aJn (aKd (aK8 slot_list_sort ⟨_,ob,rfl⟩ entry_list_sort (NS (κ:=κ) (s:={a with heap:=a.heap.push (seqObj "list" vs.toArray 0)}) O ob (by lia) (λd h' k=>?_) λout l n=>⟨_,rfl,aJo ⟨_,rfl,?_⟩⟩) (args_list_sort _)))
 ·obtain⟨p,t⟩:=i d h' λb o e=>k b o (aK2 (aJy e)) (aJp _ e);exact⟨p,λf q=>t f _ q⟩
 ·obtain⟨ep,he⟩:=sortedHeap_at (out:=out.toArray) ob;refine h vs a ok out l n _ ep (λb o e=>?_) he;have lb:=aJy e;have hb:b<(a.heap.push (seqObj "list" vs.toArray 0)).objs.size:=by rw[size_push'];exact aKw lb
  rw[sortedHeap_old (Nat.ne_of_lt lb) hb];exact aJp _ e
end
end TS
namespace D3
open PySem PySem.Spec PyProof.Rows L2
section
variable {X:Cx}
theorem Inv.drawn{pins:List (Addr×Obj)}{σ:L2.St}{H:Hp}{s a :Shared}(I:Inv X pins σ H s)(hg:a.gens=s.gens)(ho:a.os=s.os)(e:∀b o,s.heap.get? b=some o->a.heap.get? b=some o):Inv X pins σ H a :=by
 have J:Inv X pins σ H {s with heap:=a.heap,toks:=a.toks}:=I.kept (t' :=a.toks) e;obtain⟨f,g,h,i,a5,a6,j,k,l,c,d⟩:=J;exact⟨f,by rw[ho];exact g,by rw[hg];exact h,i,a5,a6,j,k,l,c,d⟩
theorem CL{ds es:List D}(U:E8 ds)(p:es.Perm ds):E8 es:=by
 rcases U with ⟨c,h⟩ | ⟨c,cs,h⟩
 ·exact .inl ⟨c,λd hd=>h d (p.mem_iff.mp hd)⟩
 ·exact .inr ⟨c,cs,λd hd=>h d (p.mem_iff.mp hd)⟩
end
def Z5:Expr->Bool
 | .Starred .. =>false
 | _=>true
def K8:List Expr->Bool
 | []=>true
 | e::es=>Z5 e && K8 es
theorem uP{e:Expr}{es:List Expr}{env:Env}(h:Z5 e=true):starEach (e::es) env=(false,eval e env)::starEach es env:=by
 cases e <;> first | rfl | (simp[Z5]at h)
theorem pT{pos:Pos}{env:Env}:∀{es:List Expr},K8 es=true->(backTo pos (starEach es env)).any (·.1)=false
 | [],_=>rfl
 | e::es,h=>by
  unfold K8 at h;rw[Bool.and_eq_true]at h;rw[uP h.1];show (false || (backTo pos (starEach es env)).any (·.1))=false;rw[pT h.2];rfl
section
variable {X:Cx}{e:Expr}{es:List Expr}{w:WE}{wr wa:WA}{pos p:Pos}{x:Str}
theorem aIv(ha:LE X e w)(a:LA X es wr)(h:Z5 e=true:=by rfl):LA X (e::es) (aA w wr):=VD ha a (uP h)
theorem aF8{k:Nat}{ps:List Str}{s:OA}(F:Fn X.prog X.w X.K X.mg X.base k x ps s)(b:gL k X.A)(ha:LA X (e::es) wr)(hg:Gl X x:=by rfl)(a:(x==("__debug__":Str))=false:=by decide)
  (h:Z5 e=true:=by rfl) (c:K8 es=true:=by rfl):LE X (.Call (.Name x p) (e::es) [] pos) (aD s wr):=P8 F b ha hg a (uP h) (pT c)
theorem xF{id:String}{f:OA}(b:cB X (.builtin id) (eG X.K f))(hm:X.mg x=none)(c:bootBuiltins x=some (.builtin id))(ha:LA X (e::es) wr)(hg:Gl X x:=by rfl)(d:x≠ "__name__":=by decide)(a:(x==("__debug__":Str))=false:=by decide)
  (h:Z5 e=true:=by rfl) (g:K8 es=true:=by rfl):LE X (.Call (.Name x p) (e::es) [] pos) (aD f wr):=aF9 b hm c ha hg d a (uP h) (pT g)
theorem aF4{T:String}{f:OA}(b:cB X (.type T) (eG X.K f))(hm:X.mg x=none)(c:bootBuiltins x=some (.type T))(ha:LA X (e::es) wr)(hg:Gl X x:=by rfl)(d:x≠ "__name__":=by decide)(a:(x==("__debug__":Str))=false:=by decide)
  (h:Z5 e=true:=by rfl) (g:K8 es=true:=by rfl):LE X (.Call (.Name x p) (e::es) [] pos) (aD f wr):=aF7 b hm c ha hg d a (uP h) (pT g)
end
def IX:Expr->Bool
 | .ListComp .. =>false
 | .SetComp .. =>false
 | .DictComp .. =>false
 | _=>true
theorem CO{e:Expr}{t:Option Expr}{l:Nat}{env:Env}(h:IX e=true):swapsWith e t l env=pure false:=by
 cases e <;> first | rfl | (simp[IX]at h)
section
variable {X:Cx}{e:Expr}{w:WE}{pos:Pos}
theorem aIp(i:Nat){x:Str}{a :Pos}(hN:X.N.Nodup)(he:LE X e w)(hi:X.N[i]? =some x:=by rfl)(hx:Loc X.env.scope x:=by first | exact Or.inl rfl | exact Or.inr rfl)(hs:IX e=true:=by rfl)(b:X.fn x=true\/X.env.scope.names.lookup x=some .local:=by first | exact .inl rfl | exact .inr rfl | assumption):
  LS X (.Assign [.Name x a] e pos) (bG w (gN i)):=aA9 i hN he hi hx (CO hs) b
theorem aIq(he:LE X e w)(hs:IX e=true:=by rfl):LS X (.Expr e pos) (e9 w):=U0 he (CO hs)
end
section
variable {ρ:gM}{mh:MH}{Q:DK}{E:jK}
@[simp] theorem aHq (w f wi:WE):NI w f wi E ρ mh=(w ρ mh λd a=>f ρ a λo b=>wi ρ b λi c=>XG o i d c λe=>E.nx ρ e):=rfl
@[simp] theorem s_dic (t:Bool):SN t ρ mh Q=(Q (.ref mh.length) (mh++[.dic t []])):=rfl
end
variable{x:Str}
theorem aCq{K:aNm}{h:Heap}{mg:aNp}{i:Int}{t:Tok}(KX:K.In h)(G:h.Ns mainGlobals mg)(e:PySem.W.nsIn K mainGlobals x=some (some (.int i t))):qX K mg x (.int i):=
 ⟨.int i,_,aNf KX G e,⟨t,rfl⟩,λ_ _=>.int⟩
open Classical in
theorem ID(k v:D):∀kvs:List (D×D),(∃p∈kvs,p.1=k)->fH (kvs.map λp=>if p.1=k then (p.1,v) else p) k=some v
 | [],h=>by obtain⟨p,b,_⟩:=h;cases b
 | p::kvs,h=>by
  rw[List.map_cons];by_cases e:p.1=k
  ·simp[fH,e]
  ·simp only[fH,if_neg e];refine ID k v kvs ?_;obtain⟨r,c,a⟩:=h;rcases aK1.mp c with z | z
   ·subst z;exact absurd a e
   ·exact⟨r,z,a⟩
theorem IE(k v:D):∀kvs:List (D×D),(¬∃p∈kvs,p.1=k)->fH (kvs++[(k,v)]) k=some v
 | [],h=>by simp[fH]
 | p::kvs,h=>by
  have e:¬p.1=k:=λz=>h ⟨p,aJs,z⟩;rw[List.cons_append];simp only[fH,if_neg e];exact IE k v kvs λa=>by obtain⟨r,b,c⟩:=a;exact h ⟨r,aJt _ b,c⟩
theorem SO(kvs:List (D×D))(k v:D):fH (putD kvs k v) k=some v:=by
 classical
 unfold putD;by_cases h:∃p∈kvs,p.1=k
 ·rw[if_pos h];exact ID k v kvs h
 ·rw[if_neg h];exact IE k v kvs h
open Classical in
theorem o6(k v:D){a :D}(b:a ≠k):∀kvs:List (D×D),fH (kvs.map λp=>if p.1=k then (p.1,v) else p) a =fH kvs a
 | []=>rfl
 | p::kvs=>by
  rw[List.map_cons];by_cases e:p.1=k
  ·have c:¬p.1=a :=λz=>b (z.symm.trans e);simp only[if_pos e,fH,if_neg c,o6 k v b kvs]
  ·simp only[if_neg e,fH,o6 k v b kvs]
theorem uN(k v:D){a :D}(b:a ≠k):∀kvs:List (D×D),fH (kvs++[(k,v)]) a =fH kvs a
 | []=>by simp[fH,Ne.symm b]
 | p::kvs=>by
  rw[List.cons_append];simp only[fH,uN k v b kvs]
theorem FJ(kvs:List (D×D)){k a :D}(v:D)(b:a ≠k):fH (putD kvs k v) a =fH kvs a :=by
 classical
 unfold putD;split
 ·exact o6 k v b kvs
 ·exact uN k v b kvs
variable{mh:MH}
theorem WQ{ns:List Int}{a:Int}{Q:DK}(b:ns.length<=63)(c:0<=a)(d:a<=100)(q:∀mh',(∃o,mh' =mh++[o])->B6 mh' mh.length->Q (.ref mh.length) mh'):KW [.fl (ns.map .int),.int a] mh Q:=⟨ns,a,rfl,b,c,d,q⟩
def bE(mh mh' :MH):Prop:=∃T,mh' =mh++T
theorem bE.refl:bE mh mh:=⟨[],by simp⟩
theorem bE.trans{a b c:MH}(h:bE a b)(h' :bE b c):bE a c:=by
 obtain⟨T,rfl⟩:=h;obtain⟨U,rfl⟩:=h';exact⟨T++U,by simp⟩
variable{mh':MH}
theorem bE.le(h:bE mh mh'):mh.length<=mh'.length:=by obtain⟨U,rfl⟩:=h;simp
variable{n:Nat}{o:MO}
theorem bE.old(h:bE mh mh')(e:mh[n]? =some o):mh'[n]? =some o:=by
 obtain⟨T,rfl⟩:=h;rw[List.getElem?_append_left (List.getElem?_eq_some_iff.mp e).1];exact e
theorem bE.push(h:bE mh mh')(o:MO):bE mh (mh' ++[o]):=by
 obtain⟨T,rfl⟩:=h;exact⟨T++[o],by simp⟩
theorem bE.set(h:bE mh mh')(a:mh.length<=n)(o:MO):bE mh (mh'.set n o):=by
 obtain⟨T,rfl⟩:=h;exact⟨T.set (n-mh.length) o,by rw[List.set_append_right _ _ a]⟩
theorem bE.out{d:D}{R:DK}(h:bE mh mh')(ok:iA mh)(hd:bZ mh.length d=true)(q:R d mh):Out mh.length d mh' R:=by
 obtain⟨T,rfl⟩:=h;exact vB ok hd q
theorem bE.tG{j:Nat}{R:DK}(h:bE mh mh')(ok:iA mh)(a:mh.length<=j)(e:mh'[j]? =some o)(hd:F6 mh.length o=true)(q:R (.ref mh.length) (mh++[o])):Out mh.length (.ref j) mh' R:=by
 obtain⟨T,rfl⟩:=h;exact .inr (.inr ⟨mh,T,j,o,rfl,aJq _,ok,rfl,a,e,hd,q⟩)
theorem dM.tG{b j:Nat}{R:DK}(h:dM mh b mh')(ok:iA mh)(c:mh.length<=j)(e:mh'[j]? =some o)(hd:F6 mh.length o=true)(q:∀a,dJ mh b a->R (.ref a.length) (a++[o])):Out mh.length (.ref j) mh' R:=by
 obtain⟨a,T,rfl,t⟩:=h;exact .inr (.inr ⟨a,T,j,o,rfl,by rw[t.len];exact aJq _,t.mok ok,rfl,by rw[t.len];exact c,e,by rw[t.len];exact hd,q a t⟩)
theorem aU{o x:MO}(e:mh[n]? =some o):(mh++[x])[n]? =some o:=by
 rw[List.getElem?_append_left (List.getElem?_eq_some_iff.mp e).1];exact e
theorem get_set{n m:Nat}{o x:MO}(e:mh[n]? =some o)(h:m≠n):(mh.set m x)[n]? =some o:=by
 rw[List.getElem?_set_ne h];exact e
theorem bQ(x:MO)(e:mh[n]? =some o):(mh.set n x)[n]? =some x:=by
 rw[List.getElem?_set_self (List.getElem?_eq_some_iff.mp e).1]
variable{ds:List D}
theorem bH(e:mh[n]? =some (.lst ds)):bC mh (.ref n)=some ds:=by simp[bC,e]
theorem k7(e:mh[n]? =some (.lst ds)):mT mh (.ref n)=some ds:=by simp[mT,e]
variable{α:Type}
theorem AY(l:List α)(x:α):jH (l++[x]) (-1)=some x:=by
 unfold jH LR;rw[if_neg (by lia),if_pos (by simp;lia)];simp only[Option.bind_some];have:((-1:Int)+((l++[x]).length:Int)).toNat=l.length:=by simp;lia
 rw[this];simp
theorem nJ{f:α->D}{l:List α}{i:Nat}{d:D}(h:(l.map f)[i]? =some d):∃x,l[i]? =some x/\d=f x:=by
 rw[List.getElem?_map]at h;obtain⟨x,a,b⟩:=aKr.mp h;exact⟨x,a,b.symm⟩
theorem G8(ds:List D)(lo hi:Option Int):(cutD ds lo hi).length<=ds.length:=by
 unfold cutD;simp;lia
theorem V7{lo hi:Option Int}{d:D}(h:d∈cutD ds lo hi):d∈ds:=by
 unfold cutD at h;exact aM2 (aKp h)
theorem pF{α k:Type}{g:WG}{t:WT}{w:WE}{ρe:gM}{St:MH->Prop}{Q:DK}(em:α->D)(p:α->Bool)(f:α->k)(c:k->D):∀(ds:List α) (a:List k) {mh:MH},St mh->
  (∀d∈ds,∀(N:DK) (M:MH->Prop),(p d=true->N (c (f d)) mh)->(p d=false->M mh)->g (em d) ρe λi=>t i mh λb j=>if b=true then w i j N else M j)->
  Q (.ref mh.length) (mh++[.lst ((a++(ds.filter p).map f).map c)])->iR g t w ρe St Q (ds.map em) (a.map c) mh
 | [],a,mh,hst,_,q=>⟨hst,by simpa using q⟩
 | d::ds,a,mh,hst,h,q=>by
  refine⟨hst,?_⟩;refine h d aJs _ _ (λl=>?_) λl=>?_
  ·have:=pF (Q:=Q) (St:=St) (g:=g) (t:=t) (w:=w) (ρe:=ρe) em p f c ds (a++[f d]) hst (λe he=>h e (aJt _ he)) (by rw[List.filter_cons_of_pos l]at q;simpa using q);simpa using this
  ·exact pF em p f c ds a hst (λe he=>h e (aJt _ he)) (by rw[List.filter_cons_of_neg (by simp[l])]at q;exact q)
theorem zB{α c:Type}{g:WG}{w:WE}{ρe:gM}{St:MH->Prop}{Q:DK}(em:α->D)(f:α->c)(b:c->D):∀(ds:List α) (a:List c) {mh:MH},St mh->
  (∀d∈ds,∀(N:DK),N (b (f d)) mh->g (em d) ρe λi=>w i mh N)->
  Q (.ref mh.length) (mh++[.lst ((a++ds.map f).map b)])->iR g lQ w ρe St Q (ds.map em) (a.map b) mh
 | [],a,mh,hst,_,q=>⟨hst,by simpa using q⟩
 | d::ds,a,mh,hst,h,q=>by
  refine⟨hst,?_⟩;simp only[XD,if_true];refine h d aJs _ ?_;have:=zB (Q:=Q) (St:=St) (g:=g) (w:=w) (ρe:=ρe) em f b ds (a++[f d]) hst (λe he=>h e (aJt _ he)) (by simpa using q);simpa using this
theorem G9{α j:Type}{g:WG}{t:WT}{w:WE}{ρe:gM}{St:MH->Prop}{Q:DK}(em:α->D)(p:α->Bool)(f:α->j)(e:j->D)(ds:List α)(i:St mh)
  (h:∀d∈ds,∀(N:DK) (M:MH->Prop),(p d=true->N (e (f d)) mh)->(p d=false->M mh)->g (em d) ρe λa=>t a mh λb c=>if b=true then w a c N else M c)
  (q:Q (.ref mh.length) (mh++[.lst (((ds.filter p).map f).map e)])):iR g t w ρe St Q (ds.map em) [] mh:=pF em p f e ds [] i h q
theorem iE{α e:Type}{g:WG}{w:WE}{ρe:gM}{St:MH->Prop}{Q:DK}(em:α->D)(f:α->e)(a:e->D)(ds:List α)(b:St mh)
  (h:∀d∈ds,∀(N:DK),N (a (f d)) mh->g (em d) ρe λc=>w c mh N)
  (q:Q (.ref mh.length) (mh++[.lst ((ds.map f).map a)])):iR g lQ w ρe St Q (ds.map em) [] mh:=zB em f a ds [] b h q
def pH(P:Program)(w:World)(K:aNm)(mg:aNp)(base:Heap)(k:Nat)(x:Str)(N:List Str)(st:Stmt)(wB:WS):Prop:=
 ∀(f:Addr) (cdv:Value) (A:Around) (outer:List Env) (s:Shared) (H:Hp) (E:XK),gL k (A.deeper (envOfC x (aE st) s.heap.objs.size f cdv))->
  jJ (wG FE P w K mg base N x (aE st) f cdv A outer s H E).UL (cG st) wB
section
variable {P:Program}{w:World}{K:aNm}{mg:aNp}{base:Heap}{h:Heap}
theorem cP{st:Stmt}{N ps:List Str}{k:Nat}{s:OA}{wB:WS}(b:dI K x st)(KX:K.In h)(G:h.Ns mainGlobals mg)(c:bL x st ps)(S:aN N ps (aE st))(hb:pH P w K mg base k x N st wB)(len:∀ds mh R,s ds mh R->ds.length=ps.length)
  (e:∀ds mh R,iA mh->s ds mh R->wB {nx:=λ_ a=>Out mh.length .bY a R,rt:=λd a=>Out mh.length d a R} (aG N ds) mh):Fn P w K mg base (k+1) x ps s:=
 aBr b KX G c S len hb λds mh R ok _ hs=>e ds mh R ok hs
theorem Q2{st:Stmt}{N ps:List Str}{j k:Nat}{s:OA}{wB:WS}(e:k+1=j)(b:dI K x st)(KX:K.In h)(G:h.Ns mainGlobals mg)(c:bL x st ps)(S:aN N ps (aE st))(hb:pH P w K mg base k x N st wB)(len:∀ds mh R,s ds mh R->ds.length=ps.length)
  (f:∀ds mh R,iA mh->s ds mh R->wB {nx:=λ_ a=>Out mh.length .bY a R,rt:=λd a=>Out mh.length d a R} (aG N ds) mh):Fn P w K mg base j x ps s:=
 e▸cP b KX G c S hb len f
theorem aAt{st:Stmt}{N:List Str}{k:Nat}{c:Addr}{wB:WS}(KX:K.In h)(G:h.Ns mainGlobals mg)(b:mg "law"=some (.ref c))(e:dI K "law" st)(S:aN N [x] (aE st))(f:bL "law" st [x])
  (hb:∀base:Heap,pH P w K mg base k "law" N st wB)
  (g:∀ds mh R,iA mh->xA ds mh R->wB {nx:=λ_ a=>Out mh.length .bY a R,rt:=λd a=>Out mh.length d a R} (aG N ds) mh):
  ∃fd:FuncData,(∀(s:Shared) (u:Value),BindsTo s fd ⟨[u],[]⟩ [(x,u)])/\∀base:Heap,kP P w K mg base FE (k+1) c fd [x] (R0 K xA):=
 aAu KX G b e S f λbase=>⟨wB,hb base,λds mh R ok _ hs=>g ds mh R ok hs⟩
end
end D3
namespace L2
open PySem PySem.Spec PyProof.Rows
open Builtin Builtin.Str
open AutoSeq1 (wpAny_loadPart')
end L2
namespace D3
open PySem PySem.Spec PyProof.Rows L2
end D3
namespace L2
open PySem PySem.Spec PyProof.Rows
end L2
namespace D3
open PySem PySem.Spec PyProof.Rows L2
end D3
namespace L2
open PySem PySem.Spec PyProof.Rows
section
variable {prog:Program}{w:World}{A:Around}{E:aNn}{s:Shared}
def enO(f0:Value)(it:Addr)(i:Nat)(old:Value):Obj:={cls:= .type "enumerate",dict:=none,data:= .fields #[f0,.bool false,.ref it,rawInt (i:Int),.none,old],slots:= #[]}
structure w4(h:Heap)(e:Addr)(q:Src)(f0:Value)(i:Nat):Prop where
 obj:∃old,h.get? e=some (enO f0 q.it i old)
 at_:q.At h i
variable{e:Addr}{q:Src}{i:Nat}{items:Array Value}
theorem V5{x:Value}{Q:aNn}(Z:w4 s.heap e q .none i)(G:q.Sq s.heap items)(hx:items[i]? =some x)(c:e≠q.it)
  (H:∀h',w4 h' e q (rawInt s.heap.objs.size) (i+1)->h'.get? s.heap.objs.size=some {cls:= .type "tuple",data:= .seq #[.int i s.toks,x]}->
   (∀b o,b≠e->b≠q.it->s.heap.get? b=some o->h'.get? b=some o)->Q (.ref s.heap.objs.size) {s with heap:=h',toks:=s.toks+1}):
  wpAny (model prog w) A (Builtin.«enumerate.__next__» ⟨[.ref e],[]⟩) (λfin I =>∃v,fin= .done (.ret v)/\Q v I) E s:=by
 obtain⟨⟨old,he⟩,u⟩:=Z;obtain⟨y,g,d,a,os⟩:=s;have f:e<y.objs.size:=aJy he;show wpAny _ _ (field (.ref e) 2 >>=_) _ _ _;refine aJn (aKk he rfl (x:= .ref q.it) rfl (aJn (Src.item u G hx λm z h=>?_)));have B:m.get? e=some (enO .none q.it i old):=(h.2 e c).trans he;show wpAny _ _ (field (.ref e) 3 >>=_) _ _ ⟨m,g,d,a,os⟩;refine aJn (aKk B rfl (x:=rawInt (i:Int)) rfl ?_);show wpAny _ _ (field (.ref e) 4 >>=_) _ _ ⟨m,g,d,a,os⟩;refine aJn (aKk B rfl (x:= .none) rfl ?_);show wpAny _ _ (mkInt (i:Int) >>=_) _ _ ⟨m,g,d,a,os⟩;refine aJn (aNe ?_);show wpAny _ _ (setField (.ref e) 3 (rawInt ((i:Int)+1)) >>=_) _ _ ⟨m,g,d,a+1,os⟩;refine aJn (aKa B (by simp) λJ K n=>?_);show wpAny _ _ (setField (.ref e) 4 .none >>=_) _ _ ⟨J,g,d,a+1,os⟩;refine aJn (aKa K (by simp) λp L r=>?_);show wpAny _ _ (newTuple [.int i a,x] >>=_) _ _ ⟨p,g,d,a+1,os⟩;refine aJn (aM1 ?_);have hsz:p.objs.size=y.objs.size:=by rw[r.1,n.1,h.1]
 have t:=aJp {cls:= .type "tuple",data:= .seq #[.int i a,x]} L;have F:(p.push {cls:= .type "tuple",data:= .seq #[.int i a,x]}).get? y.objs.size=some {cls:= .type "tuple",data:= .seq #[.int i a,x]}:=by rw[<-hsz];exact aJv _ rfl
 have C:∀b o,b≠e->m.get? b=some o->(p.push {cls:= .type "tuple",data:= .seq #[.int i a,x]}).get? b=some o:=λb o hb D=>aJp _ (r.extBut b o hb (n.extBut b o hb D));show wpAny _ _ (Builtin.SmallTypes.ownedTupleIsFree (.ref e) >>=_) _ _ _;rw[hsz];generalize p.push {cls:= .type "tuple",data:= .seq #[.int i a,x]}=h4 at t F C⊢;refine aJn ?_;unfold Builtin.SmallTypes.ownedTupleIsFree;refine aJn (aKk t rfl (x:= .none) rfl (aJo ?_));simp only[if_true];refine aJn (aKq (aJn (aKk t rfl (x:=old) rfl (aJn (aKa t (by simp) λS M j=>?_)))));refine aJn ?_;unfold Builtin.SmallTypes.ownedTupleHandOut;refine aJn (aKa M (by simp) λT N k=>aKa N (by simp) λO P l=>aJn (wpAny_letGo (aJo ⟨_,rfl,H O ⟨⟨x,?_⟩,?_⟩ ?_ ?_⟩)))
 ·exact P
 ·exact z.to λo ho=>l.extBut _ _ (aL4 c) (k.extBut _ _ (aL4 c) (j.extBut _ _ (aL4 c) (C _ _ (aL4 c) ho)))
 ·exact l.extBut _ _ (aL8 f) (k.extBut _ _ (aL8 f) (j.extBut _ _ (aL8 f) F))
 ·exact λb o hb R D=>l.extBut _ _ hb (k.extBut _ _ hb (j.extBut _ _ hb (C _ _ hb (h.extBut _ _ R D))))
variable{Q:Option Value->Shared->Prop}
theorem AJ{x:Value}(Z:w4 s.heap e q .none i)(g:q.Sq s.heap items)(hx:items[i]? =some x)(d:e≠q.it)
  (h:∀h',w4 h' e q (rawInt s.heap.objs.size) (i+1)->h'.get? s.heap.objs.size=some {cls:= .type "tuple",data:= .seq #[.int i s.toks,x]}->
   (∀b o,b≠e->b≠q.it->s.heap.get? b=some o->h'.get? b=some o)->Q (some (.ref s.heap.objs.size)) {s with heap:=h',toks:=s.toks+1}):
  wpAny (model prog w) A (pyNext (.ref e)) Q E s:=by
 have f:s.TypeIs (.ref e) "enumerate":=by obtain⟨old,he⟩:=Z.obj;exact⟨_,he,rfl⟩
 unfold pyNext
 exact aJn (aLa (aK9 (name:=Str.ofString "__next__") f aLi (aK8 aLi f F.entry_enumerate_next
  (V5 Z g hx d λh' a b c=>aJo (h h' a b c)) (F.args_enumerate_next_1 _))))
theorem DH(f:A.handled=none)(Z:w4 s.heap e q .none i)(g:q.Sq s.heap items)(hx:items[i]? =none)
  (h:∀h',Heap.ExtBut q.it s.heap h' ->Q none {s with heap:=h'}):wpAny (model prog w) A (pyNext (.ref e)) Q E s:=by
 obtain⟨old,he⟩:=Z.obj
 have d:s.TypeIs (.ref e) "enumerate":=⟨_,he,rfl⟩
 unfold pyNext;refine aJn (aLa (aK9 (name:=Str.ofString "__next__") d aLi (aK8 aLi d F.entry_enumerate_next ?_ (F.args_enumerate_next_1 _))));show wpAny _ _ (field (.ref e) 2 >>=_) _ _ _;refine aJn (aKk he rfl (x:= .ref q.it) rfl (aJn (Src.done f Z.at_ g hx λh' x a c =>?_)));obtain⟨o,ho,j⟩:=c;exact aJn (aLp (T:= "StopIteration") (b:=true) ⟨o,ho,j⟩ isSubtype_stop (aJo (h _ a)))
theorem aFn{elts:List Expr}{x1}{pos:Pos}{e T:Addr}{Q:Unit->Shared->Prop}(a:e≠q.it)(Z:w4 s.heap e q (rawInt T) i)
  (d:∀h',w4 h' e q .none i->Heap.SameBut e s.heap h' ->Q () {s with heap:=h'}):wpAny (model prog w) A (letOwnedTupleGo (.Tuple elts x1 pos) (.ref e) (.ref T)) Q E s:=by
 obtain⟨⟨old,he⟩,b⟩:=Z;exact wpAny_letOwnedTupleGo_enum he λh' c sb=>d h' ⟨⟨old,c⟩,b.to λo ho=>sb.extBut _ _ (aL4 a) ho⟩ sb
theorem JQ{f0:Value}{Q:aNn}(Z:w4 s.heap e q f0 i)(h:Q (.ref e) s):wpAny (model prog w) A (pyIter (.ref e)) Q E s:=by
 have a:s.TypeIs (.ref e) "enumerate":=by obtain⟨old,he⟩:=Z.obj;exact⟨_,he,rfl⟩
 refine aMr a F.slot_enumerate_iter (aK8 F.slot_enumerate_iter a F.entry_enumerate_iter ?_ (F.args_enumerate_iter_1 _));exact aJo ⟨_,rfl,"enumerate",_,a,aLi.lookup,h⟩
end
open AutoSeq1 (wpAny_loadPart')
theorem PH(q:Src):Meets (Builtin.«enumerate.__new__» ⟨[.type "enumerate",.ref q.l],[]⟩) (λ_ R s=>(∃items,q.Sq s.heap items)/\
   ∀h' e,s.heap.objs.size<e->w4 h' e ⟨s.heap.objs.size,q.l,q.tup⟩ .none 0->(∀b o,s.heap.get? b=some o->h'.get? b=some o)->R (.ok (.ret (.ref e))) {s with heap:=h'}):=
 .of_wp λprog w A R s h=>by
  obtain⟨hs,m⟩:=h;obtain⟨items,hs⟩:=hs;obtain⟨j,g,d,n,os⟩:=s;have k:=sub_enumerate
  have fin:∀a:Heap,(⟨j.objs.size,q.l,q.tup⟩:Src).At a 0->a.objs.size=j.objs.size+1->(∀b o,j.get? b=some o->a.get? b=some o)->
    R (.ok (.ret (.ref a.objs.size))) ⟨a.push {cls:= .type "enumerate",data:= .fields #[.none,.bool false,.ref j.objs.size,rawInt 0,.none,.none]},g,d,n,os⟩:=λa f i k1=>
   m _ _ (by show j.objs.size<_;lia) ⟨⟨.none,aJv _ rfl⟩,f.to λo e=>aJp _ e⟩ λb o e=>aJp _ (k1 b o e)
  unfold Builtin.«enumerate.__new__»
  wp_walk
  refine wpAny_stack_any λst=>aJo ?_;split
  ·rename_i c _ _ _ _ _;cases (c==Value.type "enumerate")
   ·wp_walk using Src.start hs
    intro a f i k1
    wp_walk
    exact⟨_,rfl,fin a f i k1⟩
   ·wp_walk using Src.start hs
    intro a f i k1
    wp_walk
    exact⟨_,rfl,fin a f i k1⟩
  ·wp_walk using Src.start hs
   intro a f i k1
   wp_walk
   exact⟨_,rfl,fin a f i k1⟩
section
variable {prog:Program}{w:World}{A:Around}{E:aNn}{s:Shared}
theorem WD{q:Src}{Q:aNn}(hs:∃items,q.Sq s.heap items)
  (h:∀h' e,s.heap.objs.size<e->w4 h' e ⟨s.heap.objs.size,q.l,q.tup⟩ .none 0->(∀b o,s.heap.get? b=some o->h'.get? b=some o)->Q (.ref e) {s with heap:=h'}):
  wpAny (model prog w) A (call (.type "enumerate") [Value.ref q.l]) Q E s:=
 callType_new F.called_enumerate (by decide) (F.typeCall_enumerate_1 _) (F.newCall_enumerate_1 _) (λobj=>F.args_object_init_2 obj _) F.entry_enumerate_new (PH q)
  ⟨hs,λh' e t Z k=>⟨by obtain⟨old,he⟩:=Z.obj;exact⟨_,he,rfl⟩,h h' e t Z k⟩⟩
end
def Ite(K:aNm)(a:Addr)(t:Bool):It where
 go:=λi H=>∃xs v,FG K H t a xs/\xs[i]? =some v
 yld:=λi H x H' =>∃p v,H p=none/\x= .ref p/\H' =upd H p (.tup [.int i,v])/\∀xs,FG K H t a xs->xs[i]? =some v
 stop:=λi H=>∃xs,FG K H t a xs/\xs.length<=i
theorem SS{P:Program}{w:World}{K:aNm}{elts:List Expr}{x1}{pos:Pos}{e:Addr}{q:Src}(d:e≠q.it):
  Turn P w K (.Tuple elts x1 pos) (Ite K q.l q.tup) [e,q.it] e (λi h=>w4 h e q .none i) where
 mem:=aJs
 self:=λA i s Q E Z h=>JQ Z h
 obj:=λi h Z b hb=>by
  simp only[List.mem_cons,List.not_mem_nil,or_false]at hb;rcases hb with rfl | rfl
  ·obtain⟨old,he⟩:=Z.obj;exact⟨_,he,λv z=>by cases z⟩
  ·obtain⟨o,ho,hd⟩:=Z.at_.obj;exact⟨o,ho,λv z=>by rw[hd]at z;cases z⟩
 keep:=λi h h' Z k=>by
  obtain⟨⟨old,he⟩,j⟩:=Z;exact⟨⟨old,k e (by simp) _ he⟩,j.to λo ho=>k q.it (by simp) o ho⟩
 item:=by
  intro X m n p y i pins s σ H E I g Z hg;subst m n p;obtain⟨xs,v,hx,hi⟩:=hg;obtain⟨aJ,C,hs⟩:=I.YL hx;obtain⟨u,D,r⟩:=C.get hi;refine AJ Z (hs q.it) (by simpa using D) d λF G B k1=>?_;refine⟨_,rfl,aFn (s:={s with heap:=F,toks:=s.toks+1}) d G λJ L c=>?_⟩;have f:e<s.heap.objs.size:=by obtain⟨old,he⟩:=Z.obj;exact aJy he
  have t:q.it<s.heap.objs.size:=by obtain⟨o,ho,_⟩:=Z.at_.obj;exact aJy ho
  have a:s.heap.objs.size≠e:=aL8 f
  have kk:∀b o,b∉[e,q.it]->s.heap.get? b=some o->J.get? b=some o:=λb o hb ho=>by
   simp only[List.mem_cons,List.not_mem_nil,or_false,not_or]at hb;exact c.extBut _ _ hb.1 (k1 b o hb.1 hb.2 ho)
  refine⟨.ref s.heap.objs.size,upd H s.heap.objs.size (.tup [.int i,v]),I.XY (t' :=s.toks+1) g kk (aJq _) ⟨by have:=aK4;simp;lia,[.int i s.toks,u],.cons ⟨_,rfl⟩ (.cons r .nil),⟨_,c.extBut _ _ a B,rfl,0,rfl⟩,λo ho=>by rw[c.extBut _ _ a B]at ho;cases ho;rfl⟩,rfl,?_,L,λb hb=>?_⟩
  ·refine⟨s.heap.objs.size,v,I.b9.fresh (aJq _),rfl,rfl,λO M=>?_⟩;rw[I.IJ M hx];exact hi
  ·have x:=(g b hb).1
   have:b≠s.heap.objs.size:=by
    simp only[List.mem_cons,List.not_mem_nil,or_false]at hb;rcases hb with rfl | rfl
    ·exact aK2 f
    ·exact aK2 t
   rw[aV this];exact x
 done:=by
  intro X m n p y i pins s σ H E I g Z hg;subst m n p;obtain⟨xs,hx,N⟩:=hg;obtain⟨aJ,r,hs⟩:=I.YL hx
  refine DH (I.ok.hd y) Z (hs q.it) ?_ λh' kp=>⟨rfl,I.Q0 (t' :=s.toks) g λb o hb ho=>kp b o (λz=>hb (by simp[z])) ho⟩
  have:=r.length;rw[List.getElem?_toArray];exact aLj.mpr (by lia)
def iEn(K:aNm)(c:TA):TI:=λσ H R=>c σ H λvs b=>∃a t,vs=[.ref a]/\(∃xs,FG K b t a xs)/\R (Ite K a t) b
theorem aE7{X:Cx}{e:Expr}{j:TA}{p pos:Pos}{elts:List Expr}{x1}{c:Pos}(hg:Gl X "enumerate")(hm:X.mg "enumerate"=none)(ha:PA X [e] j)
  (l:bootBuiltins "enumerate"=some (.type "enumerate"):=by decide+kernel)
  (hs:starEach [e] X.env=(false,eval e X.env)::starEach [] X.env:=by rfl):
  PI X (.Tuple elts x1 c) (.Call (.Name "enumerate" p) [e] [] pos) (iEn X.K j):=by
 intro pins s σ H R I h;refine aLs (pB I hg hm l ?_);refine aL0 (c8 (ha pos pins s σ H _ I h) λus s1 ⟨vs,g,f,m,n⟩=>?_) hs rfl;obtain⟨a,t,rfl,⟨xs,hx⟩,o⟩:=n;obtain⟨u,rfl,r⟩:=vals1 m;cases r;obtain⟨aJ,_,i⟩:=f.YL hx;refine WD (q:=⟨0,a,t⟩) ⟨aJ.toArray,i 0⟩ λh' z k Z kp=>?_;have v:Inv X pins σ g {s1 with heap:=h'}:=f.kept (t' :=s1.toks) kp;have T:=SS (P:=X.prog) (w:=X.w) (K:=X.K) (elts:=elts) (x1:=x1) (pos:=c) (e:=z) (q:=⟨s1.heap.objs.size,a,t⟩) (aL8 k);refine JQ Z ⟨z,_,_,Ite X.K a t,g,rfl,v,T,Z,λb hb=>?_,o⟩
 have d:s1.heap.objs.size<=b:=by
  simp only[List.mem_cons,List.not_mem_nil,or_false]at hb;rcases hb with rfl | rfl
  ·exact aM5 k
  ·exact aJq _
 exact(f.Q1 d (f.b9.fresh d):wZ X pins g b)
end L2
namespace D3
open PySem PySem.Spec PyProof.Rows L2
def IA(f wi g:WE):WE:=λc mh Q=>f c mh λo a=>∃n,o= .ref n/\(∃kvs,a[n]? =some (.dic false kvs))/\wi c a λi d=>g c d λx b=>∃kvs e,b[n]? =some (.dic false kvs)/\i=cO e/\Q ((fH kvs i).getD x) b
section
variable {X:Cx}{o i x:Expr}{wo wi wx:WE}{apos dH pos tpos:Pos}
theorem aBc{K:aNm}{μ:List Addr}{mh:MH}{H:Hp}{n:Nat}{v:V}{kvs:List (D×D)}(R:Rep K μ mh H)(h:Is K μ H (.ref n) v)(e:mh[n]? =some (.dic false kvs)):∃a,v= .ref a/\IsD H a:=by
 obtain⟨a,vs,rfl,c,⟨kk,b,_,_⟩,_⟩:=BD R h e;exact⟨a,rfl,.inl ⟨kk,.inl b⟩⟩
theorem U9(U:X.A.units+64<cLine)(ho:LE X o wo)(hi:LE X i wi)(hx:LE X x wx)(base:attributeBase o "get" X.env (eval o X.env)=eval o X.env:=by rfl)
  (FF:((backTo dH (starEach [i,x] X.env)).all (λx=>!x.1) && (backToKw dH (keywordEach [] X.env)).all (λx=>x.1.isSome) && decide (([i,x]:List Expr).length+([]:List Keyword).length+(if ([]:List Keyword).isEmpty then 0 else 1)<30))=true:=by rfl)
  (line:(apos.endLine==dH.line)=true:=by rfl) (trees:backTo dH (starEach [i,x] X.env)=[(false,eval i X.env),(false,eval x X.env)]:=by rfl):
  LE X (.Call (.Attribute o "get" apos) [i,x] [] dH) (IA wo wi wx):=PE.imp (OO (by lia) ho hi hx ⟨base,FF,line,trees⟩) λσ H Q h=>by
 obtain⟨μ,b,mh,R,c,En,h,F⟩:=h;refine⟨μ,b,mh,_,c,En,h,λE d q f V W g j y=>?_⟩;obtain⟨n,rfl,⟨z,G⟩,q⟩:=q;obtain⟨a,rfl,I⟩:=aBc j y G;refine⟨a,rfl,I,f,b,d,_,j,En.mono c g,q,λY m J p Z H2 r R2 K=>?_⟩;refine⟨p,b,m,_,R2,En.mono c (g.trans r),J,λdx L M N vx H3 B s O=>?_⟩;obtain⟨kvs,t,e,rfl,q⟩:=M;obtain⟨a',vs,P,hn,⟨kk,C,S,rfl⟩,l⟩:=BD s (Is.mono j (r.trans B) _ _ y) e;cases P;cases t9 K;have D:=F.at ((g.trans r).trans B)
 rcases zP t S l with ⟨u,v⟩ | ⟨d',w,u,v,T⟩
 ·rw[v]at q;exact⟨none,by rw[<-u];exact .k C,D.here s q O⟩
 ·rw[v]at q;exact⟨some w,by rw[<-u];exact .k C,D.here s q T⟩
@[simp] theorem aI7 {c:gM}{mh:MH}{Q:DK}:IA wo wi wx c mh Q=(wo c mh λo a=>∃n,o= .ref n/\(∃kvs,a[n]? =some (.dic false kvs))/\wi c a λi d=>wx c d λx b=>∃kvs e,b[n]? =some (.dic false kvs)/\i=cO e/\Q ((fH kvs i).getD x) b):=rfl
end
theorem aAb{X:Cx}(i j:Nat){x y:Str}{a b:Expr}{p:WA}{px k pt pos:Pos}{l k2:Nat}{c:Pos}(w:X.calm=true)(hN:X.N.Nodup)(ha:LA X [a,b] p)(hi:X.N[i]? =some x:=by rfl)(z:X.N[j]? =some y:=by rfl)(m:i≠j:=by decide)
  (hx:X.env.scope.names.lookup x=some .local:=by rfl) (A:X.env.scope.names.lookup y=some .local:=by rfl)
  (B:swappedStores [.Tuple [.Name x px,.Name y k] l pt] (.Tuple [a,b] k2 c) X.env=pure (some [x,y]):=by rfl)
  (hs:swapsWithSole [.Tuple [.Name x px,.Name y k] l pt] (.Tuple [a,b] k2 c) pos.line X.env=pure false:=by rfl):
  LS X (.Assign [.Tuple [.Name x px,.Name y k] l pt] (.Tuple [a,b] k2 c) pos) (bG (cV p) (gT 2 (aT (gN i) (aT (gN j) fJ)))):=
 PS.imp (Y7 w hN hi z m hx A ha B hs) λD σ H h=>by
  obtain⟨μ,C,mh,E,s,En,h,F⟩:=h;refine⟨μ,C,mh,_,s,En,h,λds n G o vs I t J f=>?_⟩;obtain⟨_,K,e,O,d,r,rfl,P,Q,rfl,rfl,q⟩:=G;cases e;unfold IsL at f;obtain⟨v,R,rfl,f,g⟩:=f;unfold IsL at g;obtain⟨L,M,rfl,g,u⟩:=g;unfold IsL at u;subst u;exact⟨v,L,rfl,F.nx _ n q o _ I t J (((En.mono s t).set i f).set j g)⟩
abbrev cF(P:Program)(W:World)(K:aNm)(mg:aNp)(base:Heap)(N:List Str)(q:Str)(S:Stmt)(f:Addr)(a:Value)(A:Around)(o:List Env)(s:Shared)(H:Hp)(E:XK):Cx:=(wG FE P W K mg base N q (aE S) f a A o s H E).UL
section
variable {P:Program}{W:World}{K:aNm}{mg:aNp}{base:Heap}{N:List Str}{q:Str}{S:Stmt}{f:Addr}{cd:Value}{A:Around}{o:List Env}{s:Shared}{H:Hp}{E:XK}
 {tg iter elt:Expr} {ifs:List Expr} {scope:Scope} {pos:Pos} {wi:WI} {g:TG} {gd:WG} {t:WT} {w:WE} (own:List Str) (aK:List Nat)
def cN(N own:List Str)(aK:List Nat):List Str:=own++aK.map λi=>N.getD i ""
theorem aAn(chk:fW N (aE S) scope aK=true)(nd:(cN N own aK).Nodup)(a:qY K g gd)(ho:wY own.length g)
  (hi:LI (cF P W K mg base N q S f cd A o s H E) tg iter wi)
  (hg:(cN N own aK).Nodup->∀cl C fp s₀ H₀,PG (aW (cF P W K mg base N q S f cd A o s H E) own aK scope cl C fp s₀ H₀) tg g) (ht:∀cl C fp s₀ H₀,SA (aW (cF P W K mg base N q S f cd A o s H E) own aK scope cl C fp s₀ H₀) ifs t)
  (he:∀cl C fp s₀ H₀,LE (aW (cF P W K mg base N q S f cd A o s H E) own aK scope cl C fp s₀ H₀) elt w)
  (hs:∀x,foldedSetIterable iter (cF P W K mg base N q S f cd A o s H E).env x=pure x:=by intro _;rfl):LE (cF P W K mg base N q S f cd A o s H E) (.ListComp elt [⟨tg,iter,ifs,0⟩] scope pos) (uI own aK wi gd t w):=
 XR (N:=N) (sc:=aE S) own aK rfl rfl chk rfl hi ho a (hg nd) ht he hs
theorem LF{i:Nat}{x:Str}{a c:Pos}(chk:fW N (aE S) scope aK=true)(nd:(cN N own aK).Nodup)(d:qY K g gd)(ho:wY own.length g)
  (hN:N.Nodup) (hi:LI (cF P W K mg base N q S f cd A o s H E) tg iter wi)
  (hg:(cN N own aK).Nodup->∀cl C fp s₀ H₀,PG (aW (cF P W K mg base N q S f cd A o s H E) own aK scope cl C fp s₀ H₀) tg g) (ht:∀cl C fp s₀ H₀,SA (aW (cF P W K mg base N q S f cd A o s H E) own aK scope cl C fp s₀ H₀) ifs t)
  (he:∀cl C fp s₀ H₀,LE (aW (cF P W K mg base N q S f cd A o s H E) own aK scope cl C fp s₀ H₀) elt w)
  (b:N[i]? =some x:=by rfl) (hx:Loc (cF P W K mg base N q S f cd A o s H E).env.scope x:=by first | exact Or.inl rfl | exact Or.inr rfl) (e:swapsWith (.ListComp elt [⟨tg,iter,ifs,0⟩] scope pos) (some (.Name x a)) c.line (cF P W K mg base N q S f cd A o s H E).env=pure true:=by rfl)
  (h:(cF P W K mg base N q S f cd A o s H E).fn x=true\/(cF P W K mg base N q S f cd A o s H E).env.scope.names.lookup x=some .local:=by first | exact .inl rfl | exact .inr rfl | assumption)
  (hs:∀x,foldedSetIterable iter (cF P W K mg base N q S f cd A o s H E).env x=pure x:=by intro _;rfl):LS (cF P W K mg base N q S f cd A o s H E) (.Assign [.Name x a] (.ListComp elt [⟨tg,iter,ifs,0⟩] scope pos) c) (bG (uI own aK wi gd t w) (gN i)):=
 PV i hN (N:=N) (sc:=aE S) own aK rfl rfl chk rfl hi ho d (hg nd) ht he b hx e h hs
end
section
variable {X:Cx}{pins:List (Addr×Obj)}{σ:L2.St}{H:Hp}{s:Shared}{a:Addr}
theorem VF{b:Addr}{ks:List Key}(I:Inv X pins σ H s)(e:tQ X.K H b (ks.map kV)):(tupleKind (aM X.prog X.w)).is s.heap ks b:=by
 obtain⟨aJ,r,⟨o,a,c,n,d⟩,_⟩:=I.tuple e;exact⟨o,aJ.toArray,n,a,c,d,by simpa using rN r⟩
theorem TC{prog:Program}{w:World}{A:Around}{E:aNn}{s:Shared}{d:Addr}{es:Array DictEntry}{ep:Nat}{Q:aNn}(hd:(d==sysModules)=false)(hm:B4 s.heap d es ep)(b:(es.size:Int)<2^63)
  (h:∀t k,Q (.int es.size t) {s with toks:=k}):wpAny (model prog w) A (call (.builtin "len") [.ref d]) Q E s:=by
 refine aM8 kind_len plain_len entry_len (args_len1 _) ?_;unfold Builtin.«len»;refine aJn (m:=oneArg "len" _) (aJo ?_)
 have M:MeetsIn prog w (Builtin.«dict.__len__» ⟨[.ref d],[]⟩) (λ_ R s=>B4 s.heap d es ep/\R (.ok (.ret (.int es.size s.toks))) {s with toks:=s.toks+1}):= .of_wp λA R s ⟨hm,h⟩=>by
  obtain⟨o,ho,c,a⟩:=hm;show wpAny _ _ (dictSize d >>=_) _ _ s;unfold dictSize;refine aJn (aJn (wpAny_dictEntries ho a (aJo ?_)));show wpAny _ _ (Builtin.Dict.pendingCount d >>=_) _ _ s;refine aJn (wpAny_pendingCount_other hd ?_);refine wpAny_ret_mkInt ?_;rw[Nat.add_zero];exact h
 refine aJn (m:=callSpecial? (.ref d) (Str.ofString "__len__")) (aK9 (name:=Str.ofString "__len__") hm.typeIs F.slot_dict_len
  (call_meetsIn F.slot_dict_len hm.typeIs F.entry_dict_len (F.args_dict_len_1 _) M ⟨hm,?_⟩))
 show wpAny _ _ _ _ _ {s with toks:=s.toks+1};refine aJn (aKd (aJo ?_));refine aJn (wpAny_letGo ?_);show wpAny _ _ (if ((es.size:Nat):Int)<0 then _ else _) _ _ _;rw[if_neg (by lia)];show wpAny _ _ (if ((es.size:Nat):Int)>=2^63 then _ else _) _ _ _;rw[if_neg (by lia)];exact aJn (aNe (aJo ⟨_,rfl,h _ _⟩))
end
open PySem.Calls
theorem aGm{l:PySem.W.OpenLaw}{q:Program}{loose:List Str}{K:Params->aNm}{as:List Addr}{d:DefRec}{a:List (Str×Expr)}{N:Nat}(ok:l.wellSaid=true)(e:∀P,as=(K P).map (·.1))
  (left:PySem.W.LeftO l.prog q loose (λ_=>true) (λs=>as.map s.heap.get?) (λw=>(K w.params).map λp=>some p.2) N)
  (b:PySem.W.defOf q l.name=some (d,a)) (h:l.prog.theDef l.name=some (d.params,d.body,d.scope)) (i:PySem.W.kwWritten? d.params.kwonlyargs d.params.kw_defaults=some a)
  (g:(PySem.W.chainsOk q && PySem.W.opensWell l.prog && (PySem.W.frees l.row.toRowW && l.row.within.isEmpty))=true) (hb:l.prog.bare) (j:l.row.toRowW.promised)
  (call:PySem.W.WalkO q loose (λ_ _=>True) (PySem.W.InK K) l.row.toRowW d a λf vs=>PySem.call f vs):l.Holds:=
 PySem.W.holds_law ok λc=>PySem.W.holds_open (r:=l.row) (XP:=λ_ _=>True) left (PySem.W.InK.of e) PySem.W.InK.keeps (λ_ _=>trivial) (λ_ _ _ _ _=>trivial) b h i
  (λs _=>PySem.W.recFacts_of (R:=[]) rfl) (Bool.or_true _) c g hb j call
theorem IF{ds es:List D}(U:E8 ds)(p:∀d∈es,d∈ds):E8 es:=by
 rcases U with ⟨c,h⟩ | ⟨c,cs,h⟩
 ·exact .inl ⟨c,λd hd=>h d (p d hd)⟩
 ·exact .inr ⟨c,cs,λd hd=>h d (p d hd)⟩
section
variable {P:Program}{W:World}{K:aNm}{mg:aNp}{base:Heap}{N:List Str}{q:Str}{S:Stmt}{f:Addr}{cd:Value}{A:Around}{o:List Env}{s:Shared}{H:Hp}{E:XK}
 {tg iter elt:Expr} {ifs:List Expr} {scope:Scope} {pos p1 p2:Pos} {wi:WI} {g:TG} {gd:WG} {t:WT} {w:WE} (own:List Str) (aK:List Nat)
end
theorem y9{prog:Program}{w:World}{A:Around}{E:aNn}{it l:Addr}{items:Array Value}(d:l≠it):∀(n i:Nat) (s:Shared) (Q:List Value->Shared->Prop),s.heap.IsListIter it l i->s.heap.IsList l items->i+n<=items.size->
  (∀h',h'.IsListIter it l (i+n)->Heap.SameBut it s.heap h' ->Q ((items.toList.drop i).take n) {s with heap:=h'})->wpAny (model prog w) A (draw (.ref it) n) Q E s
 | 0,i,s,Q,a,_,_,q=>aJo (by simpa using q s.heap a (Heap.SameBut.refl ..))
 | n+1,i,s,Q,a,b,c,q=>by
  have e:i<items.size:=by lia
  show wpAny _ _ (pyNext (.ref it) >>=_) Q E s;refine aJn (wpAny_pyNext_list_item a b (x:=items[i]) (by simp[e]) λj f s1=>?_);refine aJn (aKd (y9 d n (i+1) _ _ f (b.extBut s1.extBut d) (by lia) λg h s2=>aJo ?_));have:=q g (by rw[show i+(n+1)=i+1+n by lia];exact h) (s1.trans s2);rw[show items.toList.drop i=items[i]::items.toList.drop (i+1) by simp[List.drop_eq_getElem_cons,e],List.take_succ_cons]at this;exact this
variable {X:Cx}{pos:Pos}
def aJ2(K:aNm)(n:Nat)(t:FA):TG:=λv σ H Q=>∃a xs,v= .ref a/\qU K H a xs/\xs.length=n/\t xs σ H Q
theorem ZD{es:List Expr}{k:Nat}{t:FA}{n:Nat}(p:X.calm=true)(h:WV X es t)
  (q:(assignEach es X.env).length=n:=by rfl) (f:(assignEach es X.env).findIdx? (·.1)=none:=by rfl):PG X (.Tuple es k pos) (aJ2 X.K n t):=by
 intro pins s σ H v u Q I r g;obtain⟨a,xs,w,x,B,g⟩:=g;subst w;cases r;obtain⟨aJ,l,m,hz⟩:=I.list x;have C:=l.length;rw[assign_Tuple];refine aJn (aMc ?_);unfold unpack;rw[q,f];refine aJn (aKd ?_);unfold unpackItems;refine aJn ?_;unfold notIterableAtAll;refine aJn (aLm m.isList.typeIs slot_list_iter.lookup ?_);refine aJo ?_;simp only[Bool.false_eq_true,if_false];refine aJn (aKd (yT m.isList λs2 y st c=>?_));subst y;refine aJn (aKd (y9 c n 0 _ _ st.1 st.2 (by simp;lia) λD i d=>?_));rw[show List.take n (List.drop 0 aJ.toArray.toList)=aJ from List.take_of_length_le (by simp;lia),if_neg (by lia)];refine aJn (aKd (wpAny_pyNext_list_end (I.ok.hd p) i (st.2.extBut d.extBut c) (by simp;lia) λz j=>?_));simp only[Option.isSome_none,Bool.false_eq_true,if_false];refine aJo ?_;have A:Inv X pins σ H {s with heap:=z}:=I.kept (t' :=s.toks) λb o e=>j b o (aK2 (aJy e)) (d.extBut b o (aK2 (aJy e)) (aJp _ e));exact h pins _ σ H xs _ Q A l g
def IB(w:WE)(n:Nat)(u:M8):WS:=λE c mh=>w c mh λd a=>∃ds,mT a d=some ds/\ds.length=n/\u ds c λb =>E.nx b a
theorem aA8{es:List Expr}{k:Nat}{e:Expr}{t:FA}{u:M8}{n:Nat}{w:WE}{tp:Pos}(s:X.calm=true)(he:LE X e w)(h:WV X es t)(x:wX X.K t u)(y:(assignEach es X.env).length=n:=by rfl)(f:(assignEach es X.env).findIdx? (·.1)=none:=by rfl)
  (hs:swapsWithSole [.Tuple es k tp] e pos.line X.env=pure false:=by rfl) (z:swappedStores [.Tuple es k tp] e X.env=pure none:=by rfl)
  (A:(assignEach [.Tuple es k tp] X.env).map (·.2)=[assign (.Tuple es k tp) X.env]:=by rfl):LS X (.Assign [.Tuple es k tp] e pos) (IB w n u):=
 PS.imp (F0 he (ZD s h y f) hs z A) λD σ H h=>by
  obtain⟨μ,o,mh,E,R,En,h,F⟩:=h;refine⟨μ,o,mh,_,R,En,h,λd b q c v p r g B=>?_⟩;obtain⟨ds,C,G,q⟩:=q;obtain⟨a,vs,rfl,sq,l⟩:=rK g B C;exact⟨a,vs,rfl,sq,by rw[aX l];exact G,x vs σ p _ c o b ds _ g (En.mono R r) l q λi q' j m =>F.nx i b q' c j p r g m⟩
@[simp] theorem aI8 {w:WE}{n:Nat}{u:M8}{E:jK}{b:gM}{mh:MH}:IB w n u E b mh=w b mh λd a=>∃ds,mT a d=some ds/\ds.length=n/\u ds b λc =>E.nx c a:=rfl
def tupK(k:List Key):D:= .tup (k.map cO)
def zK(w:World)(p:Addr)(es:Array (Int×Value)):HO:= .ext λ_ h=>ST.sC (ST.eI w) h p es
theorem NU{P:Program}{w:World}{H:Hp}{h:Heap}{p:Addr}{es:Array (Int×Value)}(x:ST.sC (ST.eI w) h p es):cL P w H h p (zK w p es):=
 ⟨x,by obtain⟨o,_,_,ho,_⟩:=x;exact⟨o,ho⟩,λa b q k=>q.keep λo e=>k o e⟩
theorem PF{P:Program}{w:World}(k:Key)(v:Value)(h:(aM P w).is k v=true):v.scannable=true:=by
 rcases bF (k:=k) (v:=v) h with ⟨i,t,_,rfl⟩ | ⟨x,t,_,rfl⟩ <;> rfl
section
variable {X:Cx}
structure aJi(X:Cx)(H:Hp)(ks:List (List Key))(es:Array (Int×Value))(ps:List (List Key×Addr)):Prop where
 es:es.toList=ps.map (ST.MY (aM X.prog X.w))
 pm:(ps.map (·.1)).Perm (ST.dS [] ks)
 nd:(ST.dS [] ks).Nodup
 at' :∀p∈ps,BZ X.K H p.2 (p.1.map kV)
theorem MP(O:X.A.units+64<cLine)(B:X.calm=true):cB X (.type "set") (λxs H Q=>∃(a:Addr) (ks:List (List Key)) (vs:List V),xs=[.ref a]/\(qU X.K H a vs\/tQ X.K H a vs)/\ks.length=vs.length/\(∀(i:Nat) (v:V),vs[i]? =some v->∃k b,ks[i]? =some k/\v= .ref b/\BZ X.K H b (k.map kV))/\ks.length<1000/\
  ∀p es ps,H p=none->aJi X H ks es ps->Q (.ref p) (upd H p (zK X.w p es))):=by
 intro pins s σ H xs us Q I r q;obtain⟨a,ks,vs,rfl,sq,P,hi,hb,q⟩:=q;obtain⟨u,rfl,C⟩:=vals1 r;cases C
 obtain⟨aJ,c,d,hz⟩:∃aJ:List Value,Vals vs aJ/\(s.heap.IsList a aJ.toArray\/s.heap.IsTuple a aJ.toArray)/\aJ.length=vs.length:=by
  rcases sq with sq | sq
  ·obtain⟨aJ,c,d,_⟩:=I.list sq;exact⟨aJ,c,.inl d.isList,c.length.symm⟩
  ·obtain⟨aJ,c,d,_⟩:=I.tuple sq;exact⟨aJ,c,.inr d,c.length.symm⟩
 have f:∀k b,BZ X.K H b (k.map kV)->IsTupleKey (aM X.prog X.w) s.heap k b:=λk b h=>VF I h.sq;refine ST.FU (knd:=aM X.prog X.w) (Ad:=λk b=>BZ X.K H b (k.map kV)) (xs:=ks) (by lia) PF (I.ok.hd B) d (by simp;lia) (λi v h=>?_) (λk b h=>by obtain⟨o,_,_,e,_⟩:=f k b h;exact aJy e) (by simp;lia) λh' D E F=>?_
 ·have l:aJ[i]? =some v:=by simpa using h
  obtain⟨j,G,J⟩:∃j,vs[i]? =some j /\RelV j v:=by
   cases e:vs[i]? with
   | none=>rw[c.none_of e]at l;cases l
   | some x=>obtain⟨u,y,L⟩:=c.get e;rw[l]at y;cases y;exact⟨x,rfl,L⟩
  obtain⟨k,b,M,rfl,z⟩:=hi i j G;cases J;exact⟨k,b,M,rfl,f k b z,z⟩
 ·obtain⟨o,es,ep,t,ps,S,pm,nd,led,FF,m⟩:=E;have sz:=aKo List.length S.he;have ln:=pm.length_eq;have N:=ST.jI ks [];simp at sz ln N;have g :=S.tb.tok;rw[led]at g
  have n:ST.sC (ST.eI X.w) h' s.heap.objs.size es:=⟨o,ep,t,S.ho,S.hx,S.hd,by unfold scanBound;lia,S.tb.fits (by simp;lia),g⟩
  exact⟨.ref s.heap.objs.size,_,I.laid (a:=s.heap.objs.size) (o:=zK X.w s.heap.objs.size es) (t' :=D) (λb o e=>F b o (aJy e) e) (aJq _) (NU n),rfl,q _ es ps (I.b9.fresh (aJq _)) ⟨S.he,pm,nd,m⟩⟩
theorem BN(hu:X.A.units+64<cLine)(T:X.calm=true):cB X (.builtin "sorted") (λxs H Q=>∃p es ps,xs=[.ref p]/\H p=some (zK X.w p es)/\es.toList=ps.map (ST.MY (aM X.prog X.w))/\(∀x∈ps,BZ X.K H x.2 (x.1.map kV))/\ps.length<1000/\E8 (ps.map λx=>tupK x.1)/\
  ∀g :List (List Key×Addr),g.Perm ps->(g.map λx=>tupK x.1).Pairwise (λd e=>lx (enc e) (enc d)=false)->∀q,H q=none->Q (.ref q) (upd H q (.lst (g.map λx=>.ref x.2)))):=by
 intro pins s σ H xs us Q I r q;obtain⟨p,es,ps,rfl,e,he,F,hl,U,q⟩:=q;obtain⟨u,rfl,W⟩:=vals1 r;cases W;have Y:ST.sC (ST.eI X.w) s.heap p es:=(I.b9 p _ e).1;have sz:=aK4;have el:es.size=ps.length:=by have:=aKo List.length he;simpa using this
 have Z:X.A.in1.in1.units+40<cLine:=by show X.A.units+1+1+40<_;lia
 have ev:es.toList.map (·.2)=ps.map λx=>Value.ref x.2:=by rw[he,List.map_map];rfl
 have j:∀l:List (List Key×Addr),(∀x∈l,x∈ps)->IsL X.K [] H (l.map λx=>tupK x.1) (l.map λx=>V.ref x.2):=by
  intro l
  induction l with
  | nil=>intro _;simp[IsL]
  | cons x l ih=>
   intro h;simp only[List.map_cons];unfold IsL;refine⟨_,_,rfl,?_,ih λy hy=>h y (aJt _ hy)⟩;unfold tupK Is;exact⟨_,_,rfl,F x (h x aJs),A2 _⟩
 have i:∀l:List (List Key×Addr),Vals (l.map λx=>V.ref x.2) (l.map λx=>Value.ref x.2):=by
  intro l
  induction l with
  | nil=>exact .nil
  | cons x l ih=>exact .cons rfl ih
 have vl:∀l:List (List Key×Addr),l.Perm ps->cD s.heap (l.map λx=>tupK x.1) (l.map λx=>Value.ref x.2):=λl c=>
  jO I _ (nT (CL U (c.map _))) (j l λx hx=>c.mem_iff.mp hx) (i l)
 refine TS.CP (A:=X.A) (GF s.heap) (Ok:=λvs a =>(∃l:List (List Key×Addr),l.Perm ps/\vs=l.map λx=>Value.ref x.2)/\a.gens=s.gens/\a.os=s.os/\∀b o,s.heap.get? b=some o->a.heap.get? b=some o)
  (λE R hR=>ST.zV (A:=X.A.in1) Y (I.ok.hd T) (by lia) λa vs N hg ho n=>hR vs a ⟨?_,hg,ho,n⟩) ?_ ?_ ?_
 ·rw[ev]at N;obtain⟨l,G,B⟩:=mR (λx:List Key×Addr=>Value.ref x.2) N ps rfl;exact⟨l,G,B.symm⟩
 ·rintro vs a ⟨⟨l,c,rfl⟩,_⟩;have:=c.length_eq;simp;lia
 ·rintro vs a ⟨⟨l,c,rfl⟩,hg,ho,n⟩;by_cases C:2<=(l.map λx=>Value.ref x.2).length
  ·obtain⟨κ,J⟩:=uS (prog:=X.prog) (w:=X.w) (A:=X.A.in1.in1) (s:={a with heap:=s.heap}) Z (CL U (c.map _)) (vl l c) C;exact⟨κ,λ_ h' k=>J h' λb o e=>k b o (n b o e)⟩
  ·exact⟨general',λz=>absurd z C⟩
 ·rintro vs a ⟨⟨l,c,rfl⟩,hg,ho,n⟩ out G B C ep kept L;obtain⟨l',p3,O⟩:=mR (λx:List Key×Addr=>Value.ref x.2) G l rfl;have D:=p3.trans c;have P:Inv X pins σ H a :=Inv.drawn I hg ho n
  have pw:(l'.map λx=>tupK x.1).Pairwise (λd e=>lx (enc e) (enc d)=false):=by
   rw[<-O]at B;rw[List.pairwise_map]at B⊢;refine B.imp_of_mem λ{t t'} m m' M=>?_
   have S:∀t∈l',Vl s.heap (tupK t.1) (.ref t.2):=λt m=>by
    have:=jO I [tupK t.1] (nT (IF U λd hd=>by simp at hd;subst hd;exact aKl (f:=λx:List Key×Addr=>tupK x.1) (D.mem_iff.mp m))) (j [t] λx hx=>by simp at hx;subst hx;exact D.mem_iff.mp m) (i [t]);unfold cD at this;obtain⟨u,r,e,v,_⟩:=this;cases e;exact v
   unfold ltV at M;rw[jG (S t m),jG (S t' m')]at M;exact M
  have ln:(l'.map λx=>V.ref x.2).length<=sizeLine:=by have:=D.length_eq;simp;lia
  have I1:Inv X pins σ (upd H a.heap.objs.size (.lst (l'.map λx=>V.ref x.2))) {a with heap:=C}:=
   P.laid (h' :=C) (t' :=a.toks) kept (aJq _) ⟨ln,out,ep,by rw[<-O];exact i l',L⟩
  exact⟨.ref a.heap.objs.size,_,I1,rfl,q _ D pw _ (P.b9.fresh (aJq _))⟩
end
def jA(w:WE):WE:=λc mh Q=>w c mh λx b=>∃ks:List (List Key),bC b x=some (ks.map tupK)/\ks.length<1000/\E8 (ks.map tupK)/\
 ∀a :List (List Key),(∀k,k∈a ↔k∈ks)->a.Nodup->a.length<=ks.length->(a.map tupK).Pairwise (λd e=>lx (enc e) (enc d)=false)->Q (.ref b.length) (b++[.lst (a.map tupK)])
@[simp] theorem S8 (w:WE)(c:gM)(mh:MH)(Q:DK):jA w c mh Q=(w c mh λx b=>∃ks:List (List Key),bC b x=some (ks.map tupK)/\ks.length<1000/\E8 (ks.map tupK)/\
 ∀a :List (List Key),(∀k,k∈a ↔k∈ks)->a.Nodup->a.length<=ks.length->(a.map tupK).Pairwise (λd e=>lx (enc e) (enc d)=false)->Q (.ref b.length) (b++[.lst (a.map tupK)])):=rfl
theorem D7{K:aNm}{μ:List Addr}{H:Hp}:∀{ks:List (List Key)} {vs:List V},IsL K μ H (ks.map tupK) vs->ks.length=vs.length/\∀(i:Nat) (v:V),vs[i]? =some v->∃k b,ks[i]? =some k/\v= .ref b/\BZ K H b (k.map kV)
 | [],vs,h=>by simp only[List.map_nil]at h;unfold IsL at h;subst h;exact⟨rfl,λi v e=>by simp at e⟩
 | k::ks,vs,h=>by
  simp only[List.map_cons]at h;unfold IsL at h;obtain⟨v,r,rfl,i,l⟩:=h;obtain⟨a,c⟩:=D7 l;refine⟨by simp[a],λj u e=>?_⟩
  cases j with
  | zero=>
   simp at e;subst e;obtain⟨b,f,rfl,sq,d⟩:=AZ i;cases yW d;exact⟨k,b,rfl,rfl,sq⟩
  | succ j=>exact c j u (by simpa using e)
section
variable {X:Cx}{e:Expr}{w:WE}{p1 p2 p3 pos:Pos}
theorem xE(B:X.A.units+64<cLine)(C:X.calm=true)(hm:X.mg "set"=none)(m:X.mg "sorted"=none)(he:LE X e w)(hg:Gl X "set":=by rfl)(n:Gl X "sorted":=by rfl)
  (hs:starEach [e] X.env=(false,eval e X.env)::starEach [] X.env:=by rfl)
  (g:starEach [.Call (.Name "set" p2) [e] [] p3] X.env=(false,eval (.Call (.Name "set" p2) [e] [] p3) X.env)::starEach [] X.env:=by rfl):
  LE X (.Call (.Name "sorted" p1) [.Call (.Name "set" p2) [e] [] p3] [] pos) (jA w):=
 PE.imp (DA (BN B C) n m nS (tY (rG (MP B C) hg hm aC8 (tY he AD hs) (by decide) (by decide) hs rfl) AD g) (by decide) (by decide) g rfl) λσ H Q h=>by
  obtain⟨μ,G,mh,R,I,E,h,F⟩:=h;refine⟨μ,G,mh,_,I,E,h,λdx J L o Y r M s N=>?_⟩;obtain⟨ks,O,t,U,q⟩:=L;obtain⟨a,vs,rfl,sq,l⟩:=zW s N O;obtain⟨k1,k2⟩:=D7 l;have c:∀k,k∈ST.dS [] ks↔k∈ks:=λk=>by rw[ST.sS];simp
  have i:=ST.jI ks ([]:List (List Key));simp at i;refine⟨a,ks,vs,rfl,sq,k1,k2,t,λp es ps u P=>?_⟩;have S:=P.pm.length_eq;simp at S
  have ne:∀b v,BZ X.K r b v->BZ X.K (upd r p (zK X.w p es)) b v:=λb v h=>by
   rcases h with h | h
   ·exact .inl (by rw[aV (bK h u)];exact h)
   ·exact .inr h
  refine⟨p,es,ps,rfl,bV,P.es,λx hx=>ne _ _ (P.at' x hx),by lia,IF U λd hd=>?_,λj D pw=>?_⟩
  ·obtain⟨x,hx,rfl⟩:=aK0.mp hd;exact aKl ((c x.1).mp (P.pm.mem_iff.mp (aKl hx)))
  ·have f :=(D.map (·.1)).trans P.pm
   have z:∀l:List (List Key×Addr),(∀x∈l,x∈ps)->IsL X.K o (upd r p (zK X.w p es)) ((l.map (·.1)).map tupK) (l.map λx=>V.ref x.2):=by
    intro l
    induction l with
    | nil=>intro _;simp[IsL]
    | cons x l ih=>
     intro h;simp only[List.map_cons];unfold IsL;refine⟨_,_,rfl,?_,ih λy T=>h y (aJt _ T)⟩;unfold tupK Is;exact⟨_,_,rfl,ne _ _ (P.at' x (h x aJs)),A2 _⟩
   have W :=f.length_eq;exact jF (s.new u) (F.at (M.trans (aP.new s u))) (z j λx hx=>D.mem_iff.mp hx) (q (j.map (·.1)) (λk=>by rw[f.mem_iff,c]) (f.symm.nodup P.nd) (by lia) (by rw[List.map_map];exact pw))
end
def B5(le:Bool)(x y:List Int):Bool:=match le with | true=>!lx y x | false=>lx x y
def aEw(le:Bool):CmpOp:=match le with | true=>.LtE | false=>.Lt
theorem PN(le:Bool)(p x y:List Int):B5 le (p++x) (p++y)=B5 le x y:=by cases le <;> simp[B5,qC]
theorem UR(le:Bool){i j:Int}(h:i≠j):B5 le (bR (.int i)) (bR (.int j))=match le with | true=>decide (i<=j) | false=>decide (i<j):=by
 cases le with
 | false=>simp only[B5,bR,lx];by_cases a:i<j <;> simp[a]
 | true=>
  simp only[B5,bR,lx];by_cases a:j<i
  ·simp[a]
  ·have:i<=j:=by lia
   simp[a,this]
section
variable {prog:Program}{w:World}{A:Around}{E:aNn}{s:Shared}
theorem J7(le:Bool){c:Sc}{k1 k2:Key}{u v:Value}{Q:aNn}(f:(aM prog w).is k1 u=true)(b:(aM prog w).is k2 v=true)(d:bW c (cO k1)=true)(e:bW c (cO k2)=true)(a:k1≠k2)
  (h:Q (.bool (B5 le (bR (cO k1)) (bR (cO k2)))) s):wpAny (model prog w) A (richCompare (aEw le) u v) Q E s:=by
 rcases bF (k:=k1) (v:=u) f with ⟨i,t,rfl,rfl⟩ | ⟨x,t,rfl,rfl⟩
 ·rcases bF (k:=k2) (v:=v) b with ⟨j,t',rfl,rfl⟩ | ⟨y,t',rfl,rfl⟩
  ·simp only[cO]at h;rw[UR le (λz=>a (by rw[z]))]at h
   cases le with
   | true=>exact PyProof.Rows.le_int h
   | false=>exact PyProof.Rows.lt_int h
  ·cases c <;> simp[cO,bW]at d e
 ·rcases bF (k:=k2) (v:=v) b with ⟨j,t',rfl,rfl⟩ | ⟨y,t',rfl,rfl⟩
  ·cases c <;> simp[cO,bW]at d e
  ·simp only[cO]at h;have g:lx (bR (.str x)) (bR (.str y))=decide (x.cps.toList<y.cps.toList):=rJ _ _;have l:lx (bR (.str y)) (bR (.str x))=decide (y.cps.toList<x.cps.toList):=rJ _ _
   cases le with
   | true=>simp only[B5,l]at h;exact PySem.P.le_str (by first | exact h | simpa using h)
   | false=>simp only[B5,g]at h;exact PyProof.Rows.lt_str h
theorem RD(le:Bool){B:Builtin}{x y:List Key}{a b:Addr}{P:PySem.Fin->Shared->Prop}{cs:List Sc}(R:B=match le with | true=>Builtin.«tuple.__le__» | false=>Builtin.«tuple.__lt__»)(hx:IsTupleKey (aM prog w) s.heap x a)(S:IsTupleKey (aM prog w) s.heap y b)(T:aQ cs (x.map cO)=true)(U:aQ cs (y.map cO)=true)
  (h:P (.done (.ret (.bool (B5 le (enc (tupK x)) (enc (tupK y)))))) s):wpAny (model prog w) A (B ⟨[.ref a,.ref b],[]⟩) P E s:=by
 have K:=S.typeIs;obtain⟨oa,xs,na,L,_,M,F⟩:=hx;obtain⟨ob,p,nb,N,_,O,G⟩:=S
 have i:∀{cs:List Sc} {ds:List D},aQ cs ds=true->ds.length=cs.length:=by
  intro cs
  induction cs with
  | nil=>intro ds h;cases ds <;> simp[aQ]at h⊢
  | cons c cs ih=>intro ds h;cases ds with
   | nil=>simp[aQ]at h
   | cons d ds=>simp only[aQ,Bool.and_eq_true]at h;simp[ih h.2]
 have sz:xs.size=p.size:=by
  have Y:=F.length;have Z:=G.length;have a3:=i T;have a4:=i U;simp at Y Z a3 a4
  lia
 have go:∀(op:CmpOp),op=aEw le->wpAny (model prog w) A (do
   if !(<-isInstance (.ref b) (.type "tuple")) then return<-ret .notImplemented
   let xs<-Builtin.Tuple.tupleItemsOf (.ref a)
   let p<-Builtin.Tuple.tupleItemsOf (.ref b)
   for (x,y) in xs.toList.zip p.toList do
    if !(<-eqBool x y) then
     match op with
     | .Eq=>return<-ret (.bool false)
     | .NotEq=>return<-ret (.bool true)
     | _=>rule "tuple.compare.by-the-first-pair-that-differs";return<-ret (<-richCompare op x y)
   ret (Builtin.Tuple.tupleCompareSizes op xs.size p.size)) P E s:=λop H=>by
  refine aJn (aLp K isSubtype_tuple_tuple ?_);simp only[Bool.not_true,Bool.false_eq_true,if_false];refine aJn (aN9 L M ?_);refine aJn (aN9 N O ?_);refine aJn ?_
  refine aL6 _
   (λn r I =>r.1=none/\I =s/\∃f t C j k,n=List.zip j k /\ItemsAre (aM prog w) t j /\ItemsAre (aM prog w) C k /\aQ f (t.map cO)=true/\aQ f (C.map cO)=true/\B5 le (enc (tupK t)) (enc (tupK C))=B5 le (enc (tupK x)) (enc (tupK y)))
   _ ?_ ?_ _ _ ⟨rfl,rfl,cs,x,y,xs.toList,p.toList,rfl,F,G,T,U,rfl⟩
  ·rintro⟨u,v⟩ n r I ⟨Q,rfl,f,t,C,j,k,hz,q,l,m,o,g⟩
   cases q with
   | nil=>simp at hz
   | @cons k1 u' x'' xs'' h1 hx'' =>
    cases l with
    | nil=>simp at hz
    | @cons k2 v' y'' ys'' h2 hy'' =>
     simp only[List.zip_cons_cons,List.cons.injEq,Prod.mk.injEq]at hz;obtain⟨⟨rfl,rfl⟩,rfl⟩:=hz
     cases f with
     | nil=>simp[aQ]at m
     | cons c f =>
      simp only[List.map_cons,aQ,Bool.and_eq_true]at m o;refine aJn ((aM prog w).eqBool (a:=k1) (b:=k2) h1 h2 ?_);by_cases J:k1=k2
      ·subst J;rw[decide_eq_true rfl];simp only[Bool.not_true,Bool.false_eq_true,if_false];refine aJo ⟨rfl,rfl,f,x'',y'',xs'',ys'',rfl,hx'',hy'',m.2,o.2,?_⟩;rw[<-g];simp only[tupK,enc,List.map_cons,List.flatMap_cons,PN]
      ·rw[decide_eq_false J];simp only[Bool.not_false,if_true];have V:cO k1≠cO k2:=λz=>J (vO z)
       have e:B5 le (enc (tupK (k1::x''))) (enc (tupK (k2::y'')))=B5 le (bR (cO k1)) (bR (cO k2)):=by
        simp only[tupK,enc,List.map_cons,List.flatMap_cons]
        cases le with
        | true=>simp only[B5,hG o.1 m.1 (Ne.symm V)]
        | false=>simp only[B5,hG m.1 o.1 V]
       rw[<-g,e]at h;subst H
       cases le with
       | true=>exact aJn (aKq (aJn (J7 true h1 h2 m.1 o.1 J (aJn (aJo (aJo (aJo h)))))))
       | false=>exact aJn (aKq (aJn (J7 false h1 h2 m.1 o.1 J (aJn (aJo (aJo (aJo h)))))))
  ·rintro⟨r1,r2⟩ I ⟨Q,rfl,f,t,C,j,k,hz,q,l,m,o,g⟩;simp only at Q;subst Q
   have e0:t =[]/\C =[]:=by
    have W:=i m;have X:=i o
    cases q with
    | nil=>simp at W;cases l with
     | nil=>exact⟨rfl,rfl⟩
     | cons _ _=>simp at X;lia
    | cons _ _=>cases l with
     | nil=>simp at W X;lia
     | cons _ _=>simp at hz
   obtain⟨rfl,rfl⟩:=e0;rw[<-g]at h;subst H;refine aJo ?_
   cases le with
   | true=>show P (.done (.ret (.bool (decide (xs.size<=p.size))))) I;rw[sz];simpa[B5,tupK,enc,lx] using h
   | false=>show P (.done (.ret (.bool (decide (xs.size<p.size))))) I;rw[sz];simpa[B5,tupK,enc,lx] using h
 cases le with
 | true=>subst R;exact go .LtE rfl
 | false=>subst R;exact go .Lt rfl
end
def nB:OA:=λxs mh Q=>∃ds,xs=[.tup ds]/\ds.length<4000/\E8 ds/\
 ∀a,a.Perm ds->a.Pairwise (λd e=>lx (enc e) (enc d)=false)->Q (.ref mh.length) (mh++[.lst a])
section
variable {X:Cx}
theorem HB(hu:X.A.units+64<cLine):cB X (.builtin "sorted") (eG X.K nB):=by
 intro pins s σ H xs us Q I r q;obtain⟨μ,mh,ds,R,O,P,⟨es,rfl,S,U,q⟩,F⟩:=q;obtain⟨v,rfl,T⟩:=gB P;obtain⟨a,vs,rfl,sq,l⟩:=dY T;obtain⟨u,rfl,V⟩:=vals1 r;cases V;obtain⟨aJ,i,W,hz⟩:=I.tuple sq;have sz:=aK4;have j:=jO I es (nT U) l i;have J:aJ.length=es.length:=bB j;have Y:X.A.in1.in1.units+40<cLine:=by show X.A.units+1+1+40<_;lia
 obtain⟨o,ho,Z,n,hd⟩:=W
 refine TS.CP (A:=X.A) (GF s.heap) (Ok:=λvs s' =>vs=aJ/\∃c,s' ={s with heap:=c}/\∀b o,s.heap.get? b=some o->c.get? b=some o)
  (λE R hR=>wpAny_collect_seq a (.inr rfl) ho Z hd (λh' k=>hR _ _ ⟨by simp,h',rfl,k⟩) (by simp;lia)) ?_ ?_ ?_
 ·rintro L _ ⟨e,_⟩;rw[e];lia
 ·rintro L _ ⟨e,c,rfl,p⟩;rw[e];by_cases g:2<=aJ.length
  ·obtain⟨κ,x⟩:=uS (prog:=X.prog) (w:=X.w) (A:=X.A.in1.in1) Y U j g;exact⟨κ,λ_ h' k=>x h' λb o e=>k b o (p b o e)⟩
  ·exact⟨general',λz=>absurd z g⟩
 ·rintro L _ ⟨e,c,rfl,p⟩ out y B g ep kept C;rw[e]at y;obtain⟨ts,t1,t2,t3,t4⟩:=SU l i j;rw[<-t3]at y;obtain⟨f,D,M⟩:=mR (·.u) y ts rfl;have h:∀t∈f,Is X.K μ H t.d t.v/\RelV t.v t.u/\Vl s.heap t.d t.u:=λt ht=>t4 t (D.mem_iff.mp ht);have pd:(f.map (·.d)).Perm es:=by rw[<-t1];exact D.map _
  have pw:(f.map (·.d)).Pairwise (λd e=>lx (enc e) (enc d)=false):=by
   rw[<-M]at B;rw[List.pairwise_map]at B⊢;refine B.imp_of_mem λ{t t'} m m' c=>?_;have e1:dv s.heap t.u=t.d:=jG (h t m).2.2;have e2:dv s.heap t'.u=t'.d:=jG (h t' m').2.2;unfold ltV at c;rw[e1,e2]at c;exact c
  have ln:(f.map (·.v)).length<=sizeLine:=by
   have:=D.length_eq;have G :=aKo List.length t2;have:=i.length;simp at G ⊢
   lia
  have N:Inv X pins σ H {s with heap:=c}:=Inv.drawn I rfl rfl p
  have I1:Inv X pins σ (upd H c.objs.size (.lst (f.map (·.v)))) {s with heap:=g}:=
   N.laid (h' :=g) (t' :=s.toks) kept (aJq _) ⟨ln,out,ep,by rw[<-M];exact pO λt ht=>(h t ht).2.1,C⟩
  exact⟨.ref c.objs.size,_,I1,rfl,jF O F (uA λt ht=>(h t ht).1) (q _ pd pw) _ (N.b9.fresh (aJq _))⟩
end
end D3
namespace HT
open PySem PyProof.Rows
open PySem.SeqAt
end HT
namespace D3
open PySem PySem.Spec PyProof.Rows L2
section
variable {P:Program}{W:World}{K:aNm}{mg:aNp}{base:Heap}{N:List Str}{q:Str}{S:Stmt}{f:Addr}{cd:Value}{A:Around}{o:List Env}{s:Shared}{H:Hp}{E:XK}
 {tg iter elt:Expr} {ifs:List Expr} {scope scope0:Scope} {pos:Pos} {wi:WI} {g:TG} {gd:WG} {t:WT} {w:WE} {own0:List Str} {caps0:List Nat} {cl0:List (Str×Addr)} {C0:Addr} {fp0:List Addr} {s0:Shared} {H0:Hp} (own:List Str) (aK:List Nat)
abbrev cC(P:Program)(W:World)(K:aNm)(mg:aNp)(base:Heap)(N:List Str)(q:Str)(S:Stmt)(f:Addr)(cd:Value)(A:Around)(o:List Env)(s:Shared)(H:Hp)(E:XK)(own0:List Str)(caps0:List Nat)(scope0:Scope)(cl0:List (Str×Addr))(C0:Addr)(fp0:List Addr)(s0:Shared)(H0:Hp):Cx:=
 aW (cF P W K mg base N q S f cd A o s H E) own0 caps0 scope0 cl0 C0 fp0 s0 H0
def reS(sc scope:Scope):Scope:={scope with names:=scope.names.map λy=>if (y.2==NameKind.free && sc.kind== .function && sc.names.lookup y.1==some .cell) then (y.1,NameKind.cell) else y}
theorem aAo(chk:fW (cN N own0 caps0) (reS (aE S) scope0) scope aK=true)(nd:(cN (cN N own0 caps0) own aK).Nodup)(a:qY K g gd)(ho:wY own.length g)
  (hi:LI (cC P W K mg base N q S f cd A o s H E own0 caps0 scope0 cl0 C0 fp0 s0 H0) tg iter wi)
  (hg:(cN (cN N own0 caps0) own aK).Nodup->∀cl C fp s₀ H₀,PG (aW (cC P W K mg base N q S f cd A o s H E own0 caps0 scope0 cl0 C0 fp0 s0 H0) own aK scope cl C fp s₀ H₀) tg g)
  (ht:∀cl C fp s₀ H₀,SA (aW (cC P W K mg base N q S f cd A o s H E own0 caps0 scope0 cl0 C0 fp0 s0 H0) own aK scope cl C fp s₀ H₀) ifs t)
  (he:∀cl C fp s₀ H₀,LE (aW (cC P W K mg base N q S f cd A o s H E own0 caps0 scope0 cl0 C0 fp0 s0 H0) own aK scope cl C fp s₀ H₀) elt w)
  (hs:∀x,foldedSetIterable iter (cC P W K mg base N q S f cd A o s H E own0 caps0 scope0 cl0 C0 fp0 s0 H0).env x=pure x:=by intro _;rfl):
  LE (cC P W K mg base N q S f cd A o s H E own0 caps0 scope0 cl0 C0 fp0 s0 H0) (.ListComp elt [⟨tg,iter,ifs,0⟩] scope pos) (uI own aK wi gd t w):=
 XR (N:=cN N own0 caps0) (sc:=reS (aE S) scope0) own aK rfl rfl chk rfl hi ho a (hg nd) ht he hs
end
section
variable {X:Cx}{K:aNm}{μ:List Addr}{H:Hp}
theorem yX:∀{ds:List D} {vs:List V} (i:Nat),IsL K μ H ds vs->IsL K μ H (ds.eraseIdx i) (vs.eraseIdx i)
 | [],vs,i,h=>by unfold IsL at h;subst h;simp;unfold IsL;rfl
 | d::ds,vs,i,h=>by
  unfold IsL at h;obtain⟨v,r,rfl,a,l⟩:=h
  cases i with
  | zero=>exact l
  | succ i=>
   simp only[List.eraseIdx_cons_succ];unfold IsL;exact⟨v,_,rfl,a,yX i l⟩
def AM:OM:=λx ds mh Q=>∃n es i d,x= .ref n/\ds=[.int (i:Nat)]/\mh[n]? =some (.lst es)/\i<2^62/\es[i]? =some d/\Q d (mh.set n (.lst (es.eraseIdx i)))
theorem O8:MtR X "list.pop" (liftM X.K AM):=by
 intro pins s σ H x xs v us Q I f rs q;obtain⟨μ,mh,dx,ds,R,b,ix,g,⟨n,es,i,d,rfl,rfl,e,hi,hd,q⟩,F⟩:=q;obtain⟨a,vs,rfl,h,j,l⟩:=jQ b ix e;obtain⟨u,rfl,k⟩:=gB g;cases bU k;have c:=aX l;obtain⟨z,hz,m⟩:=eL l hd;have o:i<vs.length:=(aJr.mp hz).1;refine O7 pins s σ H _ _ v us Q I f rs ⟨a,vs,i,i,z,rfl,rfl,j,by lia,by lia,?_,hz,F.put b h (yX i l) q m⟩;unfold seqIndex?;simp
 lia
end
section
variable {mh:MH}{Q:DK}
theorem NX{n i:Nat}{es:List D}{d:D}(h:mh[n]? =some (.lst es))(hi:i<2^62)(hd:es[i]? =some d)(q:Q d (mh.set n (.lst (es.eraseIdx i)))):AM (.ref n) [.int (i:Nat)] mh Q:=⟨n,es,i,d,rfl,rfl,h,hi,hd,q⟩
end
def m7:Nat->List D->List D
 | _,[]=>[]
 | k,d::ds=>.tup [.int (k:Nat),d]::m7 (k+1) ds
theorem rT:∀(k:Nat) (ds:List D),(m7 k ds).length=ds.length
 | _,[]=>rfl
 | k,d::ds=>by simp[m7,rT (k+1) ds]
theorem rV:∀{k:Nat} {ds:List D} {i:Nat} {x:D},(m7 k ds)[i]? =some x->∃d,ds[i]? =some d/\x= .tup [.int ((k+i:Nat):Int),d]
 | k,[],i,x,h=>by simp[m7]at h
 | k,d::ds,0,x,h=>by simp[m7]at h;exact⟨d,rfl,by rw[<-h];rfl⟩
 | k,d::ds,i+1,x,h=>by
  obtain⟨e,he,rfl⟩:=rV (k:=k+1) (ds:=ds) (i:=i) (by simpa[m7] using h);exact⟨e,by simpa using he,by rw[show k+1+i=k+(i+1) by lia]⟩
def X5(b:WA):WI:=λc mh Q=>b c mh λxs a=>∃x ds,xs=[x]/\bC a x=some ds/\ds.length<=sizeLine/\Q (m7 0 ds) (λmh' =>bC mh' x=some ds) a
@[simp] theorem s_en (a:WE)(g:gM)(mh:MH)(P:List D->(MH->Prop)->MH->Prop):X5 (aA a aC) g mh P=(a g mh λx b=>got (bC b x) λds=>ds.length<=sizeLine/\P (m7 0 ds) (λmh' =>bC mh' x=some ds) b):=by
 unfold X5;simp only[YR,aDq];congr 1;funext x b;apply propext;rw[<-fE];constructor
 ·rintro⟨y,ds,e,c,d,f⟩;cases e;exact⟨ds,c,d,f⟩
 ·rintro⟨ds,c,d,f⟩;exact⟨x,ds,rfl,c,d,f⟩
section
variable {X:Cx}{e:Expr}{elts:List Expr}{wa:WA}{p pos tpos:Pos}
theorem aF2{x1}(hg:Gl X "enumerate")(hm:X.mg "enumerate"=none)(ha:LA X [e] wa)
  (hs:starEach [e] X.env=(false,eval e X.env)::starEach [] X.env:=by rfl):
  LI X (.Tuple elts x1 tpos) (.Call (.Name "enumerate" p) [e] [] pos) (X5 wa):=
 PI.imp (aE7 hg hm ha (by decide+kernel) hs) λσ H R h=>by
  obtain⟨μ,y,mh,f,A,En,h,F⟩:=h;refine⟨μ,y,mh,_,A,En,h,λxs m q g vs o B r C=>?_⟩;obtain⟨x,ds,rfl,D,hz,q⟩:=q;obtain⟨v,rfl,s⟩:=gB C;obtain⟨a,xs,rfl,sa,la⟩:=rD r s D;refine⟨a,QK x,rfl,⟨xs,sa⟩,F _ _ m q g _ o B r ?_⟩
  have c:∀μ' mh' H',kN g o μ' H' ->Rep X.K μ' mh' H' ->bC mh' x=some ds->∃xs,FG X.K H' (QK x) a xs/\IsL X.K μ' H' ds xs:=λμ' mh' H' j f st=>by
   obtain⟨M,b,E,s1,k⟩:=rD f (Is.oP j _ _ s) st;cases E;exact⟨b,s1,k⟩
  refine⟨by rw[rT];exact hz,λμ' mh' H' j f st i d G=>?_,λμ' mh' H' j f st=>?_⟩
  ·obtain⟨b,s1,k⟩:=c μ' mh' H' j f st;obtain⟨d',I,rfl⟩:=rV G;obtain⟨l,k1,J⟩:=eL k I;refine⟨⟨b,l,s1,k1⟩,λz H'' L=>?_⟩;obtain⟨t,N,u,rfl,rfl,n⟩:=L;have:=n b s1;rw[k1]at this;cases this;have w:aP μ' H' μ' (upd H' t (.tup [.int i,l])):=aP.new f u;refine⟨w,f.new u,?_⟩;unfold Is;refine⟨t,[.int i,l],rfl,.of bV,?_⟩;unfold IsL;exact⟨.int i,[l],rfl,by rw[Nat.zero_add];unfold Is;rfl,jD (Is.mono f w _ _ J)⟩
  ·obtain⟨b,s1,k⟩:=c μ' mh' H' j f st;rw[rT];exact⟨b,s1,by rw[aX k];exact aJq _⟩
end
mutual
def OQ:D->Bool
 | .int _=>true
 | .str _=>true
 | .bl _=>true
 | .tup ds=>xB ds
 | _=>false
def xB:List D->Bool
 | []=>true
 | d::ds=>OQ d && xB ds
end
def aBa:List D->Bool
 | [.int _,.bl _]=>true
 | _=>false
def D8:List D->Bool
 | [.int _,.int _]=>true
 | _=>false
mutual
def good:D->Bool
 | .int _=>true
 | .str _=>true
 | .tup ds=>dG ds
 | _=>false
def dG:List D->Bool
 | []=>true
 | d::ds=>good d && dG ds
end
theorem nL:∀{ds:List D},aBa ds=true->∃i b,ds=[.int i,.bl b]
 | [.int i,.bl b],_=>⟨i,b,rfl⟩
mutual
theorem Z0:∀{d:D},good d=true->OQ d=true
 | .int _,_=>rfl
 | .str _,_=>rfl
 | .tup ds,h=>AE (by simpa only[good] using h)
 | .bY,h=>by simp[good]at h
 | .bl _,h=>by simp[good]at h
 | .ty _,h=>by simp[good]at h
 | .fl _,h=>by simp[good]at h
 | .ref _,h=>by simp[good]at h
theorem AE:∀{ds:List D},dG ds=true->xB ds=true
 | [],_=>rfl
 | d::ds,h=>by
  simp only[dG,Bool.and_eq_true]at h;simp only[xB,Z0 h.1,AE h.2,Bool.and_self]
end
def gd:D->Bool
 | .tup ds=>aBa ds || (dG ds && !D8 ds)
 | _=>false
variable{ds:List D}
theorem QW(h:dG ds=true)(a:D8 ds=false):gd (.tup ds)=true:=by simp[gd,h,a]
variable{d:D}
theorem JY(h:gd d=true):∃ds,d= .tup ds/\(aBa ds=true\/dG ds=true/\D8 ds=false):=by
 cases d <;> simp[gd]at h;exact⟨_,rfl,h⟩
theorem OP(h:gd d=true):OQ d=true:=by
 obtain⟨ds,rfl,h | h⟩:=JY h
 ·obtain⟨i,b,rfl⟩:=nL h;rfl
 ·exact AE h.1
section
variable (w:World)
mutual
def vX:D->Int
 | .int i=>hashInt i
 | .str x=>hashStr w x
 | .bl b=>reduceHash (if b=true then 1 else 0)
 | .tup ds=>reduceHash (Builtin.Tuple.tupleHashOf (m3 ds))
 | _=>0
def m3:List D->List Int
 | []=>[]
 | d::ds=>vX d::m3 ds
end
end
mutual
def v9:D->Nat
 | .tup ds=>rX ds+1
 | _=>1
def rX:List D->Nat
 | []=>0
 | d::ds=>v9 d+rX ds
end
section
variable {prog:Program}{w:World}
theorem JX{A:Around}{E:aNn}{s:Shared}{Q:Int->Shared->Prop}(b:Bool)(q:Q (reduceHash (if b=true then 1 else 0)) {s with toks:=s.toks+1}):wpAny (model prog w) A (pyHash (.bool b)) Q E s:=by
 refine PySem.W.pyHash_slot (T:= "bool") rfl F.slot_bool_hash entry_int_hash (args_int_hash _) (beq_builtin_none _) (.inl rfl) ?_
 cases b with
 | false=>exact(show wpAny _ _ (do ret (<-mkInt 0)) _ _ s from aJn (aNe (aJo ⟨_,_,rfl,q⟩)))
 | true=>exact(show wpAny _ _ (do ret (<-mkInt 1)) _ _ s from aJn (aNe (aJo ⟨_,_,rfl,q⟩)))
theorem aBg:∀(n:Nat) {d:D} {A:Around} {E:aNn} {s:Shared} {u:Value} {Q:Int->Shared->Prop},deep d<=n->OQ d=true->A.units+n<cLine->Vl s.heap d u->Q (vX w d) {s with toks:=s.toks+v9 d}->
  wpAny (model prog w) A (pyHash u) Q E s:=by
 intro n
 induction n with
 | zero=>
  intro d A E s u Q hd hg J c q
  cases d with
  | int i=>unfold Vl at c;obtain⟨t,rfl⟩:=c;exact(aM prog w).pyHash (k:= .inl i) (oQ (k:= .inl i) ⟨t,rfl⟩) q
  | str x=>unfold Vl at c;obtain⟨t,rfl⟩:=c;exact(aM prog w).pyHash (k:= .inr x) (oQ (k:= .inr x) ⟨t,rfl⟩) q
  | bl b=>
   unfold Vl at c;subst c;exact JX b q
  | tup ds=>simp[deep]at hd
  | _=>simp[OQ]at hg
 | succ n ih=>
  intro d A E s u Q hd hg J c q
  cases d with
  | int i=>unfold Vl at c;obtain⟨t,rfl⟩:=c;exact(aM prog w).pyHash (k:= .inl i) (oQ (k:= .inl i) ⟨t,rfl⟩) q
  | str x=>unfold Vl at c;obtain⟨t,rfl⟩:=c;exact(aM prog w).pyHash (k:= .inr x) (oQ (k:= .inr x) ⟨t,rfl⟩) q
  | bl b=>
   unfold Vl at c;subst c;exact JX b q
  | tup ds=>
   unfold Vl at c;obtain⟨a,us,rfl,⟨o,ho,K,m,h⟩,l⟩:=c
   have v:s.TypeIs (.ref a) "tuple":=⟨o,ho,K⟩
   have C:bX ds<=n:=by simp only[deep]at hd;lia
   have G:xB ds=true:=by simpa only[OQ] using hg
   unfold pyHash
   first | unfold pyHashByItsType | skip
   first | refine aJn (wpAny_cRoomFor_or (.inr (by lia)) ?_) | skip
   refine aJn (aLm v aLz.lookup ?_);show wpAny _ _ (if (some (Value.builtin "tuple.__hash__")==some Value.none)=true then _ else _) Q E s;rw[if_neg (by rw[beq_builtin_none];exact Bool.false_ne_true)];refine aJn (aLm v aLz.lookup ?_);show wpAny _ _ (callSpecialIfBoundUnlessNone? (.ref a) "__hash__" _ >>=_) Q E s;refine aJn (wpAny_callSpecialIfBoundUnlessNone?_slot v aLz (aK8 aLz v F.entry_tuple_hash ?_ (F.args_tuple_hash_1 _)));show wpAny _ _ (Builtin.Tuple.tupleItemsOf (.ref a) >>=_) _ _ s;refine aJn (aN9 ho h ?_);refine aJn ?_;rw[<-Array.forIn_toList]
   refine aL6 _
    (λg (b:Array Int) H =>∃done left k,m3 w ds=done++m3 w left/\cD s.heap left g/\bX left<=n/\xB left=true/\b.toList=done/\k+rX left=rX ds/\H ={s with toks:=s.toks+k})
    _ ?_ ?_ _ _ ⟨[],ds,0,rfl,by simpa using l,C,G,rfl,by lia,rfl⟩
   ·rintro x g b H ⟨done,left,k,e,f,I,j,hb,y,rfl⟩
    cases left with
    | nil=>unfold cD at f;cases f
    | cons p left=>
     unfold cD at f;obtain⟨N,r,L,M,f⟩:=f;cases L;simp only[bX]at I;simp only[xB,Bool.and_eq_true]at j;simp only[rX]at y;refine aJn (ih (by lia) j.1 (by show A.units+1+n<_;lia) M ?_)
     first
      | exact aJo ⟨done++[vX w p],left,k+v9 p,by simp[e,m3],f,by lia,j.2,by simp[hb],by lia,by simp[Nat.add_assoc]⟩
      | exact aJn (aJo (aJo ⟨done++[vX w p],left,k+v9 p,by simp[e,m3],f,by lia,j.2,by simp[hb],by lia,by simp[Nat.add_assoc]⟩))
   ·rintro b H ⟨done,left,k,e,f,I,j,hb,y,rfl⟩
    cases left with
    | cons p left=>unfold cD at f;obtain⟨_,_,z,_⟩:=f;cases z
    | nil=>
     simp only[m3,List.append_nil]at e;simp only[rX,Nat.add_zero]at y;subst y;show wpAny _ _ (retInt (Builtin.Tuple.tupleHashOf b.toList)) _ _ _;rw[hb,<-e];refine wpAny_ret_mkInt ?_;simp only[vX,v9]at q;generalize Builtin.Tuple.tupleHashOf (m3 w ds)=z at q⊢;show wpAny _ _ (if (decide (-(2:Int)^63<=z) && decide (z<2^63))=true then _ else _) Q E _;unfold reduceHash at q;by_cases B:(decide (-(2:Int)^63<=z) && decide (z<2^63))=true
     ·rw[if_pos B];rw[if_pos B]at q;exact aJo (by simpa[Nat.add_assoc] using q)
     ·rw[if_neg B];rw[if_neg B]at q;exact aJn (aKq (aJo (by simpa[Nat.add_assoc] using q)))
  | _=>simp[OQ]at hg
end
section
variable {prog:Program}{w:World}
theorem TJ:∀(n:Nat) {fuel:Nat} {d:D} {A:Around} {E:aNn} {s:Shared} {u:Value} {Q:Bool->Shared->Prop},deep d<=n->n<=fuel->OQ d=true->Vl s.heap d u->Q true s->wpAny (model prog w) A (eqIsQuiet fuel u) Q E s:=by
 intro n
 induction n with
 | zero=>
  intro fuel d A E s u Q hd C hg c q
  cases d with
  | int i=>unfold Vl at c;obtain⟨t,rfl⟩:=c;rw[eqIsQuiet_byValue _ rfl];exact aJo q
  | str x=>unfold Vl at c;obtain⟨t,rfl⟩:=c;rw[eqIsQuiet_byValue _ rfl];exact aJo q
  | bl b=>unfold Vl at c;subst c;rw[eqIsQuiet_byValue _ rfl];exact aJo q
  | tup ds=>simp[deep]at hd
  | _=>simp[OQ]at hg
 | succ n ih=>
  intro fuel d A E s u Q hd C hg c q
  cases d with
  | int i=>unfold Vl at c;obtain⟨t,rfl⟩:=c;rw[eqIsQuiet_byValue _ rfl];exact aJo q
  | str x=>unfold Vl at c;obtain⟨t,rfl⟩:=c;rw[eqIsQuiet_byValue _ rfl];exact aJo q
  | bl b=>unfold Vl at c;subst c;rw[eqIsQuiet_byValue _ rfl];exact aJo q
  | tup ds=>
   unfold Vl at c;obtain⟨a,us,rfl,⟨o,ho,G,m,h⟩,l⟩:=c
   have B:s.TypeIs (.ref a) "tuple":=⟨o,ho,G⟩
   have j:bX ds<=n:=by simp only[deep]at hd;lia
   have k:xB ds=true:=by simpa only[OQ] using hg
   obtain⟨f,rfl⟩:∃f,fuel=f+1:=⟨fuel-1,by lia⟩
   unfold eqIsQuiet;refine aJn (aLm B F.slot_tuple_eq.lookup ?_);show wpAny _ _ (isInstance (.ref a) (.type "tuple") >>=_) _ _ s;refine aJn (aLp B isSubtype_tuple_tuple ?_);simp only[Bool.not_true,Bool.false_eq_true,if_false];refine aJn (aKs ho h (aJn ?_));show wpAny _ _ (forIn us.toArray _ _) _ _ s;rw[<-Array.forIn_toList];refine aL6 _ (λe r p =>r.1=none/\p =s/\∃left,cD s.heap left e/\bX left<=n/\xB left=true) _ ?_ ?_ _ _ ⟨rfl,rfl,ds,by simpa using l,j,k⟩
   ·rintro v e r p ⟨y,rfl,left,g,H,z⟩
    cases left with
    | nil=>unfold cD at g;cases g
    | cons d0 left=>
     unfold cD at g;obtain⟨K,L,I,J,g⟩:=g;cases I;simp only[bX]at H;simp only[xB,Bool.and_eq_true]at z;refine aJn (ih (fuel:=f) (by lia) (by lia) z.1 J ?_);simp only[Bool.not_true,Bool.false_eq_true,if_false];exact aJo ⟨rfl,rfl,left,g,by lia,z.2⟩
   ·rintro⟨M,N⟩ p ⟨y,rfl,_⟩;simp only at y;subst y;exact aJo q
  | _=>simp[OQ]at hg
mutual
theorem Vl.yP{h h' :Heap}(k:∀b o aJ n,o.data= .seq aJ n->h.get? b=some o->h'.get? b=some o):∀(d:D) (u:Value),Vl h d u->Vl h' d u
 | .bY,u,q=>by unfold Vl at*;exact q
 | .bl _,u,q=>by unfold Vl at*;exact q
 | .int _,u,q=>by unfold Vl at*;exact q
 | .str _,u,q=>by unfold Vl at*;exact q
 | .ty _,u,q=>by unfold Vl at*;exact q
 | .ref _,u,q=>by unfold Vl at*;exact q
 | .tup ds,u,q=>by
  unfold Vl at*;obtain⟨a,us,e,⟨o,f,g,n,c⟩,l⟩:=q;exact⟨a,us,e,⟨o,k _ _ _ _ c f,g,n,c⟩,cD.yP k ds us l⟩
 | .fl ds,u,q=>by
  unfold Vl at*;obtain⟨a,us,e,⟨o,f,g,n,c⟩,l⟩:=q;exact⟨a,us,e,⟨o,k _ _ _ _ c f,g,n,c⟩,cD.yP k ds us l⟩
theorem cD.yP{h h' :Heap}(k:∀b o aJ n,o.data= .seq aJ n->h.get? b=some o->h'.get? b=some o):∀(ds:List D) (us:List Value),cD h ds us->cD h' ds us
 | [],us,q=>by unfold cD at*;exact q
 | d::ds,us,q=>by
  unfold cD at*;obtain⟨u,r,e,i,l⟩:=q;exact⟨u,r,e,Vl.yP k d u i,cD.yP k ds r l⟩
end
mutual
theorem A7:∀(d e:D),good d=true->good e=true->(d5 d e=true↔d=e)
 | .int i,e,_,h2=>by cases e <;> simp[good]at h2 <;> simp[d5]
 | .str x,e,_,h2=>by cases e <;> simp[good]at h2 <;> simp[d5]
 | .tup ds,e,h1,h2=>by
  cases e with
  | tup es=>simp only[d5,D.tup.injEq];exact qF ds es (by simpa only[good] using h1) (by simpa only[good] using h2)
  | int i=>simp[d5]
  | str x=>simp[d5]
  | _=>simp[good]at h2
 | .bY,e,h1,_=>by simp[good]at h1
 | .bl _,e,h1,_=>by simp[good]at h1
 | .ty _,e,h1,_=>by simp[good]at h1
 | .fl _,e,h1,_=>by simp[good]at h1
 | .ref _,e,h1,_=>by simp[good]at h1
theorem qF:∀(ds es:List D),dG ds=true->dG es=true->(cS ds es=true↔ds=es)
 | [],es,_,_=>by cases es <;> simp[cS]
 | d::ds,[],_,_=>by simp[cS]
 | d::ds,e::es,h1,h2=>by
  simp only[dG,Bool.and_eq_true]at h1 h2;simp only[cS,Bool.and_eq_true,List.cons.injEq];rw[A7 d e h1.1 h2.1,qF ds es h1.2 h2.2]
end
theorem aEq{es:List D}{i:Int}{b:Bool}(h:dG es=true)(a:D8 es=false):¬cS [.int i,.bl b] es=true:=λq=>by
 cases es with
 | nil=>simp[cS]at q
 | cons x es=>
  cases es with
  | nil=>simp[cS]at q
  | cons y es=>
   cases es with
   | cons z es=>simp[cS]at q
   | nil=>
    simp only[dG,Bool.and_eq_true]at h;cases x <;> simp[good]at h <;> cases y <;> simp[good,D8]at h a <;> simp[cS,d5]at q
theorem aEr{es:List D}{i:Int}{b:Bool}(h:dG es=true)(a:D8 es=false):¬cS es [.int i,.bl b]=true:=λq=>by
 cases es with
 | nil=>simp[cS]at q
 | cons x es=>
  cases es with
  | nil=>simp[cS]at q
  | cons y es=>
   cases es with
   | cons z es=>simp[cS]at q
   | nil=>
    simp only[dG,Bool.and_eq_true]at h;cases x <;> simp[good]at h <;> cases y <;> simp[good,D8]at h a <;> simp[cS,d5]at q
theorem aFo{d e:D}(a:gd d=true)(f:gd e=true):d5 d e=true↔d=e:=by
 obtain⟨ds,rfl,h1⟩:=JY a;obtain⟨es,rfl,h2⟩:=JY f;simp only[d5,D.tup.injEq];refine⟨λq=>?_,λq=>?_⟩
 ·rcases h1 with h1 | h1
  ·obtain⟨i,b,rfl⟩:=nL h1;rcases h2 with h2 | h2
   ·obtain⟨j,c,rfl⟩:=nL h2;simpa[cS,d5] using q
   ·exact absurd q (aEq h2.1 h2.2)
  ·rcases h2 with h2 | h2
   ·obtain⟨j,c,rfl⟩:=nL h2;exact absurd q (aEr h1.1 h1.2)
   ·exact(qF ds es h1.1 h2.1).mp q
 ·subst q;rcases h1 with z | z
  ·obtain⟨i,b,rfl⟩:=nL z;simp[cS,d5]
  ·exact(qF ds ds z.1 z.1).mpr rfl
structure DN where
 d:D
noncomputable instance:DecidableEq DN:=λ_ _=>Classical.propDecidable _
noncomputable def EN(prog:Program)(w:World):HeapKind prog w DN where
 is:=λh k a=>gd k.d=true/\deep k.d<=8/\Vl h k.d (.ref a)
 hash:=λk=>vX w k.d
 draws:=λk=>v9 k.d
 room:=λA=>A.units+16<cLine
 inj:=λ{h a x y} hx c=>by cases x;cases y;rw[DN.mk.injEq];exact FI hx.2.2 c.2.2
 keeps:=λ{h h' k a d o es ep} x ho hd hs=>⟨x.1,x.2.1,Vl.yP (λb u aJ n e hb=>hs.extBut b u (λz=>by subst z;rw[ho]at hb;cases hb;rw[hd]at e;cases e) hb) _ _ x.2.2⟩
 pyHash:=λ{A E s k a Q} e x q=>aBg 8 x.2.1 (OP x.1) (by lia) x.2.2 q
 eqBool:=λ{A E s x y a b Q} e hx c q=>by
  refine jT (s:=s) 8 hx.2.1 (by lia) hx.2.2 c.2.2 prog w _ _ ?_
  have:d5 x.d y.d=decide (x=y):=by
   rw[Bool.eq_iff_iff,aFo hx.1 c.1,decide_eq_true_eq];cases x;cases y;simp
  rw[this];exact q
 quiet:=λ{A E s k a Q} x q=>TJ 8 x.2.1 (aJq _) (OP x.1) x.2.2 q
end
section
variable {prog:Program}{w:World}{K:Type}[DecidableEq K]{knd:HeapKind prog w K}{A:Around}{E:aNn}{s:Shared}
theorem CS{d a:Addr}{xs:List (K×Addr×Value)}{k:K}{dflt:Value}{Q:aNn}(h:knd.room A)(b:knd.is s.heap k a)(hm:s.heap.DictOfH knd d xs)
  (m:∀(j:Nat) (p:Addr×Value),xs[j]? =some (k,p)->Q p.2 {s with toks:=s.toks+knd.draws k})
  (n:(∀(j:Nat) (p:Addr×Value),xs[j]? ≠some (k,p))->∀h',h'.DictOfH knd d (xs++[(k,a,dflt)])->Heap.SameBut d s.heap h' ->Q dflt {s with heap:=h',toks:=s.toks+knd.draws k})
  (hz:xs.length<=sizeLine):wpAny (model prog w) A (dictSetDefault d (.ref a) dflt) Q E s:=by
 obtain⟨o,es,ep,ho,q,hd,he,c,i⟩:=hm;unfold dictSetDefault
 try with_reducible refine aKd ?_
 refine aJn (knd.pyHash h b (aJn (wpAny_dictFind_heap (s:={s with toks:=s.toks+knd.draws k}) h b ho hd he c i ?_ ?_)))
 ·intro f
  refine aJn (aKq (aJn (wpAny_updateDictKeys (hz:=by have e:=size_of_entries he;lia) (s:={s with toks:=s.toks+knd.draws k}) ho hd (aJo (n f _ ⟨_,_,ep+1,aLe _ ho (Obj.isFreed_of_dict (Obj.data_mapDictKeys hd _)),
   q.mapDictKeys _,Obj.data_mapDictKeys hd _,?_,?_,?_⟩ (aKj ..))))))
  ·simp[he,entryOfKey]
  ·intro x hx;rcases aJx.mp hx with hx | hx
   ·exact knd.keeps (c x hx) ho hd (aKj ..)
   ·simp only[List.mem_singleton]at hx;subst hx;exact knd.keeps b ho hd (aKj ..)
  ·rw[List.map_append,List.nodup_append];refine⟨i,by simp,λx hx y l=>?_⟩;simp only[List.map_cons,List.map_nil,List.mem_singleton]at l;subst l;rintro rfl;obtain⟨p,r,e⟩:=aK0.mp hx;obtain⟨j,g⟩:=aKi.mp r;exact f j p.2 (by rw[g,<-e])
 ·intro j p g;refine aJn (wpAny_dictEntries (s:={s with toks:=s.toks+knd.draws k}) ho hd ?_);rw[entry_at he j,g];exact aJn (aKq (aJo (m j p g)))
theorem qB(knd:HeapKind prog w K)(d a:Addr)(hd:(d==sysModules)=false)(dflt:Value):
  MeetsIn prog w (Builtin.«dict.setdefault» ⟨[.ref d,.ref a,dflt],[]⟩) (λA R s=>knd.room A.in1/\∃k xs,knd.is s.heap k a/\s.heap.DictOfH knd d xs/\xs.length<=sizeLine/\
   (∀(j:Nat) (p:Addr×Value),xs[j]? =some (k,p)->R (.ok (.ret p.2)) {s with toks:=s.toks+knd.draws k})/\
   ((∀(j:Nat) (p:Addr×Value),xs[j]? ≠some (k,p))->∀h',h'.DictOfH knd d (xs++[(k,a,dflt)])->Heap.SameBut d s.heap h' ->R (.ok (.ret dflt)) {s with heap:=h',toks:=s.toks+knd.draws k})):=
 .of_wp λA R s e=>by
  obtain⟨f,k,xs,g,hm,hz,h,i⟩:=e;unfold Builtin.«dict.setdefault»;refine aJn ?_;unfold Builtin.Dict.keyAndDefault;refine aJn (wpAny_notOrdered_dict hm.typeIs ?_);show wpAny _ _ (pure (d,Value.ref a,some dflt)) _ _ s;refine aJo ?_;show wpAny _ _ (if (d==sysModules)=true then _ else (dictSetDefault d (.ref a) dflt >>=_)) _ _ s;rw[if_neg (by rw[hd];exact Bool.false_ne_true)];exact aJn (CS f g hm (λj p l=>aJo ⟨_,rfl,h j p l⟩) (λm h' b c =>aJo ⟨_,rfl,i m h' b c⟩) hz)
end
def aJ7(w:World)(x:DN×Addr×Value):DictEntry:=⟨vX w x.1.d,.ref x.2.1,x.2.2⟩
def DnR(w:World)(h:Heap)(a:Addr)(ks:List D)(vs:List V):Prop:=
 ∃xs:List (DN×Addr×Value),xs.map (λx=>x.1.d)=ks/\Vals (vs.take ks.length) (xs.map λx=>Value.ref x.2.1)/\Vals (vs.drop ks.length) (xs.map λx=>x.2.2)/\xs.length<=sizeLine/\(a==sysModules)=false/\
  (∀x∈xs,gd x.1.d=true/\deep x.1.d<=8)/\(xs.map λx=>x.1).Nodup/\∃o es ep,h.get? a=some o/\o.ExactDict/\o.data= .dict es ep/\es.toList=xs.map (aJ7 w)
def MZ(ks:List D):Addr->List V->HO:=λa vs=>.ext λw h=>DnR w h a ks vs
def ME(kvs:List (D×D)):MO:= .oth (kvs.map (·.1)++kvs.map (·.2)) (MZ (kvs.map (·.1)))
theorem XZ{P:Program}{w:World}{H:Hp}{h:Heap}{a:Addr}{ks:List D}{vs:List V}(x:DnR w h a ks vs):cL P w H h a (MZ ks a vs):=
 ⟨x,by obtain⟨_,_,_,_,_,_,_,_,o,_,_,ho,_⟩:=x;exact⟨o,ho⟩,λg i y k=>by
  obtain⟨xs,b,c,d,e,a5,a6,f,o,es,ep,ho,r⟩:=y
  exact⟨xs,b,c,d,e,a5,a6,f,o,es,ep,k o ho,r⟩⟩
section
variable {X:Cx}{pins:List (Addr×Obj)}{σ:L2.St}{H:Hp}{s:Shared}{a:Addr}{ks:List D}{vs:List V}
theorem RA(I:Inv X pins σ H s)(e:H a=some (MZ ks a vs)):DnR X.w s.heap a ks vs:=
 (show cL X.prog X.w H s.heap a (MZ ks a vs) from I.b9 a _ e).1
theorem J5(x:DnR X.w s.heap a ks vs):s.TypeIs (.ref a) "dict"/\(∀b,Value.ref a= .ref b->∃ob,s.heap.get? b=some ob/\ob.dict=none)/\(a==sysModules)=false:=by
 obtain⟨_,_,_,_,_,hm,_,_,o,es,ep,ho,hx,hd,_⟩:=x;refine⟨⟨o,ho,hx.1⟩,λb q=>?_,hm⟩;cases q;exact⟨o,ho,hx.2.1⟩
theorem OL{pos:Pos}:PE X (.Dict [] [] pos) (λσ H Q=>∀p,H p=none->Q (.ref p) (upd H p (MZ [] p []))):=λpins s σ H Q I h=>
 wpAny_Dict_empty ⟨.ref s.heap.objs.size,_,I.laid (a:=s.heap.objs.size) (o:=MZ [] s.heap.objs.size []) (t' :=s.toks) (λ_ _ q=>aJp _ q) (aJq _)
  (XZ ⟨[],rfl,.nil,.nil,aKz _,(EK (P:=X.prog) (w:=X.w) (H:=H) s.heap I.big).2.1,λ_ h=>(by cases h),List.nodup_nil,_,#[],0,aJv _ rfl,⟨rfl,rfl,rfl⟩,rfl,rfl⟩),rfl,h _ (I.b9.fresh (aJq _))⟩
end
def HZ:WE:=λ_ mh Q=>Q (.ref mh.length) (mh++[ME []])
@[simp] theorem aI6 (a:gM)(mh:MH)(Q:DK):HZ a mh Q=Q (.ref mh.length) (mh++[ME []]):=rfl
section
variable {X:Cx}
theorem U7{pos:Pos}:LE X (.Dict [] [] pos) HZ:=PE.imp OL λσ H Q h=>by
 obtain⟨μ,c,mh,R,a,E,h,F⟩:=h;intro p b;exact F _ _ h (μ++[p]) _ _ (aP.LC a b) (a.aEt b ⟨[],⟨bV,trivial⟩,by simp[IsL]⟩) (by unfold Is;exact⟨p,by rw[<-a.len];simp,rfl⟩)
theorem Q9{K:aNm}{μ:List Addr}{mh:MH}{H:Hp}{n:Nat}{v:V}{kvs:List (D×D)}(R:Rep K μ mh H)(h:Is K μ H (.ref n) v)(e:mh[n]? =some (ME kvs)):
  ∃a vs,v= .ref a/\μ[n]? =some a/\H a=some (MZ (kvs.map (·.1)) a vs)/\IsL K μ H (kvs.map (·.1)) (vs.take kvs.length)/\IsL K μ H (kvs.map (·.2)) (vs.drop kvs.length):=by
 unfold Is at h;obtain⟨a,b,rfl⟩:=h;obtain⟨vs,⟨c,_⟩,l⟩:=R.obj n a _ b e;refine⟨a,vs,rfl,b,c,?_,?_⟩
 ·have:=vT kvs.length l
  rwa [List.take_left' (by simp)]at this
 ·have:=vV kvs.length l
  rwa [List.drop_left' (by simp)]at this
def KC:OA:=λxs mh Q=>∃n kvs,xs=[.ref n]/\mh[n]? =some (ME kvs)/\Q (.int kvs.length) mh
theorem WB:cB X (.builtin "len") (eG X.K KC):=by
 intro pins s σ H xs us Q I r q;obtain⟨μ,mh,ds,R,b,d,⟨n,kvs,rfl,e,q⟩,F⟩:=q;obtain⟨v,rfl,f⟩:=gB d;obtain⟨a,vs,rfl,w,g,_,_⟩:=Q9 b f e;obtain⟨x,rfl,h⟩:=vals1 r;cases h;obtain⟨xs,i,_,_,hz,hm,_,_,ob,es,ep,j,l,m,c⟩:=RA I g
 have o:es.size=kvs.length:=by
  have p:=aKo List.length c;have u:=aKo List.length i;simp at p u
  lia
 have sz:=aK4;refine TC hm ⟨ob,j,l,m⟩ (by have:=aKo List.length c;simp at this;lia) λt k=>?_;rw[o];exact⟨.int kvs.length,H,I.tok _,⟨t,rfl⟩,F.here b q .int⟩
end
def KAt(X:Cx)(H:Hp)(k:D)(b:Addr):Prop:=∀pins σ s,Inv X pins σ H s->Vl s.heap k (.ref b)
theorem NL:∀{vs:List V} {us:List Value} {j:Nat} {u:Value},Vals vs us->us[j]? =some u->∃v,vs[j]? =some v/\RelV v u
 | _,_,_,_,.nil,h=>by simp at h
 | _,_,0,_,.cons r t,h=>by simp at h;subst h;exact⟨_,rfl,r⟩
 | _,_,j+1,_,.cons r t,h=>by
  obtain⟨v,a,b⟩:=NL t (j:=j) (by simpa using h);exact⟨v,by simpa using a,b⟩
section
variable {X:Cx}{o i x:Expr}{wo wi wx:WE}{apos dH pos tpos:Pos}
theorem OK{U ty V:TE}(hu:X.A.units+64<cLine)(ho:PE X o U)(he:PE X i ty)(hf:PE X x V)(m:M2 X o "setdefault" apos i x dH):PE X (.Call (.Attribute o "setdefault" apos) [i,x] [] dH)
  (λσ H Q=>U σ H λx C=>∃a,x= .ref a/\(∃ks vs,C a=some (MZ ks a vs))/\ty σ C λy D=>V σ D λz g=>∃ks vs f b,g a=some (MZ ks a vs)/\y= .ref b/\gd f=true/\deep f<=8/\KAt X g f b/\
   (∀(j:Nat) k v,ks[j]? =some k->(vs.take ks.length)[j]? =some v->∃c,v= .ref c/\KAt X g k c)/\ks.length<sizeLine/\
   (∀(j:Nat) v,ks[j]? =some f->(vs.drop ks.length)[j]? =some v->Q v g)/\(f∉ks->Q z (upd g a (MZ (ks++[f]) a ((vs.take ks.length++[.ref b])++(vs.drop ks.length++[z])))))):=by
 intro pins s σ H Q I h;refine wpAny_Call_method m.base m.FF m.line PySem.F.plainAttrs_dict aN3 PySem.F.type_dict_setdefault (c8 (ho pins s σ H _ I h) λu s1 E=>?_);obtain⟨x,C,W,rx,a,ex,⟨ks0,vs0,e0⟩,q1⟩:=E;subst ex;obtain rfl:u=Value.ref a:=rx;obtain⟨t1,t2,_⟩:=J5 (RA W e0);refine⟨t1,t2,?_⟩;rw[m.trees];refine aMp rfl (aMy (aLr (c8 (he pins s1 σ C _ W q1) λiv s2 G=>?_)));obtain⟨y,D,I2,ry,q2⟩:=G;refine aLr (c8 (hf pins s2 σ D _ I2 q2) λY J K=>Calls.spliced_nil ?_);obtain⟨z,g,n,Z,ks,vs,f,b,e,ey,hg,q,hk,xK,hlt,qa,qb⟩:=K;subst ey;obtain rfl:iv=Value.ref b:=ry;have dn:=RA n e;obtain⟨tt,_,hm⟩:=J5 dn;obtain⟨xs,t,L,v2,hz,_,gd,nd,ob,es,ep,g1,g2,g3,g4⟩:=dn;have hxl:xs.length=ks.length:=by have:=aKo List.length t;simpa using this
 have aS:∀y∈xs,Vl J.heap y.1.d (.ref y.2.1):=λy hy=>by
  obtain⟨j,l⟩:=aKi.mp hy;obtain⟨v,M,N⟩:=NL L (j:=j) (u:= .ref y.2.1) (by rw[List.getElem?_map,l];rfl);obtain⟨c,rfl,hc⟩:=xK j y.1.d v (by rw[<-t,List.getElem?_map,l];rfl) M;have:Value.ref y.2.1=Value.ref c:=N;cases this;exact hc _ _ _ n
 have dd:J.heap.DictOfH (EN X.prog X.w) a xs:=⟨ob,es,ep,g1,g2,g3,g4,λy hy=>⟨(gd y hy).1,(gd y hy).2,aS y hy⟩,nd⟩
 refine call_meetsIn aN3 tt PySem.F.entry_dict_setdefault (PySem.F.args_dict_setdefault_3 _ _ _) (qB (EN X.prog X.w) a b hm Y)
  ⟨by show X.A.units+1+16<_;lia,⟨f⟩,xs,⟨hg,q,hk _ _ _ n⟩,dd,hz,λj p l=>?_,λO h' P hs=>?_⟩
 ·obtain⟨v,M,N⟩:=NL v2 (j:=j) (u:=p.2) (by rw[List.getElem?_map,l];rfl);exact⟨v,g,n.tok _,N,qa j v (by rw[<-t,List.getElem?_map,l];rfl) M⟩
 ·have R:f∉ks:=λB=>by
   rw[<-t]at B;obtain⟨y,hy,e2⟩:=aK0.mp B;obtain⟨j,l⟩:=aKi.mp hy;exact O j y.2 (by rw[l];cases y with | mk d r=>cases d;cases e2;rfl)
  obtain⟨o',S,T,d1,d2,d3,d4,_,d6⟩:=P;have tl:(vs.take ks.length).length=ks.length:=by have:=L.length;simp at this⊢;lia
  refine⟨z,_,BE (t' :=J.toks+v9 f) n (by rw[e];exact True.intro) hs ⟨o',d1⟩ (XZ ⟨xs++[((⟨f⟩:DN),b,Y)],by simp[t],?_,?_,by simp;lia,hm,λy hy=>?_,d6,o',S,T,d1,d2,d3,d4.trans rfl⟩),Z,qb R⟩
  ·rw[List.take_left' (by simp[tl])];simpa using L.append (.cons (show RelV (.ref b) (Value.ref b) from rfl) .nil)
  ·rw[List.drop_left' (by simp[tl])];simpa using v2.append (.cons Z .nil)
  ·rcases aJx.mp hy with hy | hy
   ·exact gd y hy
   ·simp only[List.mem_singleton]at hy;subst hy;exact⟨hg,q⟩
def uJ(wo wi wx:WE):WE:=λc mh Q=>wo c mh λo b=>∃n,o= .ref n/\(∃kvs,b[n]? =some (ME kvs))/\wi c b λi d=>wx c d λx a=>∃kvs ds,a[n]? =some (ME kvs)/\i= .tup ds/\gd i=true/\deep i<=8/\kvs.length<sizeLine/\(∀p∈kvs,∃es,p.1= .tup es/\gd p.1=true)/\
 (∀p∈kvs,p.1=i->Q p.2 a)/\(i∉kvs.map (·.1)->Q x (a.set n (ME (kvs++[(i,x)]))))
@[simp] theorem aGd {c:gM}{mh:MH}{Q:DK}:uJ wo wi wx c mh Q=(wo c mh λo b=>∃n,o= .ref n/\(∃kvs,b[n]? =some (ME kvs))/\wi c b λi d=>wx c d λx a=>∃kvs ds,a[n]? =some (ME kvs)/\i= .tup ds/\gd i=true/\deep i<=8/\kvs.length<sizeLine/\(∀p∈kvs,∃es,p.1= .tup es/\gd p.1=true)/\
 (∀p∈kvs,p.1=i->Q p.2 a)/\(i∉kvs.map (·.1)->Q x (a.set n (ME (kvs++[(i,x)]))))):=rfl
mutual
theorem MA:∀{d:D},good d=true->bare d=true
 | .int _,_=>rfl
 | .str _,_=>rfl
 | .tup ds,h=>by show cI ds=true;exact jE (by simpa only[good] using h)
 | .bY,h=>by simp[good]at h
 | .bl _,h=>by simp[good]at h
 | .ty _,h=>by simp[good]at h
 | .fl _,h=>by simp[good]at h
 | .ref _,h=>by simp[good]at h
theorem jE:∀{ds:List D},dG ds=true->cI ds=true
 | [],_=>rfl
 | d::ds,h=>by
  simp only[dG,Bool.and_eq_true]at h;simp only[cI,MA h.1,jE h.2,Bool.and_self]
end
theorem JZ(h:gd d=true):bare d=true:=by
 obtain⟨ds,rfl,h | h⟩:=JY h
 ·obtain⟨i,b,rfl⟩:=nL h;rfl
 ·exact jE h.1
theorem P7(hu:X.A.units+64<cLine)(ho:LE X o wo)(hi:LE X i wi)(hx:LE X x wx)(base:attributeBase o "setdefault" X.env (eval o X.env)=eval o X.env:=by rfl)
  (FF:((backTo dH (starEach [i,x] X.env)).all (λx=>!x.1) && (backToKw dH (keywordEach [] X.env)).all (λx=>x.1.isSome) && decide (([i,x]:List Expr).length+([]:List Keyword).length+(if ([]:List Keyword).isEmpty then 0 else 1)<30))=true:=by rfl)
  (line:(apos.endLine==dH.line)=true:=by rfl) (trees:backTo dH (starEach [i,x] X.env)=[(false,eval i X.env),(false,eval x X.env)]:=by rfl):
  LE X (.Call (.Attribute o "setdefault" apos) [i,x] [] dH) (uJ wo wi wx):=PE.imp (OK hu ho hi hx ⟨base,FF,line,trees⟩) λσ H Q h=>by
 obtain⟨μ,B,mh,R,C,En,h,F⟩:=h;refine⟨μ,B,mh,_,C,En,h,λdo' E q G vo H1 J L I1=>?_⟩;obtain⟨n,rfl,⟨kvs0,e0⟩,q⟩:=q;obtain⟨a,vs0,rfl,_,M,_⟩:=Q9 L I1 e0;refine⟨a,rfl,⟨_,_,M⟩,G,B,E,_,L,En.mono C J,q,λdi N q2 O vi H2 P R2 I2=>?_⟩;refine⟨O,B,N,_,R2,En.mono C (J.trans P),q2,λdx S q3 g vx T U l I3=>?_⟩;obtain⟨kvs,ds,e,rfl,hg,V,hz,W,qa,qb⟩:=q3;obtain⟨a',vs,ea,hn,hv,lk,lv⟩:=Q9 l (Is.mono L (P.trans U) _ _ I1) e;cases ea;have m :=Is.mono R2 U _ _ I2;have i2:=m;unfold Is at i2;obtain⟨b,us,rfl,_,_⟩:=i2;have F3:=F.at ((J.trans P).trans U);have Y:(kvs.map (·.1)).length=kvs.length:=by simp
 refine⟨kvs.map (·.1),vs,.tup ds,b,hv,rfl,hg,V,λpins σ s I=>mH I _ (JZ hg) m rfl,λj k v r f=>?_,by simpa using hz,λj v r f=>?_,λZ=>?_⟩
 ·rw[Y]at f;obtain⟨v',h1,t⟩:=eL lk r;rw[h1]at f;cases f;obtain⟨p,y,rfl⟩:=aK0.mp (aJu r);obtain⟨es,et,u⟩:=W p y;rw[et]at t u⊢;have w :=t;unfold Is at w;obtain⟨c,ws,rfl,_,_⟩:=w;exact⟨c,rfl,λpins σ s I=>mH I _ (JZ u) t rfl⟩
 ·rw[Y]at f;rw[List.getElem?_map]at r;obtain⟨p,y,e2⟩:=aKr.mp r;obtain⟨v',h1,t⟩:=eL lv (i:=j) (d:=p.2) (by rw[List.getElem?_map,y];rfl);rw[h1]at f;cases f;exact F3.here l (qa p (aJu y) e2) t
 ·rw[Y];have z:aP g T g (upd T a (MZ (kvs.map (·.1)++[.tup ds]) a ((vs.take kvs.length++[.ref b])++(vs.drop kvs.length++[vx])))):=aP.set l hn;have em:(kvs++[(D.tup ds,dx)]).map (λp=>p.1)=kvs.map (λp=>p.1)++[D.tup ds]:=by simp
  have R4:Rep X.K g (S.set n (ME (kvs++[(.tup ds,dx)]))) (upd T a (MZ (kvs.map (·.1)++[.tup ds]) a ((vs.take kvs.length++[.ref b])++(vs.drop kvs.length++[vx])))):=by
   refine J6 l hn (by trivial) ⟨_,⟨by rw[em];exact bV,trivial⟩,?_⟩;rw[em,List.map_append];exact hU (IsL.mono l z _ _ (hU lk (jD m))) (IsL.mono l z _ _ (hU lv (jD I3)))
  exact F3 _ _ (qb Z) g _ _ z R4 (Is.mono l z _ _ I3)
end
inductive Sh where
 | sc (c:Sc)
 | tp (cs:List Sc)
def pD:Sh->D->Bool
 | .sc c,d=>bW c d
 | .tp cs,.tup es=>aQ cs es
 | .tp _,_=>false
def eS:List Sh->List D->Bool
 | [],[]=>true
 | s::ss,d::ds=>pD s d && eS ss ds
 | _,_=>false
def encM:D->List Int
 | .tup ds=>ds.flatMap enc
 | d=>bR d
def WU(ds:List D):Prop:=∃cs ss,∀d∈ds,∃es,d= .tup es/\eS (.tp cs::ss) es=true
theorem DV:∀{cs:List Sc} {es fs:List D} (r a :List Int),aQ cs es=true->aQ cs fs=true->es≠fs->lx (es.flatMap bR++r) (fs.flatMap bR++a)=lx (es.flatMap bR) (fs.flatMap bR)
 | [],[],[],_,_,_,_,h=>absurd rfl h
 | [],[],_::_,_,_,_,h2,_=>by simp[aQ]at h2
 | [],_::_,_,_,_,h1,_,_=>by simp[aQ]at h1
 | _::_,[],_,_,_,h1,_,_=>by simp[aQ]at h1
 | _::_,_::_,[],_,_,_,h2,_=>by simp[aQ]at h2
 | c::cs,e::es,f::fs,r,a,h1,h2,h=>by
  simp only[aQ,Bool.and_eq_true]at h1 h2;simp only[List.flatMap_cons,List.append_assoc];by_cases b:e=f
  ·subst b;rw[qC,qC];exact DV r a h1.2 h2.2 λz=>h (by rw[z])
  ·rw[hG h1.1 h2.1 b,hG h1.1 h2.1 b]
theorem D6{c:Sc}(h:bW c d=true):enc d=bR d:=by cases c <;> cases d <;> simp[bW]at h <;> rfl
theorem PM{f:Sh}{a d:D}(b:pD f a=true)(e:pD f d=true)(h:a≠d)(r g :List Int):lx (enc a++r) (enc d++g)=lx (enc a) (enc d):=by
 cases f with
 | sc c=>rw[D6 b,D6 e];exact hG b e h r g
 | tp cs=>
  cases a <;> simp[pD]at b;cases d <;> simp[pD]at e;exact DV r g b e λz=>h (by rw[z])
theorem yD:∀{cs:List Sc} {es:List D},aQ cs es=true->dG es=true
 | [],[],_=>rfl
 | [],_::_,h=>by simp[aQ]at h
 | _::_,[],h=>by simp[aQ]at h
 | c::cs,e::es,h=>by
  simp only[aQ,Bool.and_eq_true]at h;simp only[dG,yD h.2,Bool.and_true];cases c <;> cases e <;> simp[bW]at h <;> rfl
theorem CT:∀{cs:List Sc} {es:List D},aQ cs es=true->bX es=0
 | [],[],_=>rfl
 | [],_::_,h=>by simp[aQ]at h
 | _::_,[],h=>by simp[aQ]at h
 | c::cs,e::es,h=>by
  simp only[aQ,Bool.and_eq_true]at h;simp only[bX,CT h.2];cases c <;> cases e <;> simp[bW]at h <;> rfl
theorem zU{a:Sh}(h:pD a d=true):good d=true/\deep d<=1:=by
 cases a with
 | sc c=>cases c <;> cases d <;> simp[pD,bW]at h <;> simp[good,deep]
 | tp cs=>
  cases d <;> simp[pD]at h;exact⟨by simp only[good];exact yD h,by simp only[deep,CT h];lia⟩
theorem zT:∀{ss:List Sh} {ds:List D},eS ss ds=true->ds.length=ss.length
 | [],[],_=>rfl
 | [],_::_,h=>by simp[eS]at h
 | _::_,[],h=>by simp[eS]at h
 | s::ss,d::ds,h=>by simp only[eS,Bool.and_eq_true]at h;simp[zT h.2]
theorem yC:∀{ss:List Sh} {es:List D},eS ss es=true->dG es=true
 | [],[],_=>rfl
 | [],_::_,h=>by simp[eS]at h
 | _::_,[],h=>by simp[eS]at h
 | c::cs,e::es,h=>by
  simp only[eS,Bool.and_eq_true]at h;simp only[dG,yC h.2,(zU h.1).1,Bool.and_true]
theorem mV{prog:Program}{w:World}{h:Heap}:∀{cs:List Sc} {es:List D} {us:List Value},aQ cs es=true->cD h es us->∃k:List Key,es=k.map cO/\ItemsAre (aM prog w) k us
 | [],[],us,_,l=>by unfold cD at l;subst l;exact⟨[],rfl,.nil⟩
 | [],_::_,_,h,_=>by simp[aQ]at h
 | _::_,[],_,h,_=>by simp[aQ]at h
 | c::cs,e::es,us,hs,l=>by
  simp only[aQ,Bool.and_eq_true]at hs;unfold cD at l;obtain⟨u,r,rfl,p,l⟩:=l;obtain⟨k,rfl,hi⟩:=mV (prog:=prog) (w:=w) hs.2 l
  cases c with
  | i=>
   cases e <;> simp[bW]at hs;rename_i i;unfold Vl at p;obtain⟨t,rfl⟩:=p;exact⟨.inl i::k,rfl,.cons (oQ (k:= .inl i) ⟨t,rfl⟩) hi⟩
  | s=>
   cases e <;> simp[bW]at hs;rename_i x;unfold Vl at p;obtain⟨t,rfl⟩:=p;exact⟨.inr x::k,rfl,.cons (oQ (k:= .inr x) ⟨t,rfl⟩) hi⟩
section
variable {prog:Program}{w:World}{A:Around}{E:aNn}{s:Shared}
theorem UW{cs:List Sc}{es fs:List D}{u v:Value}{Q:aNn}(B:A.units+4<cLine)(i:aQ cs es=true)(j:aQ cs fs=true)(p:Vl s.heap (.tup es) u)(q:Vl s.heap (.tup fs) v)
  (h:Q (.bool (lx (es.flatMap bR) (fs.flatMap bR))) s):wpAny (model prog w) A (compareOp .Lt u v) Q E s:=by
 unfold Vl at p q;obtain⟨a,us,rfl,⟨o,ho,m,n,hd⟩,l⟩:=p;obtain⟨b,C,rfl,⟨r,c,d,t,f⟩,x⟩:=q;obtain⟨k1,rfl,y⟩:=mV (prog:=prog) (w:=w) i l;obtain⟨k2,rfl,z⟩:=mV (prog:=prog) (w:=w) j x
 have g:IsTupleKey (aM prog w) s.heap k1 a:=⟨o,_,n,ho,m,hd,by simpa using y⟩
 have k:IsTupleKey (aM prog w) s.heap k2 b:=⟨r,_,t,c,d,f,by simpa using z⟩
 exact wpAny_richCompare_same_room (op:= .Lt) g.typeIs k.typeIs PySem.F.slot_tuple_lt (aK8 PySem.F.slot_tuple_lt g.typeIs PySem.F.entry_tuple_lt (RD false rfl g k i j ⟨_,rfl,(λe=>nomatch e),h⟩) (PySem.F.args_tuple_lt_2 _ _)) (by lia)
end
noncomputable def ltM(h:Heap)(x y:Keyed):Bool:=lx (encM (dv h x.1)) (encM (dv h y.1))
theorem aA6(h:Heap):TS.Wk (ltM h):=⟨λx y=>t7 _ _,λx y z=>PL _ _ _⟩
open PySem.W in
theorem JN{prog:Program}{w:World}{A:Around}{Q:Bool->Shared->Prop}{s:Shared}(r:A.units+32<cLine):∀(ss:List Sh) (as bs:List D) (us vs:List Value) (i:Nat),eS ss as=true->eS ss bs=true->cD s.heap as us->cD s.heap bs vs->
  Q (lx (as.flatMap enc) (bs.flatMap enc)) s->KatLex prog w A false false Q (us.zip vs) i s
 | [],[],[],us,vs,i,_,_,g,h,q=>by unfold cD at g h;subst g h;exact kat_nil q
 | [],[],_::_,_,_,_,_,h2,_,_,_=>by simp[eS]at h2
 | [],_::_,_,_,_,_,h1,_,_,_,_=>by simp[eS]at h1
 | _::_,[],_,_,_,_,h1,_,_,_,_=>by simp[eS]at h1
 | _::_,_::_,[],_,_,_,_,h2,_,_,_=>by simp[eS]at h2
 | sh::ss,a::as,d::bs,us,vs,i,h1,h2,g,h,q=>by
  unfold cD at g h;obtain⟨u,t,rfl,j,g⟩:=g;obtain⟨v,B,rfl,k,h⟩:=h;simp only[eS,Bool.and_eq_true]at h1 h2;rw[List.zip_cons_cons];have m:=zU h1.1;have p:=zU h2.1;refine kat_cons (jT (s:=s) 1 m.2 (by lia) j k prog w _ _ ?_);simp only[List.flatMap_cons]at q;refine kat_go (λe=>kat_yes ?_) (λe=>kat_no ?_)
  ·have n:a=d:=(A7 _ _ m.1 p.1).mp e;subst n;rw[qC]at q;exact JN r ss as bs t B (i+1) h1.2 h2.2 g h q
  ·have o:a≠d:=λz=>by rw[(A7 _ _ m.1 p.1).mpr z]at e;cases e
   rw[PM h1.1 h2.1 o]at q;rw[Bool.false_and]
   cases sh with
   | sc c=>
    cases c with
    | i=>
     have b :=h1.1;have f :=h2.1;cases a <;> simp[pD,bW]at b;cases d <;> simp[pD,bW]at f;rename_i x y;unfold Vl at j k;obtain⟨C,rfl⟩:=j;obtain⟨E,rfl⟩:=k
     have q' :Q (decide (x<y)) s:=by
      have:lx (enc (.int x)) (enc (.int y))=decide (x<y):=by
       simp only[enc,bR,lx];by_cases l:x<y
       ·simp[l]
       ·simp[l]
      rw[<-this];exact q
     exact kat_one _ _ (lt_int q')
    | s=>
     have b :=h1.1;have f :=h2.1;cases a <;> simp[pD,bW]at b;cases d <;> simp[pD,bW]at f;rename_i x y;unfold Vl at j k;obtain⟨C,rfl⟩:=j;obtain⟨E,rfl⟩:=k
     have q' :Q (decide (x.cps.toList<y.cps.toList)) s:=by
      have:lx (enc (.str x)) (enc (.str y))=decide (x.cps.toList<y.cps.toList):=rJ _ _;rw[<-this];exact q
     exact kat_one _ _ (lt_str q')
   | tp cs=>
    have b :=h1.1;have f :=h2.1;cases a <;> simp[pD]at b;cases d <;> simp[pD]at f;exact kat_one _ _ (UW (by lia) b f j k q)
section
variable {prog:Program}{w:World}{A:Around}
theorem KR{s:Shared}{vs:List Value}(Z:A.units+40<cLine)(U:WU ds)(l:cD s.heap ds vs)(L:2<=vs.length):
  ∃κ,∀h' :Heap,(∀b o,s.heap.get? b=some o->h'.get? b=some o)->TS.nC prog w A {s with heap:=h'} κ (ltM s.heap) (pairsOf vs)/\
   ∀i H,i κ {s with heap:=h'}->wpAny (model prog w) A (keyKind' vs.toArray) i H {s with heap:=h'}:=by
 obtain⟨cs,ss,c⟩:=U;refine⟨tuples' false,λh' k=>⟨λx y hx M Q q=>?_,λi H q=>?_⟩⟩
 ·obtain⟨_,N⟩:=iD hx;obtain⟨_,O⟩:=iD M;obtain⟨d,P,dp⟩:=jB l _ N;obtain⟨e,em,ep⟩:=jB l _ O
  have q' :Q (lx (encM d) (encM e)) {s with heap:=h'}:=by
   have:ltM s.heap x y=lx (encM d) (encM e):=by unfold ltM;rw[jG dp,jG ep]
   rw[<-this];exact q
  obtain⟨as,rfl,ha⟩:=c d P;obtain⟨bs,rfl,hb⟩:=c e em;obtain⟨x1,x2⟩:=x;obtain⟨R,y2⟩:=y;unfold Vl at dp ep;obtain⟨a,us,S,⟨o,ho,f,n,hd⟩,g⟩:=dp;obtain⟨b,h,T,⟨o2,j,I,n2,m⟩,lw⟩:=ep;have t :x1=Value.ref a:=S;have z :R=Value.ref b:=T;subst t z;refine PySem.W.kat_lt (s:={s with heap:=h'}) (k _ _ ho) hd (k _ _ j) m ?_;have z1:=bB g;have z2:=bB lw;have z3:=zT ha;have z4:=zT hb;have V:decide (us.toArray.size<h.toArray.size)=false:=aL3 (by simp only[List.size_toArray];lia);rw[V];exact JN (s:={s with heap:=h'}) (by lia) (.tp cs::ss) as bs us h 0 ha hb (cD.keep k as us g) (cD.keep k bs h lw) q'
 ·have fs:∃fs:List Value,PySem.W.KatTups h' vs fs/\fs.length=vs.length/\∀v∈fs,PySem.W.Looks (model prog w) h' (typeOf v) (.type "tuple"):=by
   clear q L
   have go:∀(ds:List D) (vs:List Value),(∀d∈ds,∃es,d= .tup es/\eS (.tp cs::ss) es=true)->cD s.heap ds vs->∃fs:List Value,PySem.W.KatTups h' vs fs/\fs.length=vs.length/\∀v∈fs,PySem.W.Looks (model prog w) h' (typeOf v) (.type "tuple"):=by
    intro ds
    induction ds with
    | nil=>intro vs _ l;unfold cD at l;subst l;exact⟨[],PySem.W.KatTups.nil,rfl,λv hv=>by cases hv⟩
    | cons d r ih=>
     intro vs c l;unfold cD at l;obtain⟨u,X,rfl,p,l⟩:=l;obtain⟨fs,B,J,C⟩:=ih X (λe he=>c e (aJt _ he)) l;obtain⟨es,rfl,he⟩:=c d aJs;unfold Vl at p;obtain⟨a,us,rfl,⟨o,ho,f,n,hd⟩,g⟩:=p
     cases es with
     | nil=>simp[eS]at he
     | cons e0 er=>
      unfold cD at g;obtain⟨Y,u1,rfl,K,_⟩:=g;simp only[eS,Bool.and_eq_true]at he;refine⟨Y::fs,PySem.W.KatTups.cons (k _ _ ho) f hd (by simp) B,by simp[J],λv hv=>?_⟩;rcases aK1.mp hv with rfl | hv
      ·have E :=he.1;cases e0 <;> simp[pD]at E;unfold Vl at K;obtain⟨b,h,rfl,⟨o3,F,G,_⟩,_⟩:=K;exact PySem.W.Looks.andThen (PySem.W.Looks.ld (k _ _ F)) (aLh (by rw[G]))
      ·exact C v hv
   exact go ds vs c l
  obtain⟨fs,B,J,C⟩:=fs;refine PySem.W.kat_kind (s:={s with heap:=h'}) B (by lia) C rfl ?_;exact q
end
def wQ:OA:=λxs mh Q=>∃x ds,xs=[x]/\mT mh x=some ds/\ds.length<4000/\WU ds/\
 ∀a,a.Perm ds->a.Pairwise (λd e=>lx (encM e) (encM d)=false)->Q (.ref mh.length) (mh++[.lst a])
theorem HI(U:WU ds):cI ds=true:=by
 obtain⟨cs,ss,a⟩:=U
 induction ds with
 | nil=>rfl
 | cons d r ih=>
  obtain⟨es,rfl,he⟩:=a d aJs;simp only[cI,ih λe he=>a e (List.mem_cons_of_mem _ he),Bool.and_true];exact jE (yC he)
section
variable {X:Cx}
theorem HC(hu:X.A.units+64<cLine):cB X (.builtin "sorted") (eG X.K wQ):=by
 intro pins s σ H xs us Q I r q;obtain⟨μ,mh,ds,R,n,G,⟨x,es,rfl,e,J,U,q⟩,F⟩:=q;obtain⟨v,rfl,L⟩:=gB G;obtain⟨a,vs,rfl,sq,l⟩:=rK n L e;obtain⟨u,rfl,M⟩:=vals1 r;cases M;obtain⟨aJ,p,N,hz⟩:=I.list sq;have g:=jO I es (HI U) l p;have y:aJ.length=es.length:=bB g;have O:X.A.in1.in1.units+40<cLine:=by show X.A.units+1+1+40<_;lia
 have ask:∃κ,2<=aJ.length->∀h' :Heap,(∀b o,s.heap.get? b=some o->h'.get? b=some o)->TS.nC X.prog X.w X.A.in1.in1 {s with heap:=h'} κ (ltM s.heap) (pairsOf aJ)/\
   ∀B P,B κ {s with heap:=h'}->wpAny (model X.prog X.w) X.A.in1.in1 (keyKind' aJ.toArray) B P {s with heap:=h'}:=by
  by_cases C:2<=aJ.length
  ·obtain⟨κ,S⟩:=KR (prog:=X.prog) (w:=X.w) (A:=X.A.in1.in1) O U g C;exact⟨κ,λ_=>S⟩
  ·exact⟨general',λz=>absurd z C⟩
 obtain⟨κ,ask⟩:=ask;refine TS.CQ (κ:=κ) (aA6 s.heap) N.isList (by lia) ask λout D h=>?_;obtain⟨T,V,W,Y,Z⟩:=SU l p g;rw[<-Y]at D;obtain⟨c,i,E⟩:=mR (·.u) D T rfl;have f:∀t∈c,Is X.K μ H t.d t.v/\RelV t.v t.u/\Vl s.heap t.d t.u:=λt ht=>Z t (i.mem_iff.mp ht);have pd:(c.map (·.d)).Perm es:=by rw[<-V];exact i.map _
 have pw:(c.map (·.d)).Pairwise (λd e=>lx (encM e) (encM d)=false):=by
  rw[<-E]at h;rw[List.pairwise_map]at h⊢;refine h.imp_of_mem λ{t t'} m m' j=>?_;have e1:dv s.heap t.u=t.d:=jG (f t m).2.2;have e2:dv s.heap t'.u=t'.d:=jG (f t' m').2.2;unfold ltM at j;rw[e1,e2]at j;exact j
 obtain⟨ep,he⟩:=sortedAll_at s.heap aJ out.toArray
 have ln:(c.map (·.v)).length<=sizeLine:=by
  have:=i.length_eq;have k :=aKo List.length W;simp at k ⊢
  lia
 have I1:Inv X pins σ (upd H (s.heap.objs.size+1) (.lst (c.map (·.v)))) {s with heap:=sortedAll s.heap aJ out.toArray}:=
  I.laid (t' :=s.toks) (λb o hb=>sortedAll_old hb) (aMz _) ⟨ln,out,ep,by rw[<-E];exact pO λt ht=>(f t ht).2.1,he⟩
 exact⟨.ref (s.heap.objs.size+1),_,I1,rfl,jF n F (uA λt ht=>(f t ht).1) (q _ pd pw) _ (I.b9.fresh (aMz _))⟩
end
def gJ(mh:MH):Nat->D->D
 | 0,d=>d
 | n+1,.ref k=>match mh[k]? with | some (.lst ds)=>.fl (ds.map (gJ mh n)) | _=>.ref k
 | n+1,.tup ds=>.tup (ds.map (gJ mh n))
 | _+1,d=>d
section
variable {X:Cx}{pins:List (Addr×Obj)}{σ:L2.St}{H:Hp}{s:Shared}{μ:List Addr}{mh:MH}
theorem r8:∀{ds:List D},cI ds=true↔∀d∈ds,bare d=true
 | []=>by simp[cI]
 | d::ds=>by simp only[cI,Bool.and_eq_true,r8 (ds:=ds),List.mem_cons,forall_eq_or_imp]
theorem uM(I:Inv X pins σ H s){n:Nat}(h:∀{d:D} {v:V} {u:Value},bare (gJ mh n d)=true->Is X.K μ H d v->RelV v u->Vl s.heap (gJ mh n d) u):
  ∀(ds:List D) {vs:List V} {us:List Value},(∀d∈ds,bare (gJ mh n d)=true)->IsL X.K μ H ds vs->Vals vs us->cD s.heap (ds.map (gJ mh n)) us
 | [],vs,us,_,l,r=>by unfold IsL at l;subst l;cases r;simp;unfold cD;rfl
 | d::ds,vs,us,b,l,r=>by
  unfold IsL at l;obtain⟨v,f,rfl,i,l⟩:=l
  cases r with
  | cons a c=>
   rw[List.map_cons];unfold cD;exact⟨_,_,rfl,h (b d aJs) i a,uM I h ds (λe he=>b e (aJt _ he)) l c⟩
theorem tV(I:Inv X pins σ H s)(R:Rep X.K μ mh H):∀(n:Nat) {d:D} {v:V} {u:Value},bare (gJ mh n d)=true->Is X.K μ H d v->RelV v u->Vl s.heap (gJ mh n d) u:=by
 intro n
 induction n with
 | zero=>intro d v u b i r;exact mH I d b i r
 | succ n ih=>
  intro d v u b i r
  cases d with
  | ref k=>
   simp only[gJ]at b⊢
   cases o:mh[k]? with
   | none=>rw[o]at b;simp[bare]at b
   | some ob=>
    cases ob with
    | lst ds=>
     rw[o]at b;simp only;obtain⟨a,vs,rfl,_,h,l⟩:=jQ R i o;have c :u=Value.ref a:=r;subst c;obtain⟨aJ,e,p,_⟩:=I.list (.of h);unfold Vl;have g :cI (ds.map (gJ mh n))=true:=by simpa[bare] using b
     exact⟨a,aJ,rfl,p.isList,uM I ih ds (λd hd=>r8.mp g _ (aKl hd)) l e⟩
    | dic t kvs=>rw[o]at b;simp[bare]at b
    | fdc t kvs ob=>rw[o]at b;simp[bare]at b
    | oth ds f=>rw[o]at b;simp[bare]at b
  | tup ds=>
   simp only[gJ]at b⊢;obtain⟨a,vs,rfl,sq,l⟩:=dY i;have c :u=Value.ref a:=r;subst c;obtain⟨aJ,e,p,_⟩:=I.tuple sq;unfold Vl;have g :cI (ds.map (gJ mh n))=true:=by simpa[bare] using b
   exact⟨a,aJ,rfl,p,uM I ih ds (λd hd=>r8.mp g _ (aKl hd)) l e⟩
  | bY=>exact mH I _ b i r
  | bl _=>exact mH I _ b i r
  | int _=>exact mH I _ b i r
  | str _=>exact mH I _ b i r
  | ty _=>exact mH I _ b i r
  | fl _=>exact mH I _ b i r
end
def Z4:O2:=λx y mh Q=>∃n,bare (gJ mh n x)=true/\bare (gJ mh n y)=true/\deep (gJ mh n x)<=40/\Q (.bl (d5 (gJ mh n x) (gJ mh n y))) mh
def OT:O2:=λx y mh Q=>∃n,bare (gJ mh n x)=true/\bare (gJ mh n y)=true/\deep (gJ mh n x)<=40/\Q (.bl !d5 (gJ mh n x) (gJ mh n y)) mh
section
variable {X:Cx}
theorem ZY(b:X.A.units+64<cLine):gE X (compareOp .Eq) (bT X.K Z4):=by
 intro pins s σ H x y v u Q I c d q;obtain⟨μ,mh,dx,h,R,a,ix,e,⟨n,f,g,hd,q⟩,F⟩:=q;exact N5 hd b (tV I a n f ix c) (tV I a n g e d) X.prog X.w X.xe _ ⟨.bl _,H,I,rfl,F.here a q .bl⟩
theorem ZV(b:X.A.units+64<cLine):gE X (compareOp .NotEq) (bT X.K OT):=by
 intro pins s σ H x y v u Q I c d q;obtain⟨μ,mh,dx,h,R,a,ix,e,⟨n,f,g,hd,q⟩,F⟩:=q;exact C7 hd b (tV I a n f ix c) (tV I a n g e d) X.prog X.w X.xe _ ⟨.bl _,H,I,rfl,F.here a q .bl⟩
end
def NJ:WS:=λ_ _ _=>False
theorem PU{X:Cx}{st:Stmt}:LS X st NJ:=λ_ _ _ _ _ _ z=>by obtain⟨_,_,_,_,_,_,h,_⟩:=z;exact h.elim
end D3
namespace K40
open PySem PyProof.Rows L2 D3
set_option hygiene false
local macro_rules | `(tactic| specialize $t)=>`(tactic| with_reducible show $t)
local macro_rules | `(tactic| walk_at "t")=>`(tactic| repeat' first | ((specialize qY _ _ (gN _));exact A6 _) | ((specialize qY _ _ _);refine' aBo ?_) | ((specialize wX _ _ (aT _ _));refine' QS ?_ ?_) | ((specialize wX _ _ _);exact V0) | exact L8 (by decide) | exact GU | refine' QT ?_ | refine' L9 ?_ ?_ ?_ ?_ | exact QU | refine' gmono_tup ?_ | refine' GV ?_ ?_ | exact MB)
local macro_rules | `(tactic| walk_at "g")=>`(tactic| first | ((specialize List.Nodup _);assumption) | ((with_reducible show LE _ _ _);first | ((specialize LE (aW _ _ _ _ _ _ _ _ _) _ (uI _ _ _ _ _ _));refine' aAo _ _ ?a ?b ?r ?s ?_ ?g ?u ?v;(case a | b=>decide+kernel);(case r | s=>walk_at "t");(case g | u | v=>walk_at "h")) | ((specialize LE _ _ (uI _ _ _ _ _ _));refine' aAn _ _ ?a ?b ?r ?s ?_ ?g ?u ?v;(case a | b=>decide+kernel);(case r | s=>walk_at "t");(case g | u | v=>walk_at "h")) | ((specialize LE _ (.Name _ _) (aB _));exact aAh _) | ((specialize LE _ (.Constant (.int _) _ _) _);exact le_int) | ((specialize LE _ _ (aZ cM _ _));refine' XS ixl ?_ ?_ (λ_ _=>rfl)) | ((specialize LE _ (.BinOp _ _ _ _) _);refine' aF5 ?_ ?_ ?_) | ((specialize LE _ (.Tuple _ _ _) _);refine' aAi ?_) | ((specialize LE _ (.List _ _) _);refine' aAm ?_) | ((specialize LE _ (.Constant (.str _) _ _) _);exact le_str) | ((specialize LE _ _ (uH _ bO _ _));refine' QA PySem.F.plainAttrs_list PySem.F.slot_list_append PySem.F.type_list_append LD ?_ ?_) | ((specialize LE _ (.Call (.Name "len" _) _ _ _) (aD gK _));refine' xF aC1 B.len RI ?_) | ((specialize LE _ (.Call (.Name "tuple" _) _ _ _) (aD dZ _));refine' aF4 RF B.tuple EX ?_) | ((specialize LE _ (.Compare _ [_] [_] _) _);refine' aAp ?_ ?_ ?_ (aEp _)) | ((specialize LE _ (.Call (.Name "sorted" _) _ _ _) (aD h9 _));refine' xF (MM hr.units) B.sorted nS ?_) | ((specialize LE _ (.UnaryOp .USub _ _) _);refine' aF3 ?_ ?_) | ((specialize LE _ (.Call (.Name "isinstance" _) _ _ _) (aD wU _));refine' xF aC2 B.isinstance xS ?_) | ((specialize LE _ (.Constant (.bool _) _ _) _);exact aFa) | ((specialize LE _ (.Call (.Name "min" _) _ _ _) (aD wR _));refine' xF (V8 rfl) B.min aC9 ?_) | ((specialize LE _ (.Call (.Name "sorted" _) _ _ _) (aD nB _));refine' xF (HB hr.units) B.sorted nS ?_) | ((specialize LE _ (.Constant .none _ _) _);exact aAl) | ((specialize LE _ (.BoolOp _ [_] _) _);refine' aAj ?_) | ((specialize LE _ (.BoolOp .And (_::_::_) _) _);refine' aAq ?_ ?_) | ((specialize LE _ _ (mG _));refine' GI rfl B.list B.range ?_) | ((specialize LE _ (.Name "tuple" _) (wC _));exact JD B.tuple EX) | ((specialize LE _ _ (HZ));exact U7) | ((specialize LE _ (.Call (.Name "len" _) _ _ _) (aD KC _));refine' xF WB B.len RI ?_) | ((specialize LE _ _ (uJ _ _ _));refine' P7 hr.units ?_ ?_ ?_) | ((specialize LE _ (.Call (.Name "max" _) _ _ _) (aD E7 _));refine' xF (V9 rfl) B.max aCa ?_) | ((specialize LE _ (.Call (.Name "sorted" _) _ _ _) (aD wQ _));refine' xF (HC hr.units) B.sorted nS ?_) | ((specialize LE _ _ (SN false));exact U8) | ((specialize LE _ _ (IA _ _ _));refine' U9 hr.units ?_ ?_ ?_) | ((specialize LE _ _ (aZ Z3 _ _));refine' XS (ixD hr.units) ?_ ?_ (λ_ _=>rfl)) | ((specialize LE _ _ (wSl oSl _ _ _));refine' P5 sll ?_ ?_ ?_) | ((specialize LE _ _ (uH _ GD _ _));refine' QA PySem.F.plainAttrs_tuple PySem.F.slot_tuple_index PySem.F.type_tuple_index (O9 hr.units) ?_ ?_) | ((specialize LE _ (.IfExp _ _ _ _) _);refine' P6 ?_ ?_ ?_) | ((specialize LE _ (.Call (.Name "abs" _) _ _ _) (aD RO _));refine' xF aC5 B.abs aCc ?_) | ((specialize LE _ (.Name "int" _) (wC _));exact JD B.int RJ) | ((specialize LE _ (.Name "bool" _) (wC _));exact JD B.bool WJ) | ((specialize LE _ (.UnaryOp .Not _ _) _);refine' aAk ?_) | ((specialize LE _ _ (uH _ AM _ _));refine' QA PySem.F.plainAttrs_list PySem.F.slot_list_pop PySem.F.type_list_pop O8 ?_ ?_) | ((specialize LE _ (.Call (.Name "int" _) _ _ _) (aD aCg _));refine' aF4 aC3 B.int RJ ?_) | ((specialize LE _ _ (jA _));refine' xE hr.units rfl B.set B.sorted ?_) | ((specialize LE _ (.Name "str" _) (wC _));exact JD B.str aC7) | ((specialize LE _ (.Call (.Name "all" _) _ _ _) (aD RN _));refine' xF (aC4 rfl) B.all aCb ?_) | ((specialize LE _ (.Call (.Name _ _) _ _ _) (aD _ _));refine' aF8 (by assumption) hr ?_) | ((specialize LE _ (.Name _ _) (wC _));exact aF6 (by assumption))) | ((with_reducible show LS _ _ _);first | ((specialize LS _ (.Assign [.Name _ _] (.ListComp _ _ _ _) _) _);refine' LF _ _ ?a ?b ?r ?s (by assumption) ?_ ?g ?u ?v;(case a | b=>decide+kernel);(case r | s=>walk_at "t");(case g | u | v=>walk_at "h")) | ((specialize LS _ (.Assign [.Tuple _ _ _] _ _) (IB _ _ _));refine' aA8 rfl ?_ ?_ ?r;(case r=>walk_at "t")) | ((specialize LS _ (.Return (some _) _) _);refine' aAa ?_) | ((specialize LS _ (.If _ _ _ _) _);refine' aEx ?_ ?_ ?_) | ((specialize LS _ (.Expr _ _) _);refine' aIq ?_) | ((specialize LS _ (.For _ _ _ _ _) _);refine' aAe PassesOwn.never rfl ?_ ?_ ?r ?_;(case r=>walk_at "t")) | ((specialize LS _ (.While _ _ _ _) _);refine' PR PassesOwn.never ?_ ?_) | ((specialize LS _ (.Assign [.Tuple _ _ _] (.Tuple _ _ _) _) _);refine' aAb _ _ rfl (by assumption) ?_) | ((specialize LS _ (.Break _) _);exact PX) | ((specialize LS _ (.Raise _ _ _) _);exact PU) | ((specialize LS _ (.Assign [.Name _ _] _ _) _);refine' aIp _ ?_ ?_) | ((specialize LS _ (.Assign [.Subscript _ _ _] _ _) _);refine' UY ?_ ?_ ?_) | ((specialize LS _ (.Assign [.Tuple _ _ _] _ _) _);refine' aAf ?_ ?_ ?r;(case r=>walk_at "t")) | ((specialize LS _ (.Assign [.Subscript _ _ _] _ _) _);refine' UZ hr.units ?_ ?_ ?_)) | ((with_reducible show LI _ _ _ _);first | ((specialize LI _ _ _ (mF _));refine' LG rfl B.range ?_) | ((specialize LI _ _ _ (X5 _));refine' aF2 rfl B.enumerate ?_) | ((specialize LI _ _ _ (x4 _));refine' U4 rfl B.zip ?_) | ((specialize LI _ _ _ (e8 _));refine' aAg ?_)) | ((with_reducible show PG _ _ _);first | ((specialize PG _ (.Name _ _) _);exact SW _ (by assumption)) | ((specialize PG _ (.Tuple _ _ _) _);refine' ZA rfl ?_)) | ((with_reducible show SA _ _ _);first | ((specialize SA _ [] _);exact UU) | ((specialize SA _ [_] _);refine' UT ?_)) | ((with_reducible show LA _ _ _);first | ((specialize LA _ (_::_) _);refine' aIv ?_ ?_) | ((specialize LA _ [] _);exact aAv)) | ((with_reducible show jJ _ _ _);first | ((specialize jJ _ [_] _);refine' aAc ?_) | ((specialize jJ _ [] _);exact aAd) | ((specialize jJ _ (_::_) _);refine' U1 ?_ ?_)) | ((with_reducible show WV _ _ _);first | ((specialize WV _ (_::_) _);refine' OH ?_ ?_) | ((specialize WV _ [] _);exact T6)) | ((with_reducible show gE _ _ _);first | ((specialize gE _ _ (bT _ iT));exact ZZ) | ((specialize gE _ _ (bT _ oEq));exact aEn hr.units) | ((specialize gE _ _ (bT _ DD));exact aEm hr.units) | ((specialize gE _ _ (bT _ vE));exact ZW) | ((specialize gE _ _ (bT _ oMod));exact ZX) | ((specialize gE _ _ (bT _ K6));exact ZT) | ((specialize gE _ _ (bT _ oLt));exact aEk hr.units) | ((specialize gE _ _ (bT _ OR));exact ZU) | ((specialize gE _ _ (bT _ OT));exact ZV hr.units) | ((specialize gE _ _ (bT _ XI));exact aEj hr.units) | ((specialize gE _ _ (bT _ IT));exact UJ) | ((specialize gE _ _ (bT _ vD));exact UI) | ((specialize gE _ _ (bT _ Z4));exact ZY hr.units)) | ((with_reducible show LT _ _ _);first | ((specialize LT _ (.Compare _ [_] [_] _) _);refine' aA5 ?_ ?_ ?_ (aEp _)) | ((specialize LT _ (.UnaryOp .Not _ _) _);refine' aA4 ?_) | ((specialize LT _ (.BoolOp .Or _ _) _);refine' LW.lt (XM ?_ ?_)) | ((specialize LT _ (.BoolOp .And _ _) _);refine' LW.lt (aA3 ?_ ?_)) | ((specialize LT _ _ _);refine' PQ ?_)) | ((specialize UnR _ _ _);exact X8) | ((with_reducible show LO _ _ _);first | ((specialize LO _ none _);exact U3) | ((specialize LO _ (some _) _);refine' U2 ?_)) | ((with_reducible show LW _ _ _);first | ((specialize LW _ (.BoolOp .Or [_] _) _);refine' aA2 ?_) | ((specialize LW _ (.BoolOp .And [_] _) _);refine' US ?_) | ((specialize LW _ (.BoolOp .Or _ _) _);refine' XM ?_ ?_)))
local macro_rules | `(tactic| walk_at "h")=>`(tactic| (intros;repeat' walk_at "g"))
set_option hygiene true
section
variable {P:Program}{w:World}{K:aNm}{mg:aNp}{base:Heap}{k:Nat}
theorem sO:aN ["keys","numbers"] ["keys"] (aE fZ):=⟨rfl,rfl,rfl,by decide+kernel,rfl,by decide+kernel,by decide+kernel⟩
def pJ:WS:=(cK (aD dZ (aA (uI ["own"] [1] (e8 (aB 0)) (gN 0) lQ (aD dZ (aA (uI ["key"] [1] (e8 (aB 0)) (gN 0) lQ (uJ (aB 1) (aB 0) (aD KC (aA (aB 1) aC)))) aC))) aC)))
def kT:WS:=(aR (bG HZ (gN 1)) (pJ))
theorem GK(B:Bl mg):pH P w K mg base k "numbered" ["keys","numbers"] fZ (kT):=by
 intro f cdv A outer s H E hr;have nd:=sO.nd;show jJ _ (_::_) _
 repeat' walk_at "g"
theorem lK:aN ["some","names","name","net"] ["some"] (aE cW):=⟨rfl,rfl,rfl,by decide+kernel,rfl,by decide+kernel,by decide+kernel⟩
def iV:WS:=(e9 (uH "list" bO (aZ cM (aB 1) (aB 3)) (aA (aB 2) aC)))
def jV:WS:=(cK (uI ["own"] [] (e8 (aB 1)) (gN 0) lQ (aD dZ (aA (aB 0) aC))))
def jW:WS:=(aR (nV (e8 (aZ cM (aB 0) (wC (.int 1)))) (gT 2 (aT (gN 2) (aT (gN 3) fJ))) (iV)) (jV))
def eV:WS:=(aR (bG (uI ["net"] [] (mF (aA (aZ cM (aB 0) (wC (.int 0))) aC)) (gN 0) lQ (gI aC)) (gN 1)) (jW))
theorem vL(B:Bl mg):pH P w K mg base k "names_by_net" ["some","names","name","net"] cW (eV):=by
 intro f cdv A outer s H E hr;have nd:=lK.nd;show jJ _ (_::_) _
 repeat' walk_at "g"
theorem lL:aN ["some","hooks","sort","gate","one","other","width","length"] ["some"] (aE cX):=⟨rfl,rfl,rfl,by decide+kernel,rfl,by decide+kernel,by decide+kernel⟩
def gP:WS:=(e9 (uH "list" bO (aZ cM (aB 1) (aB 5)) (aA (cV (aA (cV (aA (aB 2) (aA (aB 6) (aA (aB 7) (aA (wC (.int 1)) aC))))) (aA (aB 3) (aA (aB 4) aC)))) aC)))
def gQ:WS:=(aR (e9 (uH "list" bO (aZ cM (aB 1) (aB 4)) (aA (cV (aA (cV (aA (aB 2) (aA (aB 6) (aA (aB 7) (aA (wC (.int 1)) aC))))) (aA (aB 3) (aA (aB 5) aC)))) aC))) (gP))
def iW:WS:=(aR (e9 (uH "list" bO (aZ cM (aB 1) (aB 3)) (aA (cV (aA (cV (aA (aB 2) (aA (aB 6) (aA (aB 7) (aA (wC (.int 0)) aC))))) (aA (aB 4) (aA (aB 5) aC)))) aC))) (gQ))
def jX:WS:=(cK (aB 1))
def jY:WS:=(aR (nV (e8 (aZ cM (aB 0) (wC (.int 2)))) (gT 6 (aT (gN 2) (aT (gN 3) (aT (gN 4) (aT (gN 5) (aT (gN 6) (aT (gN 7) fJ))))))) (iW)) (jX))
def eX:WS:=(aR (bG (uI ["net"] [] (mF (aA (aZ cM (aB 0) (wC (.int 0))) aC)) (gN 0) lQ (gI aC)) (gN 1)) (jY))
theorem vM(B:Bl mg)(nR:qX K mg "AT_GATE" (.int 0))(EW:qX K mg "AT_END" (.int 1)):pH P w K mg base k "hooks_by_net" ["some","hooks","sort","gate","one","other","width","length"] cX (eX):=by
 intro f cdv A outer s H E hr;have nd:=lL.nd;show jJ _ (_::_) _
 repeat' walk_at "g"
theorem uX:aN ["hook","own","fixed","one","other","left","right"] ["hook","own"] (aE iL):=⟨rfl,rfl,rfl,by decide+kernel,rfl,by decide+kernel,by decide+kernel⟩
def lT:WS:=(cK (cV (aA (aB 2) (aA (aB 5) (aA (aB 6) aC)))))
def sI:WS:=(aR (g9 (eO (aZ oEq (aZ cM (aB 2) (wC (.int 3))) (wC (.int 0)))) (bG (cV (aA (aD wR (aA (aB 5) (aA (aB 6) aC))) (aA (aD E7 (aA (aB 5) (aA (aB 6) aC))) aC))) (gT 2 (aT (gN 5) (aT (gN 6) fJ)))) dA) (lT))
def sJ:WS:=(aR (bG (cV (aA (aZ cM (aB 1) (aB 3)) (aA (aZ cM (aB 1) (aB 4)) aC))) (gT 2 (aT (gN 5) (aT (gN 6) fJ)))) (sI))
def nF:WS:=(aR (bG (aB 0) (gT 3 (aT (gN 2) (aT (gN 3) (aT (gN 4) fJ))))) (sJ))
theorem LM(B:Bl mg)(nR:qX K mg "AT_GATE" (.int 0)):pH P w K mg base k "telling" ["hook","own","fixed","one","other","left","right"] iL (nF):=by
 intro f cdv A outer s H E hr;have nd:=uX.nd;show jJ _ (_::_) _
 repeat' walk_at "g"
theorem mO:aN ["one","other"] ["one","other"] (aE dC):=⟨rfl,rfl,rfl,by decide+kernel,rfl,by decide+kernel,by decide+kernel⟩
def fQ(a s1:OA):WS:=(cK (aD a (aA (gI (aA (aD s1 (aA (aB 0) aC)) (aA (aD s1 (aA (aB 1) aC)) aC))) aC)))
variable{s0 s1:OA}
theorem xH(B:Bl mg)(fM:Fn P w K mg base k "numbered" ["keys"] s0)(m5:Fn P w K mg base k "names_by_net" ["some"] s1):pH P w K mg base k "first_marks" ["one","other"] dC (fQ s0 s1):=by
 intro f cdv A outer s H E hr;have nd:=mO.nd;show jJ _ (_::_) _
 repeat' walk_at "g"
theorem oG:aN ["sides","marked","keys","hooks","own"] ["sides","marked"] (aE d7):=⟨rfl,rfl,rfl,by decide+kernel,rfl,by decide+kernel,by decide+kernel⟩
def gF(s0 s1:OA):WS:=(e9 (uH "list" bO (aB 2) (aA (uI ["net"] [4,3] (mF (aA (aD gK (aA (aB 4) aC)) aC)) (gN 0) lQ (cV (aA (aZ cM (aB 1) (aB 0)) (aA (aD dZ (aA (aD wQ (aA (uI ["hook"] [1] (e8 (aZ cM (aB 2) (aB 0))) (gN 0) lQ (aD s0 (aA (aB 0) (aA (aB 1) aC)))) aC)) aC)) aC)))) aC)))
def lU(s0 s1:OA):WS:=(cK (aD s1 (aA (aB 2) aC)))
def lV(s0 s1:OA):WS:=(aR (nV (x4 (aA (aB 0) (aA (aB 1) aC))) (gT 2 (aT (gN 3) (aT (gN 4) fJ))) (gF s0 s1)) (lU s0 s1))
def gV(s0 s1:OA):WS:=(aR (bG (gI aC) (gN 2)) (lV s0 s1))
theorem AO(B:Bl mg)(y6:Fn P w K mg base k "telling" ["hook","own"] s0)(fM:Fn P w K mg base k "numbered" ["keys"] s1):pH P w K mg base k "next_marks" ["sides","marked","keys","hooks","own"] d7 (gV s0 s1):=by
 intro f cdv A outer s H E hr;have nd:=oG.nd;show jJ _ (_::_) _
 repeat' walk_at "g"
theorem sN:aN ["one","other"] ["one","other"] (aE fY):=⟨rfl,rfl,rfl,by decide+kernel,rfl,by decide+kernel,by decide+kernel⟩
def kS(s0:OA):WS:=(cK (cV (aA (aD s0 (aA (aB 0) aC)) (aA (aD s0 (aA (aB 1) aC)) aC))))
theorem GJ(B:Bl mg)(m6:Fn P w K mg base k "hooks_by_net" ["some"] s0):pH P w K mg base k "sides_of" ["one","other"] fY (kS s0):=by
 intro f cdv A outer s H E hr;have nd:=sN.nd;show jJ _ (_::_) _
 repeat' walk_at "g"
theorem oI:aN ["marked"] ["marked"] (aE d9):=⟨rfl,rfl,rfl,by decide+kernel,rfl,by decide+kernel,by decide+kernel⟩
def gX:WS:=(cK (aZ OT (aD nB (aA (aZ cM (aB 0) (wC (.int 0))) aC)) (aD nB (aA (aZ cM (aB 0) (wC (.int 1))) aC))))
theorem AR(B:Bl mg):pH P w K mg base k "are_parted" ["marked"] d9 (gX):=by
 intro f cdv A outer s H E hr;have nd:=oI.nd;show jJ _ (_::_) _
 repeat' walk_at "g"
theorem sP:aN ["sides","first","told","following"] ["sides","first"] (aE f6):=⟨rfl,rfl,rfl,by decide+kernel,rfl,by decide+kernel,by decide+kernel⟩
def lE(s0 s1:OA):WS:=(e9 (uH "list" bO (aB 2) (aA (aB 3) aC)))
def lF(s0 s1:OA):WS:=(aR (g9 (eO (aZ oEq (aB 3) (aZ cM (aB 2) (RX xC (wC (.int 1)))))) X6 dA) (lE s0 s1))
def jL(s0 s1:OA):WS:=(aR (bG (aD s1 (aA (aB 0) (aA (aZ cM (aB 2) (RX xC (wC (.int 1)))) aC))) (gN 3)) (lF s0 s1))
def dO(s0 s1:OA):WS:=(cK (aB 2))
def pK(s0 s1:OA):WS:=(aR (q5 (j8 (o5 (aD s0 (aA (aZ cM (aB 2) (RX xC (wC (.int 1)))) aC)))) (jL s0 s1)) (dO s0 s1))
def kU(s0 s1:OA):WS:=(aR (bG (gI (aA (aB 1) aC)) (gN 2)) (pK s0 s1))
theorem GL(B:Bl mg)(dR:Fn P w K mg base k "are_parted" ["marked"] s0)(qJ:Fn P w K mg base k "next_marks" ["sides","marked"] s1):pH P w K mg base k "marks_on" ["sides","first","told","following"] f6 (kU s0 s1):=by
 intro f cdv A outer s H E hr;have nd:=sP.nd;show jJ _ (_::_) _
 repeat' walk_at "g"
theorem pW:aN ["first","net","other_net","keys","own","named"] ["first","net","other_net"] (aE fA):=⟨rfl,rfl,rfl,by decide+kernel,rfl,by decide+kernel,by decide+kernel⟩
def iF(s0:OA):WS:=(e9 (uH "list" bO (aB 3) (aA (uI ["number","mark"] [5] (X5 (aA (aB 4) aC)) (gT 2 (aT (gN 0) (aT (gN 1) fJ))) lQ (cV (aA (aB 1) (aA (aZ oEq (aB 0) (aB 2)) aC)))) aC)))
def nY(s0:OA):WS:=(cK (aD s0 (aA (aB 3) aC)))
def nZ(s0:OA):WS:=(aR (nV (x4 (aA (aB 0) (aA (cV (aA (aB 1) (aA (aB 2) aC))) aC))) (gT 2 (aT (gN 4) (aT (gN 5) fJ))) (iF s0)) (nY s0))
def iU(s0:OA):WS:=(aR (bG (gI aC) (gN 3)) (nZ s0))
theorem DZ(B:Bl mg)(fM:Fn P w K mg base k "numbered" ["keys"] s0):pH P w K mg base k "with_name" ["first","net","other_net","keys","own","named"] fA (iU s0):=by
 intro f cdv A outer s H E hr;have nd:=pW.nd;show jJ _ (_::_) _
 repeat' walk_at "g"
theorem oH:aN ["own","many","mark"] ["own"] (aE d8):=⟨rfl,rfl,rfl,by decide+kernel,rfl,by decide+kernel,by decide+kernel⟩
def lD:WS:=(NI (aZ iT (IA (aB 1) (aB 2) (wC (.int 0))) (wC (.int 1))) (aB 1) (aB 2))
def lW:WS:=(cK (uI ["net","mark"] [1] (X5 (aA (aB 0) aC)) (gT 2 (aT (gN 0) (aT (gN 1) fJ))) (eO (aZ DD (aZ Z3 (aB 2) (aB 1)) (wC (.int 1)))) (aB 0)))
def lX:WS:=(aR (nV (e8 (aB 0)) (gN 2) (lD)) (lW))
def gW:WS:=(aR (bG (SN false) (gN 1)) (lX))
theorem AQ(B:Bl mg):pH P w K mg base k "nets_alike" ["own","many","mark"] d8 (gW):=by
 intro f cdv A outer s H E hr;have nd:=oH.nd;show jJ _ (_::_) _
 repeat' walk_at "g"
theorem jC:aN ["told","net","other_net","rounds","marked"] ["told","net","other_net"] (aE cE):=⟨rfl,rfl,rfl,by decide+kernel,rfl,by decide+kernel,by decide+kernel⟩
def gO:WS:=(g9 (eO (aZ XI (aZ cM (aZ cM (aB 4) (wC (.int 0))) (aB 1)) (aZ cM (aZ cM (aB 4) (wC (.int 1))) (aB 2)))) (cK (aB 3)) dA)
def iH:WS:=(cK (wC .bY))
def dN:WS:=(aR (nV (X5 (aA (wSl oSl (aB 0) wNo (HX (wC (.int 2)))) aC)) (gT 2 (aT (gN 3) (aT (gN 4) fJ))) (gO)) (iH))
theorem rL(B:Bl mg):pH P w K mg base k "rounds_to_part" ["told","net","other_net","rounds","marked"] cE (dN):=by
 intro f cdv A outer s H E hr;have nd:=jC.nd;show jJ _ (_::_) _
 repeat' walk_at "g"
theorem mN:aN ["one","other"] ["one","other"] (aE dB):=⟨rfl,rfl,rfl,by decide+kernel,rfl,by decide+kernel,by decide+kernel⟩
def fP:WS:=(cK (CI (aZ oEq (aZ cM (aB 0) (wC (.int 0))) (aZ cM (aB 1) (wC (.int 0)))) (aZ oEq (aD gK (aA (aZ cM (aB 0) (wC (.int 2))) aC)) (aD gK (aA (aZ cM (aB 1) (wC (.int 2))) aC)))))
theorem xG(B:Bl mg):pH P w K mg base k "is_as_great" ["one","other"] dB (fP):=by
 intro f cdv A outer s H E hr;have nd:=mN.nd;show jJ _ (_::_) _
 repeat' walk_at "g"
theorem uW:aN ["sides","told","last","alike","papers","net","paper"] ["sides","told"] (aE iK):=⟨rfl,rfl,rfl,by decide+kernel,rfl,by decide+kernel,by decide+kernel⟩
def lR(s0 s1 s2:OA):WS:=(e9 (uH "list" bO (aB 4) (aA (aB 6) aC)))
def iG(s0 s1 s2:OA):WS:=(aR (g9 (eO (aZ oEq (aZ cM (aB 6) (wC (.int 0))) (wC (.str "one")))) (cK (aB 6)) dA) (lR s0 s1 s2))
def pI(s0 s1 s2:OA):WS:=(aR (bG (aD s2 (aA (aB 0) (aA (aB 1) (aA (aZ cM (aB 3) (wC (.int 0))) (aA (aB 5) aC))))) (gN 6)) (iG s0 s1 s2))
def sD(s0 s1 s2:OA):WS:=(cK (cV (aA (wC (.str "tries")) (aA (aZ cM (aB 3) (wC (.int 0))) (aA (aD dZ (aA (aB 4) aC)) aC)))))
def lS(s0 s1 s2:OA):WS:=(aR (nV (mF (aA (aD gK (aA (aZ cM (aB 2) (wC (.int 1))) aC)) aC)) (gN 5) (pI s0 s1 s2)) (sD s0 s1 s2))
def sE(s0 s1 s2:OA):WS:=(aR (bG (gI aC) (gN 4)) (lS s0 s1 s2))
def sF(s0 s1 s2:OA):WS:=(aR (g9 (j8 (o5 (aB 3))) (cK (cV (aA (wC (.str "one")) (aA (aD dZ (aA (uI ["mark"] [2] (e8 (aZ cM (aB 2) (wC (.int 0)))) (gN 0) lQ (uH "tuple" GD (aZ cM (aB 1) (wC (.int 1))) (aA (aB 0) aC))) aC)) aC)))) dA) (sE s0 s1 s2))
def sG(s0 s1 s2:OA):WS:=(aR (bG (aD s1 (aA (aZ cM (aB 2) (wC (.int 0))) aC)) (gN 3)) (sF s0 s1 s2))
def sH(s0 s1 s2:OA):WS:=(aR (g9 (o5 (aD s0 (aA (aB 2) aC))) (cK (cV (aA (wC (.str "marks")) (aA (aZ K6 (aD gK (aA (aB 1) aC)) (wC (.int 1))) aC)))) dA) (sG s0 s1 s2))
def nE(s0 s1 s2:OA):WS:=(aR (bG (aZ cM (aB 1) (RX xC (wC (.int 1)))) (gN 2)) (sH s0 s1 s2))
variable{s2:OA}
theorem LK(B:Bl mg)(dR:Fn P w K mg base k "are_parted" ["marked"] s0)(hX:Fn P w K mg base k "nets_alike" ["own"] s1)(J1:Fn P w K mg base k "tried" ["sides","told","net","other_net"] s2):pH P w K mg base k "weighed" ["sides","told","last","alike","papers","net","paper"] iK (nE s0 s1 s2):=by
 intro f cdv A outer s H E hr;have nd:=uW.nd;show jJ _ (_::_) _
 repeat' walk_at "g"
theorem CU:aN ["sides","told","net","other_net","rounds"] ["sides","told","net","other_net"] (aE mL):=⟨rfl,rfl,rfl,by decide+kernel,rfl,by decide+kernel,by decide+kernel⟩
def x3(s0 s1 s2 a:OA):WS:=(cK (aD s1 (aA (aB 0) (aA (aD s2 (aA (aB 0) (aA (aD a (aA (aZ cM (aB 1) (wC (.int 0))) (aA (aB 2) (aA (aB 3) aC)))) aC))) aC))))
def qZ(s0 s1 s2 a:OA):WS:=(aR (g9 (eO (aZ vD (aB 4) (wC .bY))) (cK (cV (aA (wC (.str "marks")) (aA (aB 4) aC)))) dA) (x3 s0 s1 s2 a))
def tU(s0 s1 s2 a:OA):WS:=(aR (bG (aD s0 (aA (aB 1) (aA (aB 2) (aA (aB 3) aC)))) (gN 4)) (qZ s0 s1 s2 a))
theorem VE(B:Bl mg)(kJ:Fn P w K mg base k "rounds_to_part" ["told","net","other_net"] s0)(nM:Fn P w K mg base k "weighed" ["sides","told"] s1)(k9:Fn P w K mg base k "marks_on" ["sides","first"] s2){s3:OA}(sY:Fn P w K mg base k "with_name" ["first","net","other_net"] s3):pH P w K mg base k "tried" ["sides","told","net","other_net","rounds"] mL (tU s0 s1 s2 s3):=by
 intro f cdv A outer s H E hr;have nd:=CU.nd;show jJ _ (_::_) _
 repeat' walk_at "g"
theorem IL:aN ["one","other","sides","told","paper"] ["one","other"] (aE pU):=⟨rfl,rfl,rfl,by decide+kernel,rfl,by decide+kernel,by decide+kernel⟩
def CD(s0 s1 s2 a b c d:OA):WS:=(cK (wIf (eO (aZ oEq (aZ cM (aB 4) (wC (.int 0))) (wC (.str "one")))) (aB 4) (cV (aA (wC (.str "two")) (aA (aB 4) aC)))))
def uG(s0 s1 s2 b c d a:OA):WS:=(aR (bG (aD a (aA (aB 2) (aA (aB 3) aC))) (gN 4)) (CD s0 s1 s2 b c d a))
def CF(s0 s1 s2 c a b d:OA):WS:=(aR (g9 (IC (j8 (o5 (aD a (aA (aZ cM (aB 3) (RX xC (wC (.int 1)))) aC)))) (eO (aZ DD (aD gK (aA (aD b (aA (aZ cM (aZ cM (aB 3) (RX xC (wC (.int 1)))) (wC (.int 0))) aC)) aC)) (wC (.int 8))))) NJ dA) (uG s0 s1 s2 c a b d))
def CG(s0 s1 s2 a b c d:OA):WS:=(aR (bG (aD s2 (aA (aB 2) (aA (aD a (aA (aB 0) (aA (aB 1) aC))) aC))) (gN 3)) (CF s0 s1 s2 a b c d))
def CH(s0 s1 s2 a b c d:OA):WS:=(aR (bG (aD s1 (aA (aB 0) (aA (aB 1) aC))) (gN 2)) (CG s0 s1 s2 a b c d))
def zM(s0 s1 s2 a b c d:OA):WS:=(aR (g9 (j8 (o5 (aD s0 (aA (aB 0) (aA (aB 1) aC))))) (cK (cV (aA (wC (.str "two")) (aA (cV (aA (wC (.str "marks")) (aA (wC (.int 0)) aC))) aC)))) dA) (CH s0 s1 s2 a b c d))
theorem aAw(B:Bl mg)(oS:Fn P w K mg base k "is_as_great" ["one","other"] s0)(vZ:Fn P w K mg base k "sides_of" ["one","other"] s1)(k9:Fn P w K mg base k "marks_on" ["sides","first"] s2){s3:OA}(oT:Fn P w K mg base k "first_marks" ["one","other"] s3){s4:OA}(dR:Fn P w K mg base k "are_parted" ["marked"] s4){s5:OA}(hX:Fn P w K mg base k "nets_alike" ["own"] s5){s6:OA}(nM:Fn P w K mg base k "weighed" ["sides","told"] s6)(qQ:qX K mg "MOST_ALIKE" (.int 8)):pH P w K mg base k "held" ["one","other","sides","told","paper"] pU (zM s0 s1 s2 s3 s4 s5 s6):=by
 intro f cdv A outer s H E hr;have nd:=IL.nd;show jJ _ (_::_) _
 repeat' walk_at "g"
theorem sQ:aN ["_law_script","_law_at","_law_cell","_law_mix","_law_k"] ["_law_script","_law_at"] (aE f7):=⟨rfl,rfl,rfl,by decide+kernel,rfl,by decide+kernel,by decide+kernel⟩
def oE:WS:=(bG (aZ oMod (aZ OR (aZ iT (aZ iT (aZ vE (aB 3) (wC (.int 48271))) (aZ oMod (aZ cM (aB 0) (aB 4)) (wC (.int 2147483647)))) (aZ vE (aB 4) (aB 4))) (wC (.int 5))) (wC (.int 2147483629))) (gN 3))
def pL:WS:=(cK (gI (aA (aB 2) (aA (aB 3) aC))))
def kW:WS:=(aR (g9 (eO (aZ oLt (aB 2) (aZ OR (wC (.int 10)) (wC (.int 18))))) (bG (wC (.int 0)) (gN 2)) dA) (pL))
def pM:WS:=(aR (nV (mF (aA (aD wR (aA (aD gK (aA (aB 0) aC)) (aA (wC (.int 60)) aC))) aC)) (gN 4) (oE)) (kW))
def kX:WS:=(aR (bG (aZ iT (aZ iT (aZ vE (aZ vE (wC (.int 7919)) (aB 1)) (aB 1)) (aZ vE (wC (.int 104729)) (aB 1))) (wC (.int 17))) (gN 3)) (pM))
def pN:WS:=(aR (g9 (eO (aZ oLt (aB 1) (aD gK (aA (aB 0) aC)))) (bG (aD RO (aA (aZ cM (aB 0) (aB 1)) aC)) (gN 2)) dA) (kX))
def kY:WS:=(aR (bG (wC (.int 0)) (gN 2)) (pN))
theorem GN(B:Bl mg):pH P w K mg base k "_law_bag" ["_law_script","_law_at","_law_cell","_law_mix","_law_k"] f7 (kY):=by
 intro f cdv A outer s H E hr;have nd:=sQ.nd;show jJ _ (_::_) _
 repeat' walk_at "g"
theorem pY:aN ["_law_bag_here","_law_many","_law_digit","_law_number_here","_law_room"] ["_law_bag_here","_law_many"] (aE fC):=⟨rfl,rfl,rfl,by decide+kernel,rfl,by decide+kernel,by decide+kernel⟩
def jZ:WS:=(bG (aZ vE (aB 4) (wC (.int 1073741789))) (gN 4))
def j3:WS:=(aR (bG (aZ iT (aZ vE (aB 3) (wC (.int 1073741789))) (aZ oMod (aZ vE (aZ IT (aZ cM (aB 0) (wC (.int 1))) (wC (.int 8))) (wC (.int 69621))) (wC (.int 1073741789)))) (gN 3)) (jZ))
def lY:WS:=(aR (HW (aZ oMod (aZ OR (aZ iT (aZ vE (aZ cM (aB 0) (wC (.int 1))) (wC (.int 48271))) (wC (.int 7919))) (wC (.int 5))) (wC (.int 2147483629))) (aB 0) (wC (.int 1))) (j3))
def jM:WS:=(cK (aZ oMod (aB 3) (aB 1)))
def n6:WS:=(aR (q5 (eO (aZ oLt (aB 4) (aB 1))) (lY)) (jM))
def n8:WS:=(aR (bG (wC (.int 1)) (gN 4)) (n6))
def n9:WS:=(aR (bG (wC (.int 0)) (gN 3)) (n8))
def iY:WS:=(aR (g9 (eO (aZ DD (aZ cM (aB 0) (wC (.int 0))) (wC (.int 0)))) (aR (bG (aZ oMod (aZ cM (aB 0) (wC (.int 0))) (aB 1)) (gN 2)) (aR (HW (aZ IT (aZ cM (aB 0) (wC (.int 0))) (aB 1)) (aB 0) (wC (.int 0))) (cK (aB 2)))) dA) (n9))
theorem D1(B:Bl mg):pH P w K mg base k "_law_take" ["_law_bag_here","_law_many","_law_digit","_law_number_here","_law_room"] fC (iY):=by
 intro f cdv A outer s H E hr;have nd:=pY.nd;show jJ _ (_::_) _
 repeat' walk_at "g"
theorem mQ:aN ["_law_thing"] ["_law_thing"] (aE dE):=⟨rfl,rfl,rfl,by decide+kernel,rfl,by decide+kernel,by decide+kernel⟩
def fT:WS:=(cK (CI (aD wU (aA (aB 0) (aA (wC (.ty "int")) aC))) (HY (aD wU (aA (aB 0) (aA (wC (.ty "bool")) aC))))))
theorem xJ(B:Bl mg):pH P w K mg base k "_law_number" ["_law_thing"] dE (fT):=by
 intro f cdv A outer s H E hr;have nd:=mQ.nd;show jJ _ (_::_) _
 repeat' walk_at "g"
theorem oM:aN ["_law_bag_here","_law_many","_law_left","_law_found"] ["_law_bag_here","_law_many"] (aE eC):=⟨rfl,rfl,rfl,by decide+kernel,rfl,by decide+kernel,by decide+kernel⟩
def gH(s0:OA):WS:=(e9 (uH "list" bO (aB 3) (aA (uH "list" AM (aB 2) (aA (aD s0 (aA (aB 0) (aA (aD gK (aA (aB 2) aC)) aC))) aC)) aC)))
def iJ(s0:OA):WS:=(cK (aB 3))
def mB(s0:OA):WS:=(aR (q5 (eO (aZ DD (aD gK (aA (aB 2) aC)) (wC (.int 0)))) (gH s0)) (iJ s0))
def mC(s0:OA):WS:=(aR (bG (gI aC) (gN 3)) (mB s0))
def g7(s0:OA):WS:=(aR (bG (mG (aA (aB 1) aC)) (gN 2)) (mC s0))
theorem AV(B:Bl mg)(b6:Fn P w K mg base k "_law_take" ["_law_bag_here","_law_many"] s0):pH P w K mg base k "_law_order" ["_law_bag_here","_law_many","_law_left","_law_found"] eC (g7 s0):=by
 intro f cdv A outer s H E hr;have nd:=oM.nd;show jJ _ (_::_) _
 repeat' walk_at "g"
theorem mP:aN ["_law_bag_here","_law_many","_law_easy","_law_sort","_law_tips","_law_kind"] ["_law_bag_here","_law_many","_law_easy"] (aE dD):=⟨rfl,rfl,rfl,by decide+kernel,rfl,by decide+kernel,by decide+kernel⟩
def gG(s0:OA):WS:=(cK (cV (aA (aB 3) (aA (aD s0 (aA (aB 0) (aA (aB 1) aC))) (aA (aZ cM (aB 4) (wC (.int 0))) (aA (aZ cM (aB 4) (wC (.int 1))) (aA (aZ cM (gI (aA (wC (.int 6)) (aA (wC (.int 2)) (aA (wC (.int 6)) (aA (wC (.int 3)) aC))))) (aB 5)) (aA (aZ cM (gI (aA (wC (.int 2)) (aA (wC (.int 6)) (aA (wC (.int 6)) (aA (wC (.int 4)) aC))))) (aB 5)) aC))))))))
def lG(s0:OA):WS:=(aR (bG (aZ cM (gI (aA (wC (.int 0)) (aA (aD s0 (aA (aB 0) (aA (wC (.int 4)) aC))) aC))) (aD aCg (aA (aZ DD (aB 2) (wC (.int 0))) aC))) (gN 5)) (gG s0))
def lH(s0:OA):WS:=(aR (bG (aD h9 (aA (gI (aA (aD s0 (aA (aB 0) (aA (aB 1) aC))) (aA (aD s0 (aA (aB 0) (aA (aB 1) aC))) aC))) aC)) (gN 4)) (lG s0))
def fR(s0:OA):WS:=(aR (bG (aZ cM (wC (.str "np")) (aD s0 (aA (aB 0) (aA (wC (.int 2)) aC)))) (gN 3)) (lH s0))
theorem xI(B:Bl mg)(b6:Fn P w K mg base k "_law_take" ["_law_bag_here","_law_many"] s0):pH P w K mg base k "_law_switch" ["_law_bag_here","_law_many","_law_easy","_law_sort","_law_tips","_law_kind"] dD (fR s0):=by
 intro f cdv A outer s H E hr;have nd:=mP.nd;show jJ _ (_::_) _
 repeat' walk_at "g"
theorem pZ:aN ["_law_bag_here","_law_most","_law_wires","_law_easy","_law_many","_law_names","_law_name","_law_kind","_law_switches"] ["_law_bag_here","_law_most","_law_wires"] (aE fD):=⟨rfl,rfl,rfl,by decide+kernel,rfl,by decide+kernel,by decide+kernel⟩
def fK(s0 s1:OA):WS:=(g9 (eO (aZ oEq (aB 7) (wC (.int 1)))) (e9 (uH "list" bO (aB 5) (aA (cV (aA (aB 6) (aA (aD s0 (aA (aB 0) (aA (aB 4) aC))) aC))) aC))) dA)
def j4(s0 s1:OA):WS:=(aR (g9 (eO (aZ DD (aB 7) (wC (.int 0)))) (e9 (uH "list" bO (aB 5) (aA (cV (aA (aB 6) (aA (aD s0 (aA (aB 0) (aA (aB 4) aC))) aC))) aC))) dA) (fK s0 s1))
def lZ(s0 s1:OA):WS:=(aR (bG (aD s0 (aA (aB 0) (aA (wC (.int 8)) aC))) (gN 7)) (j4 s0 s1))
def jN(s0 s1:OA):WS:=(cK (cV (aA (aB 4) (aA (aD dZ (aA (jA (aB 5)) aC)) (aA (aD dZ (aA (aD h9 (aA (aB 8) aC)) aC)) aC)))))
def oA(s0 s1:OA):WS:=(aR (g9 (IC (eO (aZ DD (aD gK (aA (aB 8) aC)) (wC (.int 0)))) (eO (aZ oEq (aD s0 (aA (aB 0) (aA (wC (.int 4)) aC))) (wC (.int 1))))) (e9 (uH "list" bO (aB 8) (aA (aZ cM (aB 8) (aD s0 (aA (aB 0) (aA (aD gK (aA (aB 8) aC)) aC)))) aC))) dA) (jN s0 s1))
def fS(s0 s1:OA):WS:=(aR (bG (uI ["_law_turn"] [0,4,3] (mF (aA (aD s0 (aA (aB 0) (aA (aZ iT (aB 2) (wC (.int 1))) aC))) aC)) (gN 0) lQ (aD s1 (aA (aB 1) (aA (aB 2) (aA (aB 3) aC))))) (gN 8)) (oA s0 s1))
def oB(s0 s1:OA):WS:=(aR (nV (e8 (gI (aA (wC (.str "a")) (aA (wC (.str "b")) (aA (wC (.str "c")) (aA (wC (.str "down")) (aA (wC (.str "out")) (aA (wC (.str "up")) aC)))))))) (gN 6) (lZ s0 s1)) (fS s0 s1))
def oC(s0 s1:OA):WS:=(aR (bG (gI aC) (gN 5)) (oB s0 s1))
def oD(s0 s1:OA):WS:=(aR (bG (aZ iT (wC (.int 1)) (aD s0 (aA (aB 0) (aA (aB 1) aC)))) (gN 4)) (oC s0 s1))
def iZ(s0 s1:OA):WS:=(aR (bG (aD s0 (aA (aB 0) (aA (wC (.int 3)) aC))) (gN 3)) (oD s0 s1))
theorem D2(B:Bl mg)(b6:Fn P w K mg base k "_law_take" ["_law_bag_here","_law_many"] s0)(oU:Fn P w K mg base k "_law_switch" ["_law_bag_here","_law_many","_law_easy"] s1):pH P w K mg base k "_law_some" ["_law_bag_here","_law_most","_law_wires","_law_easy","_law_many","_law_names","_law_name","_law_kind","_law_switches"] fD (iZ s0 s1):=by
 intro f cdv A outer s H E hr;have nd:=pZ.nd;show jJ _ (_::_) _
 repeat' walk_at "g"
theorem lN:aN ["_law_some_here","_law_order_here","_law_names","_law_switches","_law_sort","_law_gate","_law_one","_law_other","_law_width","_law_length","_law_low","_law_high"] ["_law_some_here","_law_order_here"] (aE cY):=⟨rfl,rfl,rfl,by decide+kernel,rfl,by decide+kernel,by decide+kernel⟩
def gR:WS:=(e9 (uH "list" bO (aB 3) (aA (cV (aA (aB 4) (aA (aZ cM (aB 1) (aB 5)) (aA (aB 10) (aA (aB 11) (aA (aB 8) (aA (aB 9) aC))))))) aC)))
def i7:WS:=(aR (IB (aD h9 (aA (gI (aA (aZ cM (aB 1) (aB 6)) (aA (aZ cM (aB 1) (aB 7)) aC))) aC)) 2 (aT (gN 10) (aT (gN 11) fJ))) (gR))
def j5:WS:=(cK (cV (aA (aZ cM (aB 0) (wC (.int 0))) (aA (aD dZ (aA (aB 2) aC)) (aA (aD dZ (aA (aD h9 (aA (aB 3) aC)) aC)) aC)))))
def j6:WS:=(aR (nV (e8 (aZ cM (aB 0) (wC (.int 2)))) (gT 6 (aT (gN 4) (aT (gN 5) (aT (gN 6) (aT (gN 7) (aT (gN 8) (aT (gN 9) fJ))))))) (i7)) (j5))
def j7:WS:=(aR (bG (gI aC) (gN 3)) (j6))
def eY:WS:=(aR (bG (aD h9 (aA (uI ["_law_name","_law_net"] [1] (e8 (aZ cM (aB 0) (wC (.int 1)))) (gT 2 (aT (gN 0) (aT (gN 1) fJ))) lQ (cV (aA (aB 0) (aA (aZ cM (aB 2) (aB 1)) aC)))) aC)) (gN 2)) (j7))
theorem vN(B:Bl mg):pH P w K mg base k "_law_renamed" ["_law_some_here","_law_order_here","_law_names","_law_switches","_law_sort","_law_gate","_law_one","_law_other","_law_width","_law_length","_law_low","_law_high"] cY (eY):=by
 intro f cdv A outer s H E hr;have nd:=lN.nd;show jJ _ (_::_) _
 repeat' walk_at "g"
theorem oJ:aN ["_law_wheels","_law_more","_law_many","_law_switches","_law_size","_law_k","_law_tips"] ["_law_wheels","_law_more"] (aE eA):=⟨rfl,rfl,rfl,by decide+kernel,rfl,by decide+kernel,by decide+kernel⟩
def i5:WS:=(e9 (uH "list" bO (aB 3) (aA (cV (aA (wC (.str "n")) (aA (wC (.int 0)) (aA (aZ cM (aB 6) (wC (.int 0))) (aA (aZ cM (aB 6) (wC (.int 1))) (aA (wC (.int 6)) (aA (wC (.int 2)) aC))))))) aC)))
def lI:WS:=(aR (bG (aD h9 (aA (gI (aA (aZ iT (aB 2) (aB 5)) (aA (aZ iT (aB 2) (aZ oMod (aZ iT (aB 5) (wC (.int 1))) (aB 4))) aC))) aC)) (gN 6)) (i5))
def i6:WS:=(bG (aZ iT (aB 2) (aB 4)) (gN 2))
def lJ:WS:=(aR (nV (mF (aA (aB 4) aC)) (gN 5) (lI)) (i6))
def l5:WS:=(cK (cV (aA (aZ iT (aB 2) (aB 1)) (aA (cV (aA (cV (aA (wC (.str "a")) (aA (wC (.int 0)) aC))) aC)) (aA (aD dZ (aA (aD h9 (aA (aB 3) aC)) aC)) aC)))))
def l6:WS:=(aR (nV (e8 (aB 0)) (gN 4) (lJ)) (l5))
def l7:WS:=(aR (bG (gI aC) (gN 3)) (l6))
def gY:WS:=(aR (bG (wC (.int 1)) (gN 2)) (l7))
theorem AS(B:Bl mg):pH P w K mg base k "_law_rings" ["_law_wheels","_law_more","_law_many","_law_switches","_law_size","_law_k","_law_tips"] eA (gY):=by
 intro f cdv A outer s H E hr;have nd:=oJ.nd;show jJ _ (_::_) _
 repeat' walk_at "g"
theorem oK:aN ["_law_bag_here","_law_total","_law_found","_law_part"] ["_law_bag_here","_law_total"] (aE eB):=⟨rfl,rfl,rfl,by decide+kernel,rfl,by decide+kernel,by decide+kernel⟩
def i8(s0:OA):WS:=(bG (aZ K6 (aB 1) (aB 3)) (gN 1))
def eZ(s0:OA):WS:=(aR (e9 (uH "list" bO (aB 2) (aA (aB 3) aC))) (i8 s0))
def i9(s0:OA):WS:=(aR (g9 (eO (aZ DD (aB 3) (aZ K6 (aB 1) (wC (.int 2))))) (bG (aB 1) (gN 3)) dA) (eZ s0))
def cU(s0:OA):WS:=(aR (bG (aZ iT (wC (.int 2)) (aD s0 (aA (aB 0) (aA (aZ K6 (aB 1) (wC (.int 1))) aC)))) (gN 3)) (i9 s0))
def iI(s0:OA):WS:=(cK (aB 2))
def cJ(s0:OA):WS:=(aR (g9 (eO (aZ DD (aB 1) (wC (.int 0)))) (e9 (uH "list" bO (aB 2) (aA (aB 1) aC))) dA) (iI s0))
def l9(s0:OA):WS:=(aR (q5 (eO (aZ DD (aB 1) (wC (.int 3)))) (cU s0)) (cJ s0))
def gZ(s0:OA):WS:=(aR (bG (gI aC) (gN 2)) (l9 s0))
theorem AU(B:Bl mg)(b6:Fn P w K mg base k "_law_take" ["_law_bag_here","_law_many"] s0):pH P w K mg base k "_law_parts" ["_law_bag_here","_law_total","_law_found","_law_part"] eB (gZ s0):=by
 intro f cdv A outer s H E hr;have nd:=oK.nd;show jJ _ (_::_) _
 repeat' walk_at "g"
theorem pX:aN ["_law_thing","_law_word_here","_law_many"] ["_law_thing","_law_word_here","_law_many"] (aE fB):=⟨rfl,rfl,rfl,by decide+kernel,rfl,by decide+kernel,by decide+kernel⟩
def n5:WS:=(cK (aZ oEq (aZ cM (aB 0) (wC (.int 0))) (aB 1)))
def iX:WS:=(aR (g9 (KL (j8 (o5 (aD wU (aA (aB 0) (aA (wC (.ty "tuple")) aC))))) (KL (eO (aZ XI (aD gK (aA (aB 0) aC)) (aB 2))) (j8 (o5 (aD wU (aA (aZ cM (aB 0) (wC (.int 0))) (aA (wC (.ty "str")) aC))))))) (cK (wC (.bl false))) dA) (n5))
theorem D0(B:Bl mg):pH P w K mg base k "_law_word" ["_law_thing","_law_word_here","_law_many"] fB (iX):=by
 intro f cdv A outer s H E hr;have nd:=pX.nd;show jJ _ (_::_) _
 repeat' walk_at "g"
theorem oN:aN ["_law_one","_law_other","_law_paper"] ["_law_one","_law_other","_law_paper"] (aE eD):=⟨rfl,rfl,rfl,by decide+kernel,rfl,by decide+kernel,by decide+kernel⟩
def mD(s0 s1 s2:OA):WS:=(cK (aZ Z4 (aD s2 (aA (aB 0) (aA (aZ cM (aB 2) (wC (.int 1))) aC))) (aB 1)))
def mE(s0 s1 s2:OA):WS:=(aR (g9 (KL (j8 (o5 (aD RN (aA (uI ["_law_net"] [] (e8 (aZ cM (aB 2) (wC (.int 1)))) (gN 0) lQ (aD s1 (aA (aB 0) aC))) aC)))) (eO (aZ OT (aD nB (aA (aZ cM (aB 2) (wC (.int 1))) aC)) (mG (aA (aZ cM (aB 0) (wC (.int 0))) aC))))) (cK (wC (.bl false))) dA) (mD s0 s1 s2))
def g8(s0 s1 s2:OA):WS:=(aR (g9 (KL (j8 (o5 (aD s0 (aA (aB 2) (aA (wC (.str "one")) (aA (wC (.int 2)) aC)))))) (j8 (o5 (aD wU (aA (aZ cM (aB 2) (wC (.int 1))) (aA (wC (.ty "tuple")) aC)))))) (cK (wC (.bl false))) dA) (mE s0 s1 s2))
theorem AW(B:Bl mg)(sZ:Fn P w K mg base k "_law_word" ["_law_thing","_law_word_here","_law_many"] s0)(oV:Fn P w K mg base k "_law_number" ["_law_thing"] s1)(fF:Fn P w K mg base k "_law_renamed" ["_law_some_here","_law_order_here"] s2):pH P w K mg base k "_law_leads" ["_law_one","_law_other","_law_paper"] eD (g8 s0 s1 s2):=by
 intro f cdv A outer s H E hr;have nd:=oN.nd;show jJ _ (_::_) _
 repeat' walk_at "g"
theorem NV:aN ["_law_script","_law_k","_law_bag_here","_law_one","_law_other","_law_first","_law_second"] ["_law_script"] (aE uQ):=⟨rfl,rfl,rfl,by decide+kernel,rfl,by decide+kernel,by decide+kernel⟩
def CB(s0 s1 s2 c d e f a b:OA):WS:=(g9 (j8 (o5 (aD a (aA (aB 5) (aA (aB 6) (aA (aD b (aA (aB 5) (aA (aB 6) aC))) aC)))))) (cK (wC (.bl false))) dA)
def uE(s0 s1 s2 a b c d e f:OA):WS:=(nV (e8 (gI (aA (cV (aA (aB 3) (aA (aB 4) aC))) (aA (cV (aA (aB 4) (aA (aB 3) aC))) (aA (cV (aA (aB 3) (aA (aB 3) aC))) (aA (cV (aA (aB 3) (aA (aB 4) aC))) aC)))))) (gT 2 (aT (gN 5) (aT (gN 6) fJ))) (CB s0 s1 s2 a b c d e f))
def o4(s0 s1 s2 c d a b e f:OA):WS:=(aR (bG (aD a (aA (aB 3) (aA (aD b (aA (aB 2) (aA (aZ cM (aB 3) (wC (.int 0))) aC))) aC))) (gN 4)) (uE s0 s1 s2 c d a b e f))
def uF(s0 s1 s2 a b c d e f:OA):WS:=(aR (g9 (eO (aZ oEq (aD s1 (aA (aB 2) (aA (wC (.int 3)) aC))) (wC (.int 0)))) (bG (aD s2 (aA (aD a (aA (aB 2) (aA (aZ iT (wC (.int 2)) (aD s1 (aA (aB 2) (aA (wC (.int 5)) aC)))) aC))) (aA (aD s1 (aA (aB 2) (aA (wC (.int 3)) aC))) aC))) (gN 3)) (bG (aD b (aA (aB 2) (aA (wC (.int 8)) (aA (wC (.int 12)) aC)))) (gN 3))) (o4 s0 s1 s2 a b c d e f))
def CC(s0 s1 s2 a b c d e f:OA):WS:=(aR (bG (aD s0 (aA (aB 0) (aA (aB 1) aC))) (gN 2)) (uF s0 s1 s2 a b c d e f))
def HU(s0 s1 s2 a b c d e f:OA):WS:=(cK (wC (.bl true)))
def HV(s0 s1 s2 a b c d e f:OA):WS:=(aR (nV (mF (aA (aZ iT (aD wR (aA (wC (.int 3)) (aA (aD gK (aA (aB 0) aC)) aC))) (wC (.int 1))) aC)) (gN 1) (CC s0 s1 s2 a b c d e f)) (HU s0 s1 s2 a b c d e f))
theorem aFb(B:Bl mg)(v3:Fn P w K mg base k "_law_bag" ["_law_script","_law_at"] s0)(b6:Fn P w K mg base k "_law_take" ["_law_bag_here","_law_many"] s1)(qK:Fn P w K mg base k "_law_rings" ["_law_wheels","_law_more"] s2){s3:OA}(qL:Fn P w K mg base k "_law_parts" ["_law_bag_here","_law_total"] s3){s4:OA}(tB:Fn P w K mg base k "_law_some" ["_law_bag_here","_law_most","_law_wires"] s4){s5:OA}(fF:Fn P w K mg base k "_law_renamed" ["_law_some_here","_law_order_here"] s5){s6:OA}(qM:Fn P w K mg base k "_law_order" ["_law_bag_here","_law_many"] s6){s7:OA}(qN:Fn P w K mg base k "_law_leads" ["_law_one","_law_other","_law_paper"] s7){s8:OA}(Q5:Fn P w K mg base k "held" ["one","other"] s8):pH P w K mg base k "law" ["_law_script","_law_k","_law_bag_here","_law_one","_law_other","_law_first","_law_second"] uQ (HV s0 s1 s2 s3 s4 s5 s6 s7 s8):=by
 intro f cdv A outer s H E hr;have nd:=NV.nd;show jJ _ (_::_) _
 repeat' walk_at "g"
end
theorem aFd:LR 2 0=some 0:=by decide
theorem aFc:LR 2 1=some 1:=by decide
theorem tP(d e:D)(ds:List D):jH (d::e::ds) 1=some e:=by
 have:=cT (xs:=d::e::ds) (j:=1) (v:=e) rfl;simpa using this
theorem wH{i j:Int}(a: -18446744073709551616<j)(b:j<18446744073709551616):MX i j:= .inr ⟨a,b⟩
theorem X0{i j:Int}(a: -18446744073709551616<i)(b:i<18446744073709551616):MX i j:= .inl ⟨a,b⟩
theorem aBy{i:Int}{j:Int}(h0:0<=j)(a:j<=1000000)(b: -18446744073709551616<i)(c:i<18446744073709551616):aCl i j:=⟨h0,a,by omega⟩
abbrev En(mh:MH)(R:DK):jK:={nx:=λ_ a=>Out mh.length .bY a R,rt:=λd a=>Out mh.length d a R}
theorem aBj(ds:List D)(mh:MH)(R:DK)(ok:iA mh)(hs:cA ds mh R):iY (En mh R) (aG ["_law_bag_here","_law_many","_law_digit","_law_number_here","_law_room"] ds) mh:=by
 obtain⟨b,a,rfl,x,y,⟨c,m,hb,n,g,h⟩,q⟩:=hs;have f:b<mh.length:=(aJr.mp hb).1
 have fin:∀(r k j :Int),0<=r->r<a->0<=k ->0<=j ->j<2147483629->Out mh.length (.int r) (mh.set b (.lst [.int k,.int j])) R:=λr k j o p s t a5=>
  cZ (q r _ o p ⟨⟨k,j,by simp[f],s,t,a5⟩,_,rfl⟩)
 simp[iY,n9,n8,n6,aG,dF hb,NW hb,aFd];by_cases h0:0<c
 ·rw[if_pos h0];exact⟨by omega,⟨by omega,by omega⟩,fin _ _ _ (aLw _ (by omega)) (aLb _ (by omega)) (Int.ediv_nonneg (by omega) (by omega)) g h⟩
 ·rw[if_neg h0];refine kR 2 ?_;by_cases d:1<a
  ·have u:0<=(m*48271+7919)^5 % 2147483629:=aLw _ (by omega);have v:(m*48271+7919)^5 % 2147483629<2147483629:=aLb _ (by omega);simp[dX,lY,j3,jZ,jM,d,dF hb,NW hb,aFc,tP];refine⟨wH (by omega) (by omega),aBy (by omega) (by omega) (by omega) (by omega),?_⟩;have l:(mh.set b (.lst [.int c,.int ((m*48271+7919)^5 % 2147483629)]))[b]? =some (.lst [.int c,.int ((m*48271+7919)^5 % 2147483629)]):=by simp[f]
   simp only[dF l,tP,aI,NY,zX];refine⟨wH (by omega) (by omega),⟨by omega,by omega⟩,wH (by omega) (by omega),by omega,wH (by omega) (by omega),?_⟩;simp;rw[if_neg (by omega)];exact⟨by omega,fin _ _ _ (aLw _ (by omega)) (aLb _ (by omega)) n u v⟩
  ·simp[dX,d,jM];have e:a=1:=by omega
   subst e;refine⟨by omega,?_⟩
   have w:mh.set b (.lst [.int c,.int m])=mh:=by
    apply List.ext_getElem?;intro i;by_cases hi:i=b
    ·subst hi;rw[List.getElem?_set_self f,hb]
    ·rw[List.getElem?_set_ne (Ne.symm hi)]
   have:=fin 0 c m (by omega) (by omega) n g h;rw[w]at this;exact this
variable{ns:List Int}
theorem E4{i:Int}(h0:0<=i)(a:i<ns.length):∃v,jH (ns.map D.int) i=some (.int v):=by
 refine⟨ns[i.toNat]'(by omega),?_⟩;have e:i=((i.toNat:Nat):Int):=by omega
 have:=cT (xs:=ns.map D.int) (j:=i.toNat) (v:= .int (ns[i.toNat]'(by omega))) (by rw[List.getElem?_map,List.getElem?_eq_getElem (by omega)];rfl);rw[<-e]at this;exact this
variable{mh:MH}{R:DK}
theorem aBn{a c m:Int}{k:Option D}(q:∀mh',(∃o,mh' =mh++[o])->B6 mh' mh.length->R (.ref mh.length) mh')(b:0<=c)(d:0<=m)(e:m<2147483629):
  kW (En mh R) [some (.fl (ns.map .int)),some (.int a),some (.int c),some (.int m),k] mh:=by
 have fin:∀c,0<=c->Out mh.length (.ref mh.length) (mh++[.lst [.int c,.int m]]) R:=λc f=>cZ (q _ ⟨_,rfl⟩ ⟨c,m,by simp,f,d,e⟩);simp[kW,pL];refine⟨aBy (by omega) (by omega) (by omega) (by omega),?_⟩;split
 ·exact⟨by rw[sizeLine_eq];omega,fin 0 (by omega)⟩
 ·exact⟨by rw[sizeLine_eq];omega,fin c b⟩
theorem QR{a c:Int}(s:ns.length<=63)(b:0<=a)(f:a<=100)(q:∀mh',(∃o,mh' =mh++[o])->B6 mh' mh.length->R (.ref mh.length) mh')(j:0<=c):
  kX (En mh R) [some (.fl (ns.map .int)),some (.int a),some (.int c),none,none] mh:=by
 have l:7919*a*a<=79190000:=by
  have:a*a<=100*100:=Int.mul_le_mul f f b (by omega);have e:7919*a*a=7919*(a*a):=Int.mul_assoc _ _ _;omega
 have n:0<=7919*a*a:=Int.mul_nonneg (by omega) b;simp[kX,pM];refine⟨X0 (by omega) (by omega),wH (by omega) (by omega),X0 (by omega) (by omega),?_,?_,?_⟩
 ·split <;> omega
 ·split <;> (rw[sizeLine_eq];omega)
 ·refine c5 (λi g mh' =>mh' =mh/\∃m k,g=[some (.fl (ns.map .int)),some (.int a),some (.int c),some (.int m),k]/\0<=m/\m<2147483629) _ (λ_ _ _ _=>trivial) ?_ ?_ ⟨rfl,_,_,rfl,by omega,by omega⟩
  ·rintro i d g mh' N hi ⟨rfl,m,k,rfl,m0,m1⟩ nx;obtain⟨hi,rfl⟩:=nG hi
   have p:i<ns.length:=by
    revert hi;split <;> intro hi <;> omega
   have h:i<60:=by
    revert hi;split <;> intro hi <;> omega
   obtain⟨v,r⟩:=E4 (ns:=ns) (i:=0+(i:Int)) (by omega) (by omega);have t:0<=v % 2147483647:=aLw _ (by omega);have u:v % 2147483647<2147483647:=aLb _ (by omega);have w:0<=(0+(i:Int))*(0+(i:Int)):=Int.mul_nonneg (by omega) (by omega);have k1:(0+(i:Int))*(0+(i:Int))<=60*60:=Int.mul_le_mul (by omega) (by omega) (by omega) (by omega);simp only[aI4,oE,aDv,aHs,s_c,aDn,List.set_cons_succ,List.set_cons_zero,List.getElem?_cons_succ,List.getElem?_cons_zero,Option.join_some,aI,NY,zX,aDs,r];refine⟨wH (by omega) (by omega),by omega,wH (by omega) (by omega),aBy (by omega) (by omega) (by omega) (by omega),by omega,nx _ _ ⟨rfl,_,_,rfl,aLw _ (by omega),aLb _ (by omega)⟩⟩
  ·rintro g mh' ⟨rfl,m,k,rfl,m0,m1⟩;exact aBn q j m0 m1
theorem aFl(ds:List D)(mh:MH)(R:DK)(ok:iA mh)(hs:KW ds mh R):kY (En mh R) (aG ["_law_script","_law_at","_law_cell","_law_mix","_law_k"] ds) mh:=by
 obtain⟨ns,a,rfl,d,b,c,q⟩:=hs;simp[kY,pN,aG];split
 ·rename_i hlt;obtain⟨v,e⟩:=E4 (ns:=ns) (i:=a) b hlt;simp[e];exact QR d b c q (by split <;> omega)
 ·exact QR d b c q (by omega)
open Classical in
noncomputable def yR(us:List D)(d:D):Nat:=us.findIdx λx=>decide (x=d)
open Classical in
noncomputable def aY(us:List D)(d:D):List D:=if d∈us then us else us++[d]
noncomputable def aH:List D->List D->List Nat
 | _,[]=>[]
 | us,d::l=>yR (aY us d) d::aH (aY us d) l
variable{us:List D}{d:D}
theorem mK(h:d∈us):aY us d=us:=by unfold aY;rw[if_pos h]
theorem j9(h:d∉us):aY us d=us++[d]:=by unfold aY;rw[if_neg h]
theorem yK{d e:D}:e∈aY us d↔e∈us\/e=d:=by
 by_cases h:d∈us
 ·rw[mK h];exact⟨.inl,λz=>z.elim id λz=>z▸h⟩
 ·rw[j9 h];simp
theorem VL{us t:List D}(h:d∈us):yR (us++t) d=yR us d:=by
 unfold yR;rw[List.findIdx_append];rw[if_pos (List.findIdx_lt_length.mpr ⟨d,h,by simp⟩)]
theorem KQ(us:List D)(d:D):∃t,aY us d=us++t:=by
 by_cases h:d∈us
 ·exact⟨[],by rw[mK h];simp⟩
 ·exact⟨[d],j9 h⟩
theorem EB:∀(l us:List D),∃t,l.foldl aY us=us++t
 | [],us=>⟨[],by simp⟩
 | d::l,us=>by
  obtain⟨t,ht⟩:=KQ us d;obtain⟨t',a⟩:=EB l (aY us d);exact⟨t++t',by rw[List.foldl_cons,a,ht];simp⟩
theorem DE:∀(l us:List D),l.map (yR (l.foldl aY us))=aH us l
 | [],us=>rfl
 | d::l,us=>by
  rw[List.foldl_cons,List.map_cons,DE l (aY us d)];obtain⟨t,ht⟩:=EB l (aY us d);simp only[aH];rw[ht,VL (yK.mpr (.inr rfl))]
theorem bN:∀(l us:List D),(aH us l).length=l.length
 | [],us=>rfl
 | d::l,us=>by simp[aH,bN l]
theorem eR:∀(l m us:List D),aH us (l++m)=aH us l++aH (l.foldl aY us) m
 | [],m,us=>rfl
 | d::l,m,us=>by simp[aH,eR l m]
theorem rH:∀(L U:List (D×D)),(∀p∈U++L,∀q∈U++L,p.1=q.1↔p.2=q.2)->aH (U.map (·.1)) (L.map (·.1))=aH (U.map (·.2)) (L.map (·.2))
 | [],U,_=>rfl
 | p::L,U,h=>by
  have f:p∈U++p::L:=by simp
  have hm:p.1∈U.map (·.1)↔p.2∈U.map (·.2):=by
   simp only[List.mem_map];constructor
   ·rintro⟨q,a,e⟩;exact⟨q,a,(h q (aLn _ a) p f).mp e⟩
   ·rintro⟨q,a,e⟩;exact⟨q,a,(h q (aLn _ a) p f).mpr e⟩
  have c:∀V:List (D×D),(∀q∈V,q∈U++p::L)->yR (V.map (·.1)) p.1=yR (V.map (·.2)) p.2:=λV g=>by
   induction V with
   | nil=>rfl
   | cons q V ih=>
    have a:=h q (g q aJs) p f;have:=ih λr d=>g r (aJt _ d);unfold yR at*;simp only[List.map_cons,List.findIdx_cons];by_cases e:q.1=p.1
    ·simp[e,a.mp e]
    ·have i :¬q.2=p.2:=λz=>e (a.mpr z);simp only[e,i,decide_false,cond_false,this]
  simp only[List.map_cons,aH];by_cases b:p.1∈U.map (·.1)
  ·rw[mK b,mK (hm.mp b),c U λq a=>List.mem_append_left _ a];rw[rH L U λq a r d=>h q (by rcases List.mem_append.mp a with z | z <;> simp[z]) r (by rcases List.mem_append.mp d with z | z <;> simp[z])]
  ·rw[j9 b,j9 λz=>b (hm.mpr z)];have j:U.map (·.1)++[p.1]=(U++[p]).map (·.1):=by simp
   have k:U.map (·.2)++[p.2]=(U++[p]).map (·.2):=by simp
   rw[j,k,c (U++[p]) (λq a=>by rcases List.mem_append.mp a with z | z <;> simp_all),rH L (U++[p]) λq a r d=>h q (by simpa using a) r (by simpa using d)]
mutual
def cR:D->Bool
 | .int _=>true
 | .str _=>true
 | .tup ds=>gD ds
 | .fl ds=>gD ds
 | _=>false
def gD:List D->Bool
 | []=>true
 | d::ds=>cR d && gD ds
end
mutual
theorem BA:∀(d e:D),cR d=true->cR e=true->(d5 d e=true↔d=e)
 | .int i,e,_,h2=>by cases e <;> simp[cR]at h2 <;> simp[d5]
 | .str x,e,_,h2=>by cases e <;> simp[cR]at h2 <;> simp[d5]
 | .tup ds,e,h1,h2=>by
  cases e with
  | tup es=>simp only[d5,D.tup.injEq];exact qH ds es (by simpa only[cR] using h1) (by simpa only[cR] using h2)
  | int i=>simp[d5]
  | str x=>simp[d5]
  | fl x=>simp[d5]
  | _=>simp[cR]at h2
 | .fl ds,e,h1,h2=>by
  cases e with
  | fl es=>simp only[d5,D.fl.injEq];exact qH ds es (by simpa only[cR] using h1) (by simpa only[cR] using h2)
  | int i=>simp[d5]
  | str x=>simp[d5]
  | tup x=>simp[d5]
  | _=>simp[cR]at h2
 | .bY,e,h1,_=>by simp[cR]at h1
 | .bl _,e,h1,_=>by simp[cR]at h1
 | .ty _,e,h1,_=>by simp[cR]at h1
 | .ref _,e,h1,_=>by simp[cR]at h1
theorem qH:∀(ds es:List D),gD ds=true->gD es=true->(cS ds es=true↔ds=es)
 | [],es,_,_=>by cases es <;> simp[cS]
 | d::ds,[],_,_=>by simp[cS]
 | d::ds,e::es,h1,h2=>by
  simp only[gD,Bool.and_eq_true]at h1 h2;simp only[cS,Bool.and_eq_true,List.cons.injEq];rw[BA d e h1.1 h2.1,qH ds es h1.2 h2.2]
end
mutual
theorem kI:∀{d:D},cR d=true->bare d=true
 | .int _,_=>rfl
 | .str _,_=>rfl
 | .tup ds,h=>by show cI ds=true;exact gC (by simpa only[cR] using h)
 | .fl ds,h=>by show cI ds=true;exact gC (by simpa only[cR] using h)
 | .bY,h=>by simp[cR]at h
 | .bl _,h=>by simp[cR]at h
 | .ty _,h=>by simp[cR]at h
 | .ref _,h=>by simp[cR]at h
theorem gC:∀{ds:List D},gD ds=true->cI ds=true
 | [],_=>rfl
 | d::ds,h=>by
  simp only[gD,Bool.and_eq_true]at h;simp only[cI,kI h.1,gC h.2,Bool.and_self]
end
def JK(k:Nat):List D->List (D×D)
 | []=>[]
 | d::us=>(d,.int (k:Nat))::JK (k+1) us
theorem kG:∀(k:Nat) (us:List D),(JK k us).map (·.1)=us
 | _,[]=>rfl
 | k,d::us=>by simp[JK,kG (k+1) us]
theorem JJ:∀(k:Nat) (us:List D) (d:D),JK k (us++[d])=JK k us++[(d,.int ((k+us.length:Nat):Int))]
 | k,[],d=>by simp[JK]
 | k,e::us,d=>by
  simp only[List.cons_append,JK,JJ (k+1) us d,List.length_cons];rw[show k+1+us.length=k+(us.length+1) by lia]
theorem AX(k:Nat)(us:List D):(JK k us).length=us.length:=by
 have:=aKo List.length (kG k us);simpa using this
theorem VI(h:d∉us):yR (us++[d]) d=us.length:=by
 have e:us.findIdx (λx=>@decide (x=d) (Classical.propDecidable _))=us.length:=List.findIdx_eq_length.mpr λx hx=>by
  have:¬x=d:=λz=>h (z▸hx);simp[this]
 unfold yR;rw[List.findIdx_append,e,if_neg (Nat.lt_irrefl _)];simp[List.findIdx_cons]
theorem JI:∀{k:Nat} {us:List D} {p:D×D},us.Nodup->p∈JK k us->p.2= .int ((k+yR us p.1:Nat):Int)
 | _,[],p,_,h=>by simp[JK]at h
 | k,d::us,p,nd,h=>by
  have a :=aMe.mp nd;unfold yR;rw[List.findIdx_cons];rcases aK1.mp h with rfl | h
  ·simp
  ·have c:p.1∈us:=by rw[<-kG (k+1) us];exact aKl h
   have b:¬d=p.1:=λz=>a.1 (z▸c);have:=JI a.2 h;unfold yR at this;simp only[b,decide_false,cond_false];rw[this];congr 1
   lia
def Ky(d:D):Prop:=∃es,d= .tup es/\gd d=true/\deep d<=8
structure DS(mh M:MH)(us:List D):Prop where
 px:bE mh M
 at_:M[mh.length]? =some (ME (JK 0 us))
 nd:us.Nodup
 ky:∀d∈us,Ky d
def aF(l:List Nat):List D:=l.map λn=>.int (n:Nat)
def oO:OA:=λds mh Q=>∃(r a b:Nat) (k1 k2:List D),ds=[.ref r]/\mh[r]? =some (.lst [.ref a,.ref b])/\mh[a]? =some (.lst k1)/\mh[b]? =some (.lst k2)/\(∀k∈k1,Ky k)/\(∀k∈k2,Ky k)/\k1.length<=100/\k2.length<=100/\
 Q (.tup [.tup (aF (aH [] k1)),.tup (aF (aH (k1.foldl aY []) k2))]) mh
theorem aBs:∀(l us:List D),(l.foldl aY us).length<=us.length+l.length
 | [],us=>by simp
 | d::l,us=>by
  have:=aBs l (aY us d);have:(aY us d).length<=us.length+1:=by unfold aY;split <;> simp
  simp only[List.foldl_cons,List.length_cons]
  lia
theorem b8(n:Nat):∀l:List Nat,aO n (aF l)=true
 | []=>rfl
 | a::l=>by
  have:=b8 n l;simp only[aF,List.map_cons]at*;simp[aO,bZ,this]
theorem F7(us l:List D)(d:D):aH us (l++[d])=aH us l++[yR (aY (l.foldl aY us) d) d]:=by rw[eR];rfl
variable{M:MH}
theorem N3{us ks:List D}{B:Nat}{N:DK}(d:DS mh M us)(C:mh[B]? =some (.lst ks))(G:∀k∈ks,Ky k)(K:us.length+ks.length<=1000)(q:∀j,DS mh j (ks.foldl aY us)->N (.tup (aF (aH us ks))) j):
  aD dZ (aA (uI ["key"] [1] (e8 (aB 0)) (gN 0) lQ (uJ (aB 1) (aB 0) (aD KC (aA (aB 1) aC)))) aC) [some (.ref B),some (.ref mh.length)] M N:=by
 have sz:=aK4;simp;rw[bH (d.px.old C)];simp only[aI];refine qP (λi r j =>DS mh j ((ks.take i).foldl aY us)/\r=aF (aH us (ks.take i))) ks (λi r j h=>bH (h.1.px.old C)) ?_ ?_ ⟨by simpa using d,by simp[aH,aF]⟩
 ·rintro i k r j N hi ⟨c,rfl⟩ nx;have s:=aJu hi;obtain⟨es,rfl,hg,n⟩:=G k s;have t:=aBs (ks.take i) us;have H:(ks.take i).length<=ks.length:=by rw[List.length_take];exact Nat.min_le_right _ _
  have E:ks.take (i+1)=ks.take i++[.tup es]:=by rw[List.take_add_one,hi];rfl
  have o:(ks.take (i+1)).foldl aY us=aY ((ks.take i).foldl aY us) (.tup es):=by rw[E,List.foldl_append];rfl
  have l:aH us (ks.take (i+1))=aH us (ks.take i)++[yR (aY ((ks.take i).foldl aY us) (.tup es)) (.tup es)]:=by rw[E,F7]
  generalize (ks.take i).foldl aY us=vs at c t o l⊢;simp[kK];refine⟨⟨_,c.at_⟩,mh.length,JK 0 vs,rfl,c.at_,JK 0 vs,c.at_,hg,n,by rw[AX];lia,λa b m=>?_,λa b m e=>?_,λu=>?_⟩
  ·have:a∈vs:=by rw[<-kG 0 vs];exact aKl (f:=Prod.fst) m
   obtain⟨v,I,g',_⟩:=c.ky a this;exact⟨⟨v,I⟩,g'⟩
  ·subst e;have w:D.tup es∈vs:=by rw[<-kG 0 vs];exact aKl (f:=Prod.fst) m
   have J:=JI c.nd m;rw[mK w]at o l;refine nx _ _ ⟨by rw[o];exact c,?_⟩;rw[l];simp only[aF,List.map_append,List.map_cons,List.map_nil];have A :b= .int ((0+yR vs (.tup es):Nat):Int):=J;rw[A,Nat.zero_add]
  ·have g :D.tup es∉vs:=λz=>by
    rw[<-kG 0 vs]at z;obtain⟨p,m,e⟩:=aK0.mp z;exact u p.2 (by rw[<-e];exact m)
   rw[j9 g]at o l;rw[VI g]at l;refine nx _ _ ⟨?_,?_⟩
   ·rw[o];refine⟨c.px.set (aJq _) _,?_,?_,λe he=>?_⟩
    ·rw[JJ,AX,Nat.zero_add];exact bQ _ c.at_
    ·rw[List.nodup_append];exact⟨c.nd,by simp,λx hx y F=>by simp at F;subst F;exact λz=>g (z▸hx)⟩
    ·rcases aJx.mp he with he | he
     ·exact c.ky e he
     ·simp at he;subst he;exact⟨es,rfl,hg,n⟩
   ·rw[l,AX];simp[aF]
 ·rintro r j ⟨c,rfl⟩;rw[List.take_length]at c⊢;rw[bH (aL _ _)];simp only[aI];refine q _ ⟨c.px.push _,aU c.at_,c.nd,c.ky⟩
theorem GS(ds:List D)(mh:MH)(R:DK)(ok:iA mh)(hs:oO ds mh R):kT (En mh R) (aG ["keys","numbers"] ds) mh:=by
 obtain⟨r,i,j,k1,k2,rfl,a,b,c,f,g,k,l,q⟩:=hs;have sz:=aK4
 have h:DS mh (mh++[ME []]) []:=⟨bE.refl.push _,by simp[JK],List.nodup_nil,by simp⟩
 simp[kT,pJ,aG];rw[bH (aU a)];simp only[aI];simp only[iR];refine⟨bH (aU a),?_⟩;simp only[kK,gN]
 refine N3 h b f (by simp;lia) λm d=>⟨bH (d.px.old a),?_⟩
 refine N3 d c g (by have:=aBs k1 [];simp at this;lia) λM2 e=>⟨bH (e.px.old a),?_⟩
 rw[bH (aL _ _)];exact(e.px.push _).out ok (by simp[bZ,aO,b8]) q
structure Sw where
 s:Str
 g:Nat
 a:Nat
 b:Nat
 w:Int
 l:Int
def iB(x:Sw):D:= .tup [.str x.s,.int x.g,.int x.a,.int x.b,.int x.w,.int x.l]
def fV(p:Str×Nat):D:= .tup [.str p.1,.int (p.2:Nat)]
structure Ls where
 m:Nat
 ns:List (Str×Nat)
 sw:List Sw
def eF(x:Ls):D:= .tup [.int x.m,.tup (x.ns.map fV),.tup (x.sw.map iB)]
structure gU(x:Ls):Prop where
 m1:1<=x.m
 m8:x.m<=9
 ns:∀p∈x.ns,p.2<x.m
 sw:∀s∈x.sw,s.g<x.m/\s.a<x.m/\s.b<x.m
 ab:∀s∈x.sw,s.a<=s.b
 ln:x.ns.length<=12
 lw:x.sw.length<=13
 up:(x.ns.map fV).Pairwise (λd e=>lx (enc e) (enc d)=false)
 us:(x.sw.map iB).Pairwise (λd e=>lx (enc e) (enc d)=false)
structure LL(mh M:MH)(m:Nat)(f:Nat->List D):Prop where
 px:bE mh M
 at_:∀j,j<m->M[mh.length+j]? =some (.lst (f j))
 top:M[mh.length+m]? =some (.lst ((List.range m).map λj=>.ref (mh.length+j)))
variable{m n:Nat}{f:Nat->List D}
theorem LL.app(h:LL mh M m f)(b:n<m)(d:D):LL mh (M.set (mh.length+n) (.lst (f n++[d]))) m (λj=>if j=n then f j++[d] else f j):=by
 refine⟨h.px.set (by lia) _,λj a=>?_,get_set h.top (by lia)⟩;by_cases e:j=n
 ·subst e;simp only[if_true];exact bQ _ (h.at_ j a)
 ·simp only[e,if_false];exact get_set (h.at_ j a) (by lia)
theorem LL.congr{f g:Nat->List D}(h:LL mh M m f)(e:∀j,j<m->f j=g j):LL mh M m g:=⟨h.px,λj a=>by rw[<-e j a];exact h.at_ j a,h.top⟩
variable{Q:DK}
theorem DW{g:WG}{ρe:gM}{St:MH->Prop}(hm:m<=1000)(a:∀M,St M)(hg:∀(i:Nat) (M:MH) (N:DK),N (.ref M.length) (M++[.lst []])->g (.int (i:Nat)) ρe λb=>gI aC b M N)
  (q:∀M,LL mh M m (λ_=>[])->M.length=mh.length+m+1->Q (.ref (mh.length+m)) M):iR g lQ (gI aC) ρe St Q (eQ 0 m) [] mh:=by
 refine qP (λi c M=>M=mh++List.replicate i (.lst [])/\c=(List.range i).map λj=>.ref (mh.length+j)) _ (λ_ _ M _=>a M) ?_ ?_ ⟨by simp,rfl⟩
 ·rintro i d c M N hi ⟨rfl,rfl⟩ nx;obtain⟨h,rfl⟩:=nG hi;have e:(0:Int)+(i:Nat)=(i:Nat):=by lia
  rw[e];simp only[XD,if_true];refine hg i _ _ (nx _ _ ⟨?_,?_⟩)
  ·rw[List.append_assoc,List.replicate_succ']
  ·rw[List.range_succ];simp
 ·rintro c M ⟨rfl,rfl⟩;have k:(eQ 0 m).length=m:=by simp
  rw[k];have f:(mh++List.replicate m (MO.lst [])).length=mh.length+m:=by simp
  rw[f];refine q _ ⟨⟨_,by rw[List.append_assoc]⟩,λj l=>?_,?_⟩ (by simp;lia)
  ·rw[List.append_assoc,List.getElem?_append_right (by lia),List.getElem?_append_left (by simp;lia)];simp[List.getElem?_replicate];lia
  ·rw[<-f];simp
theorem LL.ix(h:LL mh M m f)(a:n<m)(q:Q (.ref (mh.length+n)) M):cM (.ref (mh.length+m)) (.int (n:Nat)) M Q:=by
 rw[dF h.top];have:jH ((List.range m).map λj=>D.ref (mh.length+j)) (n:Nat)=some (.ref (mh.length+n)):=cT (by simp[a]);rw[this];exact q
def bD(l:List (Str×Nat))(n:Nat):List D:=((l.filter λp=>decide (p.2=n)).map (·.1)).map .str
theorem yE(n:Nat):∀l:List Str,aO n (l.map .str)=true
 | []=>rfl
 | a::l=>by simp[aO,bZ,yE n l]
theorem C5(n:Nat)(l:List (Str×Nat)):∀a:List Nat,aO n (a.map λj=>.tup (bD l j))=true
 | []=>rfl
 | j::a=>by
  have b:aO n (bD l j)=true:=yE n _;simp[aO,bZ,b,C5 n l a]
def zY:OA:=λds mh Q=>∃x:Ls,ds=[eF x]/\gU x/\Q (.ref mh.length) (mh++[.lst ((List.range x.m).map λn=>.tup (bD x.ns n))])
theorem VV(ds:List D)(mh:MH)(R:DK)(ok:iA mh)(hs:zY ds mh R):eV (En mh R) (aG ["some","names","name","net"] ds) mh:=by
 obtain⟨x,rfl,c,q⟩:=hs;have sz:=aK4;have m8:=c.m8;simp[eV,aG,eF];refine⟨by lia,?_⟩;refine DW (by lia) (λ_=>trivial) (λi M N hN=>by simpa[kK] using hN) λM o u=>?_;simp[jW,tP,bC];refine c5 (λi f g =>(∃h k,f=[some (D.tup [D.int x.m,D.tup (List.map fV x.ns),D.tup (List.map iB x.sw)]),some (.ref (mh.length+x.m)),h,k])/\LL mh g x.m (bD (x.ns.take i))) _ (λ_ _ _ _=>trivial) ?_ ?_ ⟨⟨_,_,rfl⟩,o.congr λj _=>by simp[bD]⟩
 ·rintro i d f g N hi ⟨⟨h,k,rfl⟩,a⟩ nx;obtain⟨p,l,rfl⟩:=nJ hi;have b:=c.ns p (aJu l);have r:i<x.ns.length:=(aJr.mp l).1;have ln:=c.ln;simp[fV,iV];refine a.ix b ⟨⟨rfl,_,a.at_ _ b⟩,?_⟩;rw[eP (a.at_ _ b)];refine⟨?_,nx _ _ ⟨⟨_,_,rfl⟩,(a.app b _).congr λj n=>?_⟩⟩
  ·have:(bD (x.ns.take i) p.2).length<=(x.ns.take i).length:=by simp only[bD,List.length_map];exact List.length_filter_le _ _
   rw[List.length_take]at this
   lia
  ·have s:x.ns.take (i+1)=x.ns.take i++[p]:=by rw[List.take_add_one,l];rfl
   rw[s];by_cases e:j=p.2
   ·subst e;simp[bD]
   ·have t :¬p.2=j:=λz=>e z.symm;simp[bD,e,t]
 ·rintro f g ⟨⟨h,k,rfl⟩,a⟩;rw[show (List.map fV x.ns).length=x.ns.length by simp,List.take_length]at a;simp[jV];rw[bH a.top];simp only[aI];refine iE (λj=>D.ref (mh.length+j)) (λj=>j) (λj=>.tup (bD x.ns j)) (List.range x.m) (bH a.top) (λj n N hN=>?_) ?_
  ·simp[kK];rw[bH (a.at_ j (by simpa using n))];exact hN
  ·refine(a.px.push _).tG ok a.px.le (by simp;rfl) ?_ (by simpa using q);show aO mh.length _=true;exact C5 _ _ _
structure Hk where
 s:Str
 w:Int
 l:Int
 t:Nat
 a:Nat
 b:Nat
def GX(s:Str)(w l:Int)(t:Nat):D:= .tup [.str s,.int w,.int l,.int (t:Nat)]
def XW(h:Hk):D:= .tup [GX h.s h.w h.l h.t,.int (h.a:Nat),.int (h.b:Nat)]
def w6(x:Sw)(n:Nat):List Hk:=(if x.g=n then [⟨x.s,x.w,x.l,0,x.a,x.b⟩] else [])++((if x.a=n then [⟨x.s,x.w,x.l,1,x.g,x.b⟩] else [])++(if x.b=n then [⟨x.s,x.w,x.l,1,x.g,x.a⟩] else []))
def xK(l:List Sw)(n:Nat):List Hk:=l.flatMap λx=>w6 x n
def tK(l:List Sw)(n:Nat):List D:=(xK l n).map XW
def zZ:OA:=λds mh Q=>∃x:Ls,ds=[eF x]/\gU x/\∀M,LL mh M x.m (tK x.sw)->Q (.ref (mh.length+x.m)) M
theorem VO(x:Sw)(n:Nat):(w6 x n).length<=3:=by
 unfold w6;split <;> split <;> split <;> simp
theorem A3(n:Nat):∀l:List Sw,(xK l n).length<=3*l.length
 | []=>by simp[xK]
 | x::l=>by
  have:=A3 n l;have:=VO x n;simp only[xK,List.flatMap_cons,List.length_append,List.length_cons]at*
  lia
theorem VX(ds:List D)(mh:MH)(R:DK)(ok:iA mh)(hs:zZ ds mh R):eX (En mh R) (aG ["some","hooks","sort","gate","one","other","width","length"] ds) mh:=by
 obtain⟨x,rfl,v,q⟩:=hs;have sz:=aK4;have m8:=v.m8;simp[eX,aG,eF];refine⟨by lia,?_⟩;refine DW (by lia) (λ_=>trivial) (λi M N hN=>by simpa[kK] using hN) λM F S=>?_;have G:jH [D.int x.m,D.tup (List.map fV x.ns),D.tup (List.map iB x.sw)] 2=some (D.tup (List.map iB x.sw)):=rfl;simp[jY,G,bC];refine c5 (λi y h =>(∃z A B a5 a6 C,y=[some (D.tup [D.int x.m,D.tup (List.map fV x.ns),D.tup (List.map iB x.sw)]),some (.ref (mh.length+x.m)),z,A,B,a5,a6,C])/\LL mh h x.m (tK (x.sw.take i))) _ (λ_ _ _ _=>trivial) ?_ ?_ ⟨⟨_,_,_,_,_,_,rfl⟩,F.congr λj _=>by simp[tK,xK]⟩
 ·rintro i d y h N hi ⟨⟨z,A,B,a5,a6,C,rfl⟩,e⟩ nx;obtain⟨p,E,rfl⟩:=nJ hi;obtain⟨k,o,r⟩:=v.sw p (aJu E);have H:i<x.sw.length:=(aJr.mp E).1;have lw:=v.lw
  have f:∀n,(tK (x.sw.take i) n).length<=39:=λn=>by
   have:=A3 n (x.sw.take i);simp only[tK,List.length_map];rw[List.length_take]at this
   lia
  simp[iB,iW];refine e.ix k ⟨⟨rfl,_,e.at_ _ k⟩,by lia,by lia,?_⟩;rw[eP (e.at_ _ k)];refine⟨by have:=f p.g;lia,?_⟩;have t:=e.app k (.tup [GX p.s p.w p.l 0,.int p.a,.int p.b]);simp[gQ];refine t.ix o ⟨⟨rfl,_,t.at_ _ o⟩,by lia,by lia,?_⟩;rw[eP (t.at_ _ o)];refine⟨by have:=f p.a;split <;> simp <;> lia,?_⟩;have u:=t.app o (.tup [GX p.s p.w p.l 1,.int p.g,.int p.b]);simp[gP];refine u.ix r ⟨⟨rfl,_,u.at_ _ r⟩,by lia,by lia,?_⟩;rw[eP (u.at_ _ r)];refine⟨by have:=f p.b;split <;> split <;> simp <;> lia,nx _ _ ⟨⟨_,_,_,_,_,_,rfl⟩,(u.app r (.tup [GX p.s p.w p.l 1,.int p.g,.int p.a])).congr λj T=>?_⟩⟩;have I:x.sw.take (i+1)=x.sw.take i++[p]:=by rw[List.take_add_one,E];rfl
  have J:tK (x.sw.take i++[p]) j=tK (x.sw.take i) j++(w6 p j).map XW:=by simp[tK,xK]
  rw[I,J];generalize tK (x.sw.take i) j=U;simp only[w6,List.map_append,show (p.g=j)=(j=p.g) from propext eq_comm,show (p.a=j)=(j=p.a) from propext eq_comm,show (p.b=j)=(j=p.b) from propext eq_comm]
  have K:List.map XW (if j=p.g then [⟨p.s,p.w,p.l,0,p.a,p.b⟩] else [])=if j=p.g then [.tup [GX p.s p.w p.l 0,.int p.a,.int p.b]] else []:=by split <;> rfl
  have O:List.map XW (if j=p.a then [⟨p.s,p.w,p.l,1,p.g,p.b⟩] else [])=if j=p.a then [.tup [GX p.s p.w p.l 1,.int p.g,.int p.b]] else []:=by split <;> rfl
  have P:List.map XW (if j=p.b then [⟨p.s,p.w,p.l,1,p.g,p.a⟩] else [])=if j=p.b then [.tup [GX p.s p.w p.l 1,.int p.g,.int p.a]] else []:=by split <;> rfl
  rw[K,O,P]
  have Q:∀(c:Prop) [Decidable c] (L:List D) (d:D),(if c then L++[d] else L)=L++if c then [d] else []:=λc _ L d=>by split <;> simp
  simp only[Q];simp only[List.append_assoc]
 ·rintro y h ⟨⟨z,A,B,a5,a6,C,rfl⟩,e⟩;rw[show (List.map iB x.sw).length=x.sw.length by simp,List.take_length]at e;simp[jX];exact cZ (q h e)
def mk(own:List Nat)(i:Nat):Nat:=own.getD i 0
def RZ(h:Hk)(own:List Nat):Nat:=if h.t=0 then min (mk own h.a) (mk own h.b) else mk own h.a
def RY(h:Hk)(own:List Nat):Nat:=if h.t=0 then max (mk own h.a) (mk own h.b) else mk own h.b
def oF(own:List Nat)(h:Hk):D:= .tup [GX h.s h.w h.l h.t,.int (RZ h own:Nat),.int (RY h own:Nat)]
variable{own:List Nat}{i:Nat}
theorem lC(h:i<own.length):jH (aF own) (i:Nat)=some (.int (mk own i:Nat)):=cT (by simp[aF,mk,List.getD,h])
def CW:OA:=λds mh Q=>∃(h:Hk) (own:List Nat),ds=[XW h,.tup (aF own)]/\h.a<own.length/\h.b<own.length/\Q (oF own h) mh
theorem L5(ds:List D)(mh:MH)(R:DK)(ok:iA mh)(hs:CW ds mh R):nF (En mh R) (aG ["hook","own","fixed","one","other","left","right"] ds) mh:=by
 obtain⟨h,own,rfl,ha,hb,q⟩:=hs;have sz:=aK4;have f:jH [D.str h.s,D.int h.w,D.int h.l,D.int (h.t:Nat)] 3=some (D.int (h.t:Nat)):=rfl;simp[nF,sJ,aG,XW,lC ha,lC hb];refine⟨by lia,?_⟩;simp[sI,GX,f];by_cases e:h.t=0
 ·rw[if_pos e];refine⟨by lia,?_⟩;simp[lT];refine⟨by lia,?_⟩
  have c:(if mk own h.b<mk own h.a then ((mk own h.b:Nat):Int) else ((mk own h.a:Nat):Int))=((RZ h own:Nat):Int):=by
   unfold RZ;rw[if_pos e];split <;> lia
  have d:(if mk own h.a<mk own h.b then ((mk own h.b:Nat):Int) else ((mk own h.a:Nat):Int))=((RY h own:Nat):Int):=by
   unfold RY;rw[if_pos e];split <;> lia
  rw[c,d];exact cZ q
 ·rw[if_neg e];simp[lT];refine⟨by lia,?_⟩;have c:mk own h.a=RZ h own:=by unfold RZ;rw[if_neg e]
  have d:mk own h.b=RY h own:=by unfold RY;rw[if_neg e]
  rw[c,d];exact cZ q
def HA(mh:MH)(r:Nat)(x:Ls):Prop:=∃nb,(∀j,j<x.m->mh[nb+j]? =some (.lst (tK x.sw j)))/\mh[r]? =some (.lst ((List.range x.m).map λj=>.ref (nb+j)))
variable{x:Ls}
theorem HA.px{r:Nat}(h:HA mh r x)(p:bE mh M):HA M r x:=by
 obtain⟨nb,a,b⟩:=h;exact⟨nb,λj c=>p.old (a j c),p.old b⟩
def tells(x:Ls)(own:List Nat)(n:Nat):List D:=(xK x.sw n).map (oF own)
structure wW(x:Ls)(own:List Nat)(K:List D):Prop where
 len:K.length=x.m
 at_:∀n,n<x.m->∃L,K[n]? =some (.tup [.int (mk own n:Nat),.tup L])/\L.Perm (tells x own n)/\L.Pairwise (λd e=>lx (encM e) (encM d)=false)
theorem aFh(c:gU x){h:Hk}(hh:h∈xK x.sw n):h.a<x.m/\h.b<x.m:=by
 obtain⟨s,hs,hh⟩:=List.mem_flatMap.mp hh;obtain⟨d,e,f⟩:=c.sw s hs;unfold w6 at hh;simp only[List.mem_append]at hh;rcases hh with hh | hh | hh <;> split at hh <;> simp at hh <;> subst hh <;> exact⟨by assumption,by assumption⟩
theorem KN(own:List Nat)(l:List Hk):WU (l.map (oF own)):=⟨[.s,.i,.i,.i],[.sc .i,.sc .i],λd hd=>by
 obtain⟨h,_,rfl⟩:=aK0.mp hd
 exact⟨_,rfl,rfl⟩⟩
theorem aBe(a:gU x)(n:Nat):(xK x.sw n).length<=39:=by
 have:=A3 n x.sw;have:=a.lw
 lia
variable{a0 a1:Option D}
theorem C2{r f:Nat}{E:jK}{kk:List D}(k:gU x)(w:own.length=x.m)(y:HA mh r x)(s:mh[f]? =some (.lst kk))(kl:kk.length<=10)
  (q:∀(M:MH) (K:List D),bE mh M->wW x own K->E.nx [a0,a1,some (.ref f),some (.ref r),some (.tup (aF own))] (List.set (M++[MO.lst K]) f (MO.lst (kk++[D.ref (List.length M)])))):
  gF CW oO E [a0,a1,some (.ref f),some (.ref r),some (.tup (aF own))] mh:=by
 have sz:=aK4;have m8:=k.m8;obtain⟨nb,t,z⟩:=y;have A:(aF own).length=x.m:=by simp[aF,w]
 simp[gF,nW];refine⟨⟨_,s⟩,by lia,?_⟩;rw[A];refine qP (λi b M=>bE mh M/\b.length=i/\∀n,n<i->∃L,b[n]? =some (.tup [.int (mk own n:Nat),.tup L])/\L.Perm (tells x own n)/\L.Pairwise (λd e=>lx (encM e) (encM d)=false)) _ (λ_ _ _ _=>trivial) ?_ ?_ ⟨bE.refl,rfl,λn B=>by lia⟩
 ·rintro i d b M N hi ⟨px,c,g⟩ nx;obtain⟨a,rfl⟩:=nG hi;have C:(0:Int)+(i:Nat)=(i:Nat):=by lia
  rw[C];have l:i<own.length:=by lia
  have o:jH ((List.range x.m).map λj=>D.ref (nb+j)) (i:Nat)=some (.ref (nb+i)):=cT (by simp[a]);simp[kK,lC l];rw[dF (px.old z),o];simp only[aI];rw[bH (px.old (t i a))];simp only[aI,tK];refine iE XW (λh=>h) (oF own) (xK x.sw i) (bH (px.old (t i a))) (λh hm N hN=>?_) ?_
  ·obtain⟨u,v⟩:=aFh k hm;simp;exact⟨h,own,rfl,by lia,by lia,hN⟩
  ·have F:=aBe k i;refine⟨_,_,rfl,k7 (aL _ _),by simp;lia,by simpa using KN own _,λp pm pw=>?_⟩;dsimp only;rw[bH (aL _ _)];simp only[aI];refine⟨by lia,nx _ _ ⟨(px.push _).push _,by simp[c],λn B=>?_⟩⟩;by_cases e:n=i
   ·subst e;exact⟨p,by rw[<-c];simp,by simpa[tells] using pm,pw⟩
   ·obtain⟨L,u,v,G⟩:=g n (by lia);exact⟨L,by rw[List.getElem?_append_left (by lia)];exact u,v,G⟩
 ·rintro b M ⟨px,c,g⟩;have H:(eQ 0 x.m).length=x.m:=by simp
  rw[H]at c g;rw[eP (aU (px.old s))];exact⟨by lia,q M b px ⟨c,g⟩⟩
theorem rQ:∀{ds:List D},(∀d∈ds,good d=true)->dG ds=true
 | [],_=>rfl
 | d::ds,h=>by simp only[dG,h d List.mem_cons_self,rQ λe he=>h e (List.mem_cons_of_mem _ he),Bool.and_self]
theorem rY{n:Nat}:∀{ds:List D},(∀d∈ds,deep d<=n)->bX ds<=n
 | [],_=>by simp[bX]
 | d::ds,h=>by
  have:=rY (n:=n) (ds:=ds) λe he=>h e (aJt _ he);have:=h d aJs;simp only[bX];lia
variable{K:List D}
theorem JL(h:wW x own K):∀k∈K,Ky k:=λk c=>by
 obtain⟨n,a⟩:=aKi.mp c;have f:n<x.m:=by rw[<-h.len];exact(aJr.mp a).1
 obtain⟨L,b,i,_⟩:=h.at_ n f;rw[a]at b;cases b
 have hm:∀d∈L,good d=true/\deep d<=2:=λd hd=>by
  obtain⟨e,_,rfl⟩:=aK0.mp (i.mem_iff.mp hd);exact⟨rfl,by simp[oF,GX,deep,bX]⟩
 have g:=rQ λd hd=>(hm d hd).1;have j:=rY λd hd=>(hm d hd).2;exact⟨_,rfl,QW (by simp[good,dG,g]) rfl,by simp only[deep,bX];lia⟩
noncomputable def tG(a b:List D):D:= .tup [.tup (aF (aH [] a)),.tup (aF (aH (a.foldl aY []) b))]
def sR:OA:=λds mh Q=>∃(d e:Nat) (x1 a:Ls) (b c:List Nat),ds=[.tup [.ref d,.ref e],.tup [.tup (aF b),.tup (aF c)]]/\gU x1/\gU a/\b.length=x1.m/\c.length=a.m/\HA mh d x1/\HA mh e a/\
 ∀f g,wW x1 b f->wW a c g->Q (tG f g) mh
theorem aBl(ds:List D)(mh:MH)(R:DK)(ok:iA mh)(hs:sR ds mh R):gV CW oO (En mh R) (aG ["sides","marked","keys","hooks","own"] ds) mh:=by
 obtain⟨v,w,x1,x,y,z,rfl,h,i,r,s,j,k,q⟩:=hs;have sz:=aK4;have m1:=h.m8;have A:=i.m8;have n:bE mh (mh++[MO.lst []]):=bE.refl.push _;simp[gV,lV,aG,bC,nU];refine⟨by lia,by lia,?_⟩;simp only[lO];simp;refine C2 h r (j.px n) (aL _ _) (by simp) λa c e f=>?_;have pa:bE mh (List.set (a++[MO.lst c]) mh.length (MO.lst ([]++[D.ref a.length]))):=((n.trans e).push _).set (aJq _) _;have t:mh.length<a.length:=by have:=e.le;simp at this;lia
 have l:(List.set (a++[MO.lst c]) mh.length (MO.lst ([]++[D.ref a.length])))[mh.length]? =some (.lst ([]++[D.ref a.length])):=bQ _ (aU (e.old (aL _ _)));have m:(List.set (a++[MO.lst c]) mh.length (MO.lst ([]++[D.ref a.length])))[a.length]? =some (.lst c):=get_set (aL _ _) (by lia);generalize List.set (a++[MO.lst c]) mh.length (MO.lst ([]++[D.ref a.length]))=B at pa l m⊢;simp;refine C2 i s (k.px pa) l (by simp) λM2 d b g=>?_;have pb:bE mh (List.set (M2++[MO.lst d]) mh.length (MO.lst ([]++[D.ref a.length]++[D.ref M2.length]))):=((pa.trans b).push _).set (aJq _) _
 have u:a.length<M2.length:=by
  have:=b.le;have:=(aJr.mp m).1
  lia
 have f0:(List.set (M2++[MO.lst d]) mh.length (MO.lst ([]++[D.ref a.length]++[D.ref M2.length])))[mh.length]? =some (.lst ([]++[D.ref a.length]++[D.ref M2.length])):=bQ _ (aU (b.old l));have o:(List.set (M2++[MO.lst d]) mh.length (MO.lst ([]++[D.ref a.length]++[D.ref M2.length])))[a.length]? =some (.lst c):=get_set (aU (b.old m)) (by lia);have p:(List.set (M2++[MO.lst d]) mh.length (MO.lst ([]++[D.ref a.length]++[D.ref M2.length])))[M2.length]? =some (.lst d):=get_set (aL _ _) (by lia);generalize List.set (M2++[MO.lst d]) mh.length (MO.lst ([]++[D.ref a.length]++[D.ref M2.length]))=C at pb f0 o p⊢;simp[lU];refine⟨mh.length,a.length,M2.length,c,d,rfl,f0,o,p,JL f,JL g,by rw[f.len];lia,by rw[g.len];lia,?_⟩;exact pb.out ok (by simp[bZ,aO,b8]) (q c d f g)
def bI(x:Ls):List D:=(List.range x.m).map λn=>.tup (bD x.ns n)
theorem VN:∀l:List Str,D8 (l.map .str)=false
 | []=>rfl
 | [_]=>rfl
 | [_,_]=>rfl
 | _::_::_::_=>rfl
theorem XJ(x:Ls):∀k∈bI x,Ky k:=λk a=>by
 obtain⟨n,_,rfl⟩:=aK0.mp a
 have hm:∀d∈bD x.ns n,good d=true/\deep d<=0:=λd hd=>by
  obtain⟨z,_,rfl⟩:=aK0.mp hd;exact⟨rfl,aJq _⟩
 have g:=rQ λd hd=>(hm d hd).1;have b:=rY λd hd=>(hm d hd).2;exact⟨_,rfl,QW g (VN _),by simp only[deep];lia⟩
def u3:OA:=λds mh Q=>∃x1 a:Ls,ds=[eF x1,eF a]/\gU x1/\gU a/\Q (tG (bI x1) (bI a)) mh
theorem VY(ds:List D)(mh:MH)(R:DK)(ok:iA mh)(hs:u3 ds mh R):fQ oO zY (En mh R) (aG ["one","other"] ds) mh:=by
 obtain⟨x1,c,rfl,a,b,q⟩:=hs;have sz:=aK4;have m1:=a.m8;have d:=b.m8;simp[fQ,aG];refine⟨x1,rfl,a,?_⟩;refine⟨c,rfl,b,?_⟩;simp;refine⟨by lia,?_⟩;refine⟨_,mh.length,mh.length+1,bI x1,bI c,rfl,by simp,by simp[bI],by simp[bI],XJ x1,XJ c,by simp[bI];lia,by simp[bI];lia,?_⟩
 have px:bE mh (mh++[MO.lst (bI x1)]):=⟨_,rfl⟩
 exact bE.out ⟨_,rfl⟩ ok (by simp[bZ,aO,b8]) q
def uY:OA:=λds mh Q=>∃x1 a:Ls,ds=[eF x1,eF a]/\gU x1/\gU a/\∀M b c,bE mh M->HA M b x1->HA M c a->Q (.tup [.ref b,.ref c]) M
theorem LL.ha(h:LL mh M x.m (tK x.sw)):HA M (mh.length+x.m) x:=⟨mh.length,h.at_,h.top⟩
theorem VR(ds:List D)(mh:MH)(R:DK)(ok:iA mh)(hs:uY ds mh R):kS zZ (En mh R) (aG ["one","other"] ds) mh:=by
 obtain⟨x1,e,rfl,a,b,q⟩:=hs;have sz:=aK4;simp[kS,aG];refine⟨x1,rfl,a,λf d=>?_⟩;refine⟨e,rfl,b,λM2 c=>?_⟩;simp;exact⟨by lia,cZ (q M2 _ _ (d.px.trans c.px) (d.ha.px c.px) c.ha)⟩
def IY(a b:List Nat):D:= .tup [.tup (aF a),.tup (aF b)]
def fI(K:List D)(i:Nat):D:=K.getD i .bY
theorem vQ(h:K[i]? =some d):fI K i=d:=by simp[fI,List.getD,h]
theorem vJ:∀(l us:List D) (d:D),d∈l.foldl aY us↔d∈us\/d∈l
 | [],us,d=>by simp
 | e::l,us,d=>by
  rw[List.foldl_cons,vJ l,yK];simp only[List.mem_cons];exact or_assoc
theorem JO(h:d∈us):us[yR us d]? =some d:=by
 have a:us.findIdx (λx=>@decide (x=d) (Classical.propDecidable _))<us.length:=List.findIdx_lt_length.mpr ⟨d,h,by simp⟩;have:=List.findIdx_getElem (w:=a);unfold yR;rw[List.getElem?_eq_getElem a];simpa using this
theorem VJ{d e:D}(hd:d∈us)(he:e∈us)(h:yR us d=yR us e):d=e:=by
 have a:=JO hd;rw[h,JO he]at a;cases a;rfl
theorem PC(f:D->Nat)(h:i<K.length):mk (K.map f) i=f (fI K i):=by
 simp[mk,fI,List.getD,h]
variable{j:Nat}
theorem eE(hi:i<K.length)(a:j<K.length):mk (aH [] K) i=mk (aH [] K) j↔fI K i=fI K j:=by
 rw[<-DE K [],PC _ hi,PC _ a];have b:fI K i∈K.foldl aY []:=(vJ K [] _).mpr (.inr (by simp[fI,List.getD,hi]));have c:fI K j∈K.foldl aY []:=(vJ K [] _).mpr (.inr (by simp[fI,List.getD,a]));exact⟨λz=>VJ b c z,λz=>by rw[z]⟩
theorem W6{c d:Type}:∀{l:List c} {l' :List d},l.length=l'.length->(l.zip l').map (·.1)=l/\(l.zip l').map (·.2)=l'
 | [],[],_=>⟨rfl,rfl⟩
 | a::l,b::l',h=>by
  have:=W6 (l:=l) (l' :=l') (by simpa using h);simp[this.1,this.2]
variable{K':List D}
theorem HR{p:D×D}(h:p∈K.zip K'):∃i,i<K.length/\i<K'.length/\p.1=fI K i/\p.2=fI K' i:=by
 obtain⟨i,hi⟩:=aKi.mp h;obtain⟨a,b⟩:=List.getElem?_zip_eq_some.mp hi;exact⟨i,(aJr.mp a).1,(aJr.mp b).1,(vQ a).symm,(vQ b).symm⟩
theorem K7(c:K.length=K'.length)(h:∀i j,i<K.length->j<K.length->(fI K i=fI K j↔fI K' i=fI K' j)):aH [] K=aH [] K' :=by
 obtain⟨a,b⟩:=W6 c
 have:=rH (K.zip K') [] λp d q e=>by
  obtain⟨i,f,_,a,b⟩:=HR (by simpa using d);obtain⟨j,g,_,k,l⟩:=HR (by simpa using e);rw[a,b,k,l];exact h i j f g
 rw[a,b]at this;exact this
theorem nN{a:Type}{p q:a->Bool}:∀{l:List a},(∀x∈l,q x=true->p x=true)->(∃x∈l,p x=true/\q x=false)->l.countP q<l.countP p
 | [],_,h=>by obtain⟨x,hx,_⟩:=h;simp at hx
 | y::l,h1,h2=>by
  have d:l.countP q<=l.countP p:=List.countP_mono_left λx hx=>h1 x (aJt _ hx);obtain⟨x,hx,b,c⟩:=h2;rcases aK1.mp hx with rfl | hx
  ·rw[List.countP_cons_of_neg (by simp[c]),List.countP_cons_of_pos b]
   lia
  ·have:=nN (l:=l) (λx hx=>h1 x (aJt _ hx)) ⟨x,hx,b,c⟩;have h0:=h1 y aJs;by_cases e:q y=true
   ·rw[List.countP_cons_of_pos e,List.countP_cons_of_pos (h0 e)]
    lia
   ·rw[List.countP_cons_of_neg e];have:l.countP p<=(y::l).countP p:=by rw[List.countP_cons];lia
    lia
def prs(n:Nat):List (Nat×Nat):=(List.range n).flatMap λi=>(List.range n).map λj=>(i,j)
def eqs(c:List Nat):Nat:=(prs c.length).countP λq=>decide (mk c q.1=mk c q.2)
theorem IZ:(i,j)∈prs n↔i<n/\j<n:=by
 simp only[prs,List.mem_flatMap,List.mem_map,List.mem_range];constructor
 ·rintro⟨a,ha,b,hb,e⟩;cases e;exact⟨ha,hb⟩
 ·rintro⟨c,d⟩;exact⟨i,c,j,d,rfl⟩
theorem T3(n:Nat):(prs n).length=n*n:=by
 simp only[prs,List.length_flatMap,List.length_map,List.length_range];rw[List.map_const',List.length_range];exact List.sum_replicate_nat
variable{c:List Nat}
theorem aBt:eqs c<=c.length*c.length:=by
 unfold eqs;exact aKe aMu (Nat.le_of_eq (T3 _))
def Fnr(c a :List Nat):Prop:=∀i j,i<a.length->j<a.length->mk a i=mk a j->mk c i=mk c j
theorem S0(f:K.length=K'.length)(fin:Fnr (aH [] K) (aH [] K')):aH [] K' =aH [] K\/eqs (aH [] K')<eqs (aH [] K):=by
 by_cases h:∀i j,i<K.length->j<K.length->fI K i=fI K j->fI K' i=fI K' j
 ·refine .inl (K7 f.symm λi j hi c=>⟨λz=>?_,λz=>h i j (by lia) (by lia) z⟩);have:=fin i j (by rw[bN];exact hi) (by rw[bN];exact c) ((eE hi c).mpr z);exact(eE (by lia) (by lia)).mp this
 ·right
  have:∃i j,i<K.length/\j<K.length/\fI K i=fI K j/\¬fI K' i=fI K' j:=by
   refine aK3 λg=>h λi j hi c e=>aK3 λd =>g ⟨i,j,hi,c,e,d⟩
  obtain⟨i,j,hi,c,e,d⟩:=this;unfold eqs;rw[bN,bN,<-f];refine nN (λx hx z=>?_) ⟨(i,j),IZ.mpr ⟨hi,c⟩,?_,?_⟩
  ·obtain⟨a,b⟩:=x;obtain⟨ha,hb⟩:=IZ.mp hx;simp only[decide_eq_true_eq]at z⊢;exact fin a b (by rw[bN];lia) (by rw[bN];lia) z
  ·simp only[decide_eq_true_eq];exact(eE hi c).mpr e
  ·simp only[decide_eq_false_iff_not];exact λz=>d ((eE (by lia) (by lia)).mp z)
variable{a b:List Nat}
theorem Fnr.trans(d:Fnr a b)(f:Fnr b c)(h:c.length<=b.length):Fnr a c:=λi j hi g e=>d i j (by lia) (by lia) (f i j hi g e)
structure Mk(m:Nat)(a b:List Nat):Prop where
 la:a.length=m
 lb:b.length=m
 nu:∃K:List D,K.length=m+m/\a++b=aH [] K
theorem c7(h:i<a.length):mk (a++b) i=mk a i:=by simp[mk,List.getD,List.getElem?_append_left h]
theorem nH(h:a.length=m):mk (a++b) (m+j)=mk b j:=by
 subst h;simp[mk,List.getD,List.getElem?_append_right]
variable{K1 K2:List D}
theorem GA(a:K1.length=m)(b:K2.length=m):Mk m (aH [] K1) (aH (K1.foldl aY []) K2):=
 ⟨by rw[bN,a],by rw[bN,b],K1++K2,by simp[a,b],(eR K1 K2 []).symm⟩
theorem uR(f:D->List Int){ds:List D}(inj:∀d∈ds,∀e∈ds,f d=f e->d=e):∀{g c:List D},(∀d∈g,d∈ds)->g.Perm c->g.Pairwise (λd e=>lx (f e) (f d)=false)->c.Pairwise (λd e=>lx (f e) (f d)=false)->g=c
 | [],c,_,p,_,_=>(List.nil_perm.mp p).symm
 | a::t,c,hm,p,s1,s2=>by
  cases c with
  | nil=>exact absurd p.length_eq (by simp)
  | cons b u=>
   have ha:lx (f b) (f a)=false:=by
    rcases aK1.mp (p.mem_iff.mpr aJs) with z | z
    ·rw[z];exact pA _
    ·exact(aL7.mp s1).1 b z
   have hb:lx (f a) (f b)=false:=by
    rcases aK1.mp (p.mem_iff.mp aJs) with z | z
    ·rw[z];exact pA _
    ·exact(aL7.mp s2).1 a z
   have e:a=b:=inj a (hm a aJs) b (hm b (p.mem_iff.mpr aJs)) (t8 _ _ hb ha);subst e;rw[uR f inj (λd hd=>hm d (List.mem_cons_of_mem _ hd)) (List.Perm.cons_inv p) (List.pairwise_cons.mp s1).2 (List.pairwise_cons.mp s2).2]
theorem YF{c d:List Nat}{a b:Hk}(e:encM (oF c a)=encM (oF d b)):oF c a=oF d b:=by
 have:=v8 (cs:=[.s,.i,.i,.i,.i,.i]) (es:=[.str a.s,.int a.w,.int a.l,.int (a.t:Nat),.int (RZ a c:Nat),.int (RY a c:Nat)]) (fs:=[.str b.s,.int b.w,.int b.l,.int (b.t:Nat),.int (RZ b d:Nat),.int (RY b d:Nat)]) rfl rfl (by simpa[D3.encM,oF,GX,enc,List.flatMap_cons,bR] using e);simp only[List.cons.injEq,and_true]at this;obtain⟨f,g,h,j,k,m⟩:=this;unfold oF GX;rw[f,g,h,j,k,m]
theorem aEs{p q:Str×Nat}(h:lx (enc (fV q)) (enc (fV p))=false):lx (enc (.str q.1)) (enc (.str p.1))=false:=by
 by_cases e:q.1=p.1
 ·rw[e];exact pA _
 ·have:=hG (c:= .s) (d:= .str q.1) (e:= .str p.1) rfl rfl (λz=>e (by injection z)) (bR (.int (q.2:Nat))++[]) (bR (.int (p.2:Nat))++[]);simp only[enc,fV,List.flatMap_cons,List.flatMap_nil]at h⊢;rw[<-this];exact h
theorem F8:∀{l:List (Str×Nat)} (n:Nat),(l.map fV).Pairwise (λd e=>lx (enc e) (enc d)=false)->(bD l n).Pairwise (λd e=>lx (enc e) (enc d)=false)
 | [],n,_=>by simp[bD]
 | p::l,n,h=>by
  rw[List.map_cons,List.pairwise_cons]at h;have a:=F8 n h.2;by_cases e:p.2=n
  ·have:bD (p::l) n= .str p.1::bD l n:=by simp[bD,e]
   rw[this,List.pairwise_cons];refine⟨λd hd=>?_,a⟩;obtain⟨s,hs,rfl⟩:=aK0.mp hd;obtain⟨q,b,rfl⟩:=aK0.mp hs;exact aEs (h.1 _ (aKl (aLk.mp b).1))
  ·have:bD (p::l) n=bD l n:=by simp[bD,e]
   rw[this];exact a
theorem SQ(l:List (Str×Nat))(n:Nat):E8 (bD l n):= .inl ⟨.s,λd hd=>by
 obtain⟨s,_,rfl⟩:=aK0.mp hd
 rfl⟩
variable{p:List Nat}
theorem gS(h:p.Perm (List.range m))(hi:i<m):mk p i<m:=by
 have a:i<p.length:=by rw[h.length_eq];simpa using hi
 have:mk p i∈p:=by simp[mk,List.getD,a]
 simpa using h.mem_iff.mp this
def KY(p:List Nat)(s:Sw):Sw:=if mk p s.a<=mk p s.b then ⟨s.s,mk p s.g,mk p s.a,mk p s.b,s.w,s.l⟩ else ⟨s.s,mk p s.g,mk p s.b,mk p s.a,s.w,s.l⟩
structure uC(x y:Ls)(p:List Nat):Prop where
 pm:p.Perm (List.range x.m)
 m:y.m=x.m
 ns:y.ns.Perm (x.ns.map λq=>(q.1,mk p q.2))
 sw:y.sw.Perm (x.sw.map (KY p))
theorem mk_inj(h:p.Perm (List.range m))(hi:i<m)(c:j<m)(e:mk p i=mk p j):i=j:=by
 have nd:p.Nodup:=h.nodup_iff.mpr aLq;have l:p.length=m:=by have:=h.length_eq;simpa using this
 have a:i<p.length:=by lia
 have b:j<p.length:=by lia
 simp only[mk,List.getD,List.getElem?_eq_getElem a,List.getElem?_eq_getElem b,Option.getD_some]at e;exact(aNg nd).mp e
theorem OY{l l' :List (Str×Nat)}(h:l.Perm l')(n:Nat):(bD l n).Perm (bD l' n):=((h.filter _).map _).map _
theorem IU{p:List Nat}{m i:Nat}(h:p.Perm (List.range m))(hi:i<m):∀l:List (Str×Nat),(∀q∈l,q.2<m)->bD (l.map λq=>(q.1,mk p q.2)) (mk p i)=bD l i
 | [],_=>rfl
 | q::l,hl=>by
  have a:=IU h hi l λr b=>hl r (aJt _ b);unfold bD at*
  have e:(mk p q.2=mk p i)↔(q.2=i):=⟨λz=>mk_inj h (hl q aJs) hi z,λz=>by rw[z]⟩
  by_cases z:q.2=i
  ·simp[z]at a⊢;exact a
  ·simp[z,e]at a⊢;exact a
variable{y:Ls}
theorem rO(h:uC x y p)(a:gU x)(c:gU y)(hi:i<x.m):bD y.ns (mk p i)=bD x.ns i:=by
 have b:=OY h.ns (mk p i);rw[IU h.pm hi _ a.ns]at b;exact iC (SQ y.ns (mk p i)) (λd hd=>hd) b (F8 _ c.up) (F8 _ a.up)
def KD(m:Nat)(p a b:List Nat):Prop:=∀i,i<m->mk b (mk p i)=mk a i
theorem rB(r:KD m p a b){s:Str}{w l:Int}{t u v:Nat}(c:u<m)(d:v<m):oF b ⟨s,w,l,t,mk p u,mk p v⟩=oF a ⟨s,w,l,t,u,v⟩:=by
 simp only[oF,RZ,RY,r u c,r v d]
theorem SV(own:List Nat)(s:Str)(w l:Int)(u v:Nat):oF own ⟨s,w,l,0,u,v⟩=oF own ⟨s,w,l,0,v,u⟩:=by
 simp only[oF,RZ,RY,if_true,Nat.min_comm,Nat.max_comm]
theorem aBf(pm:p.Perm (List.range m))(r:KD m p a b)(s:Sw)(d:s.g<m)(j:s.a<m)(k:s.b<m)(hi:i<m):((w6 (KY p s) (mk p i)).map (oF b)).Perm ((w6 s i).map (oF a)):=by
 have e:∀u,u<m->(mk p u=mk p i)=(u=i):=λu n=>propext ⟨λz=>mk_inj pm n hi z,λz=>by rw[z]⟩
 have l:∀(c:Prop) [Decidable c] (h:Hk) (f:Hk->D),(if c then [h] else []).map f=if c then [f h] else []:=λc _ h f=>by split <;> rfl
 unfold KY;by_cases z:mk p s.a<=mk p s.b
 ·rw[if_pos z];simp only[w6,List.map_append,l,e _ d,e _ j,e _ k,rB r j k,rB r d k,rB r d j];exact List.Perm.refl _
 ·rw[if_neg z];simp only[w6,List.map_append,l,e _ d,e _ j,e _ k,rB r k j,rB r d k,rB r d j];rw[SV];exact aLg _ aL5
theorem rR{c d:Type}{f g:c->List d}:∀(l:List c),(∀a∈l,(f a).Perm (g a))->(l.flatMap f).Perm (l.flatMap g)
 | [],_=>by simp
 | a::l,h=>by
  rw[List.flatMap_cons,List.flatMap_cons];exact(h a aJs).append (rR l λb hb=>h b (aJt _ hb))
theorem LU(h:uC x y p)(c:gU x)(r:KD x.m p a b)(hi:i<x.m):(tells y b (mk p i)).Perm (tells x a i):=by
 unfold tells xK;refine((h.sw.flatMap_right _).map _).trans ?_;rw[List.flatMap_map,List.map_flatMap,List.map_flatMap];refine rR _ λs hs=>?_;obtain⟨d,e,f⟩:=c.sw s hs;exact aBf h.pm r s d e f hi
theorem nK(h:wW x own K)(a:n<x.m):∃L,fI K n= .tup [.int (mk own n:Nat),.tup L]/\L.Perm (tells x own n)/\L.Pairwise (λd e=>lx (encM e) (encM d)=false):=by
 obtain⟨L,b,c⟩:=h.at_ n a;exact⟨L,vQ b,c⟩
theorem FN{L f :List D}(g:L.Perm (tells x a i))(l:L.Pairwise (λd e=>lx (encM e) (encM d)=false))(m:f.Perm (tells y b j))(n:f.Pairwise (λd e=>lx (encM e) (encM d)=false))(p:(tells x a i).Perm (tells y b j)):L=f :=by
 have mt:∀{z:Ls} {c:List Nat} {k:Nat} {d:D},d∈tells z c k->∃o h,d=oF o h:=λhd=>by
  obtain⟨h,_,rfl⟩:=aK0.mp hd;exact⟨_,h,rfl⟩
 refine uR encM (ds:=L) (λd hd e he q=>?_) (λd hd=>hd) ((g.trans p).trans m.symm) l n;obtain⟨_,_,rfl⟩:=mt (g.mem_iff.mp hd);obtain⟨_,_,rfl⟩:=mt (g.mem_iff.mp he);exact YF q
theorem u4(pm:p.Perm (List.range m))(c:K1.length=m)(g:K2.length=m)(h:∀i,i<m->fI K2 (mk p i)=fI K1 i):KD m p (aH [] K1) (aH (K1.foldl aY []) K2):=λi hi=>by
 have j:=gS pm hi;have d:(aH [] K1).length=m:=by rw[bN,c]
 rw[<-nH (a:=aH [] K1) (m:=m) d,<-c7 (a:=aH [] K1) (b:=aH (K1.foldl aY []) K2) (by lia),<-eR];refine(eE (by simp;lia) (by simp;lia)).mpr ?_
 have e:fI (K1++K2) (m+mk p i)=fI K2 (mk p i):=by
  subst c;simp[fI,List.getD,List.getElem?_append_right]
 have f:fI (K1++K2) i=fI K1 i:=by simp[fI,List.getD,List.getElem?_append_left (show i<K1.length by lia)]
 rw[e,f,h i hi]
theorem QI(h:uC x y p)(c:gU x)(k1:wW x a K1)(k2:wW y b K2)(r:KD x.m p a b):KD x.m p (aH [] K1) (aH (K1.foldl aY []) K2):=by
 refine u4 h.pm k1.len (by rw[k2.len,h.m]) λi hi=>?_;obtain⟨L,d,e,s1⟩:=nK k1 hi;obtain⟨j,f,g,s2⟩:=nK k2 (n:=mk p i) (by rw[h.m];exact gS h.pm hi);rw[d,f,r i hi,FN e s1 g s2 (LU h c r hi).symm]
theorem LV(h:uC x y p)(b:gU x)(c:gU y):KD x.m p (aH [] (bI x)) (aH ((bI x).foldl aY []) (bI y)):=by
 refine u4 h.pm (by simp[bI]) (by simp[bI,h.m]) λi hi=>?_;have d:=gS h.pm hi;have a :mk p i<y.m:=by rw[h.m];exact d
 have e:fI (bI x) i= .tup (bD x.ns i):=by simp[fI,bI,List.getD,hi]
 have f:fI (bI y) (mk p i)= .tup (bD y.ns (mk p i)):=by simp[fI,bI,List.getD,a]
 rw[e,f,rO h b c hi]
theorem D9{d:Type}{k:Nat}{x:d}{F:Nat->List d}:∀(a:List Nat),a.Nodup->k∈a->(a.flatMap λj=>(if k=j then [x] else [])++F j).Perm (x::a.flatMap F)
 | [],_,h=>by simp at h
 | j::a,nd,h=>by
  rw[List.flatMap_cons,List.flatMap_cons];have b :=aMe.mp nd;by_cases e:k=j
  ·subst e
   have:(a.flatMap λj=>(if k=j then [x] else [])++F j)=a.flatMap F:=by
    have f:∀j∈a,(if k=j then [x] else [])++F j=F j:=λj c=>by
     have z:¬k=j:=λz=>b.1 (z.symm▸c);rw[if_neg z];rfl
    clear h nd b
    induction a with
    | nil=>rfl
    | cons i a ih=>rw[List.flatMap_cons,List.flatMap_cons,f i List.mem_cons_self,ih λj c=>f j (List.mem_cons_of_mem _ c)]
   rw[this];simp
  ·rw[if_neg e,List.nil_append];have g:k∈a:=by rcases aK1.mp h with z | z;exact absurd z e;exact z
   exact((D9 a b.2 g).append_left (F j)).trans List.perm_middle
theorem o7{c:Type}(b:c->Nat){m:Nat}:∀l:List c,(∀a∈l,b a<m)->((List.range m).flatMap λj=>l.filter λa=>decide (b a=j)).Perm l
 | [],_=>by simp
 | x::l,h=>by
  have d:=o7 b l λa ha=>h a (aJt _ ha)
  have e:(λj=>(x::l).filter λa=>decide (b a=j))=λj=>(if b x=j then [x] else [])++l.filter λa=>decide (b a=j):=by
   funext j;by_cases z:b x=j
   ·simp[z]
   ·simp[z]
  rw[e];exact(D9 _ aLq (by simpa using h x aJs)).trans (d.cons x)
theorem vA(h:p.Perm (List.range m)):(List.range m).map (mk p)=p:=by
 have l:p.length=m:=by have:=h.length_eq;simpa using this
 refine aNi (by simp[l]) λi b a=>?_;simp[mk,List.getD,a]
theorem group{d e:Type}(c:d->Nat)(ky:e->Nat){X:List d}{Y:List e}(f:d->e)(pm:p.Perm (List.range m))(hx:∀a∈X,c a<m)(j:∀b∈Y,ky b<m)
  (h:∀i,i<m->(Y.filter λb=>decide (ky b=mk p i)).Perm ((X.filter λa=>decide (c a=i)).map f)):Y.Perm (X.map f):=by
 refine(o7 ky Y j).symm.trans ?_;refine(pm.symm.flatMap_right _).trans ?_;rw[<-vA pm,List.flatMap_map];refine(rR (g:=λi=>(X.filter λa=>decide (c a=i)).map f) _ λi hi=>h i (by simpa using hi)).trans ?_;rw[<-List.map_flatMap];exact(o7 c X hx).map f
def isG:D->Bool
 | .tup [.tup [_,_,_,.int t],_,_]=>decide (t=0)
 | _=>false
theorem QX(own:List Nat)(n:Nat):∀l:List Sw,((xK l n).map (oF own)).filter isG=(l.filter λs=>decide (s.g=n)).map λs=>oF own ⟨s.s,s.w,s.l,0,s.a,s.b⟩
 | []=>rfl
 | s::l=>by
  have f:=QX own n l;have e:xK (s::l) n=w6 s n++xK l n:=rfl
  have i:∀(c:Prop) [Decidable c] (h:Hk),((if c then [h] else []).map (oF own)).filter isG=if c/\h.t=0 then [oF own h] else []:=λc _ h=>by
   by_cases z:c
   ·by_cases d:h.t=0
    ·have:isG (oF own h)=true:=by simp[oF,GX,isG,d]
     simp[z,d,this]
    ·have:isG (oF own h)=false:=by simp[oF,GX,isG];lia
     simp[z,d,this]
   ·simp[z]
  rw[e,List.map_append,List.filter_append,f];simp only[w6,List.map_append,List.filter_append,i];by_cases z:s.g=n
  ·simp[z]
  ·simp[z]
def psi(b:List Nat)(j:Nat):D->Sw
 | .tup [.tup [.str s,.int w,.int l,_],.int A,.int C]=>⟨s,j,min (b.idxOf A.toNat) (b.idxOf C.toNat),max (b.idxOf A.toNat) (b.idxOf C.toNat),w,l⟩
 | _=>⟨"",0,0,0,0,0⟩
theorem OC(b own:List Nat)(j:Nat)(s:Str)(w l:Int)(u v:Nat):psi b j (oF own ⟨s,w,l,0,u,v⟩)=⟨s,j,min (b.idxOf (mk own u)) (b.idxOf (mk own v)),max (b.idxOf (mk own u)) (b.idxOf (mk own v)),w,l⟩:=by
 simp only[oF,GX,psi,RZ,RY,if_true,Int.toNat_natCast];rcases Nat.le_total (mk own u) (mk own v) with h | h
 ·rw[Nat.min_eq_left h,Nat.max_eq_right h]
 ·rw[Nat.min_eq_right h,Nat.max_eq_left h,Nat.min_comm,Nat.max_comm]
theorem PB(h:i<a.length):mk a i∈a:=by simp[mk,List.getD,h]
theorem GP(nd:b.Nodup)(h:i<b.length):b.idxOf (mk b i)=i:=by
 have:mk b i=b[i]:=by simp[mk,List.getD,h]
 rw[this];exact nd.idxOf_getElem i h
theorem PD{v:Nat}(h:v∈b):mk b (b.idxOf v)=v:=by
 have a:=List.idxOf_lt_length_of_mem h;have:mk b (b.idxOf v)=b[b.idxOf v]:=by simp only[mk,List.getD,List.getElem?_eq_getElem a,Option.getD_some]
 rw[this];exact List.getElem_idxOf a
def lead(a b:List Nat):List Nat:=a.map λv=>b.idxOf v
theorem p8(h:i<a.length):mk (lead a b) i=b.idxOf (mk a i):=by simp[lead,mk,List.getD,h]
theorem yN(nd:a.Nodup)(pm:a.Perm b)(d:a.length=m):(lead a b).Perm (List.range m):=by
 have nb:b.Nodup:=pm.nodup_iff.mp nd
 have e:b.map (λv=>b.idxOf v)=List.range m:=by
  refine aNi (by simp[<-d,pm.length_eq]) λi c f=>?_;simp at c;simp[nb.idxOf_getElem i c]
 rw[<-e];exact pm.map _
theorem UO{l l' :List (Str×Nat)}(h:bD l i=bD l' j):(l.filter λq=>decide (q.2=i)).map (·.1)=(l'.filter λq=>decide (q.2=j)).map (·.1):=by
 unfold bD at h;exact aN8 (λa b e=>by injection e) |>.mp h
theorem V3{l:List (Str×Nat)}:(l.filter λq=>decide (q.2=j))=((l.filter λq=>decide (q.2=j)).map (·.1)).map λs=>(s,j):=by
 rw[List.map_map]
 have:∀q∈l.filter λq=>decide (q.2=j),q=(q.1,j):=λq a=>by
  have:=(aLk.mp a).2;simp at this;rw[<-this]
 conv=>lhs;rw[<-List.map_id (l.filter λq=>decide (q.2=j))]
 exact aKg λq a=>this q a
theorem sound(o:gU x)(k:gU y)(hm:y.m=x.m)(la:a.length=x.m)(lb:b.length=x.m)
  (nm:∀i j,i<x.m->j<x.m->mk a i=mk b j->bD x.ns i=bD y.ns j)
  (st:∀i j,i<x.m->j<x.m->mk a i=mk b j->(tells x a i).Perm (tells y b j)) (nd:a.Nodup) (pm:a.Perm b):uC x y (lead a b):=by
 have f:=yN nd pm la;have nb:b.Nodup:=pm.nodup_iff.mp nd
 have hb:∀i,i<x.m->mk a i=mk b (mk (lead a b) i):=λi hi=>by
  rw[p8 (by lia),PD (pm.mem_iff.mp (PB (by lia)))]
 refine⟨f,hm,?_,?_⟩
 ·refine group (λq:Str×Nat=>q.2) (λq:Str×Nat=>q.2) (λq=>(q.1,mk (lead a b) q.2)) f o.ns (λq p=>by rw[<-hm];exact k.ns q p) λi hi=>?_;have r:=gS f hi;have e:=UO (nm i _ hi r (hb i hi));rw[V3,<-e];rw[List.map_map];refine aMg (aKg λq p=>?_);have:=(aLk.mp p).2;simp at this;simp[this]
 ·refine group (λs=>s.g) (λs=>s.g) (KY (lead a b)) f (λs hs=>(o.sw s hs).1) (λs hs=>by rw[<-hm];exact(k.sw s hs).1) λi hi=>?_;have r:=gS f hi;have n:=((st i _ hi r (hb i hi)).filter isG).map (psi b (mk (lead a b) i));unfold tells at n;rw[QX,QX,List.map_map,List.map_map]at n
  have t:((x.sw.filter λs=>decide (s.g=i)).map (psi b (mk (lead a b) i) ∘ λs=>oF a ⟨s.s,s.w,s.l,0,s.a,s.b⟩))=(x.sw.filter λs=>decide (s.g=i)).map (KY (lead a b)):=by
   refine aKg λs hs=>?_;obtain⟨d,c⟩:=aLk.mp hs;obtain⟨u,v,A⟩:=o.sw s d;simp at c;simp only[Function.comp,OC,KY,p8 (show s.a<a.length by lia),p8 (show s.b<a.length by lia),c];split
   ·rename_i z;rw[Nat.min_eq_left z,Nat.max_eq_right z]
   ·rename_i z;rw[Nat.min_eq_right (by lia),Nat.max_eq_left (by lia)]
  have B:((y.sw.filter λs=>decide (s.g=mk (lead a b) i)).map (psi b (mk (lead a b) i) ∘ λs=>oF b ⟨s.s,s.w,s.l,0,s.a,s.b⟩))=y.sw.filter λs=>decide (s.g=mk (lead a b) i):=by
   conv=>rhs;rw[<-List.map_id (y.sw.filter λs=>decide (s.g=mk (lead a b) i))]
   refine aKg λs hs=>?_;obtain⟨d,c⟩:=aLk.mp hs;obtain⟨u,v,A⟩:=k.sw s d;have h:=k.ab s d;simp at c;simp only[Function.comp,OC,GP nb (show s.a<b.length by lia),GP nb (show s.b<b.length by lia),<-c,Nat.min_eq_left h,Nat.max_eq_right h,id]
  rw[t,B]at n;exact n.symm
theorem all_map{b:Type}{f:b->D}{Pr:b->Prop}:∀{l:List D},(∀d∈l,∃a,Pr a/\d=f a)->∃as:List b,l=as.map f/\∀a∈as,Pr a
 | [],_=>⟨[],rfl,by simp⟩
 | d::l,h=>by
  obtain⟨a,ha,rfl⟩:=h d aJs;obtain⟨as,rfl,hs⟩:=all_map λe he=>h e (aJt _ he);exact⟨a::as,rfl,by simp;exact⟨ha,hs⟩⟩
theorem zQ(l:List (Str×Nat)):E8 (l.map fV):= .inr ⟨.s,[.i],λd hd=>by
 obtain⟨p,_,rfl⟩:=aK0.mp hd
 exact⟨_,rfl,rfl⟩⟩
theorem tW(l:List Sw):E8 (l.map iB):= .inr ⟨.s,[.i,.i,.i,.i,.i],λd hd=>by
 obtain⟨p,_,rfl⟩:=aK0.mp hd
 exact⟨_,rfl,rfl⟩⟩
theorem C6(n:Nat):∀l:List (Str×Nat),aO n (l.map fV)=true
 | []=>rfl
 | p::l=>by simp only[List.map_cons,aO,C6 n l,Bool.and_true];rfl
theorem C4(n:Nat):∀l:List Sw,aO n (l.map iB)=true
 | []=>rfl
 | p::l=>by simp only[List.map_cons,aO,C4 n l,Bool.and_true];rfl
theorem u6(n:Nat)(x:Ls):bZ n (eF x)=true:=by simp[eF,bZ,aO,C6,C4]
def bk(p:List Nat)(m:Nat):List Nat:=lead (List.range m) p
theorem kB(h:i<m):mk (List.range m) i=i:=by simp[mk,List.getD,h]
theorem J9(h:p.Perm (List.range m)):(bk p m).Perm (List.range m):=yN aLq h.symm (by simp)
theorem wI(h:p.Perm (List.range m))(hi:i<m):mk (bk p m) (mk p i)=i:=by
 have l:p.length=m:=by have:=h.length_eq;simpa using this
 have:=gS h hi;unfold bk;rw[p8 (by simpa using this),kB this,GP (h.nodup_iff.mpr List.nodup_range) (by lia)]
theorem aEv(h:p.Perm (List.range m))(a:j<m):mk p (mk (bk p m) j)=j:=by
 unfold bk;rw[p8 (by simpa using a),kB a,PD (h.mem_iff.mpr (by simpa using a))]
theorem YY(h:p.Perm (List.range m)){s:Sw}(d:s.g<m)(f:s.a<m)(i:s.b<m)(c:s.a<=s.b):KY (bk p m) (KY p s)=s:=by
 unfold KY;by_cases z:mk p s.a<=mk p s.b
 ·simp only[if_pos z,wI h d,wI h f,wI h i,if_pos c]
 ·by_cases e:s.b<=s.a
  ·have j :s.a=s.b:=by lia
   exact absurd (by rw[j];exact aJq _) z
  ·simp only[if_neg z,wI h d,wI h f,wI h i,if_neg e]
theorem JR(h:uC x y p)(a:gU x):uC y x (bk p x.m):=by
 refine⟨by rw[h.m];exact J9 h.pm,h.m.symm,?_,?_⟩
 ·refine List.Perm.symm ((h.ns.map _).trans ?_);rw[List.map_map]
  conv=>rhs;rw[<-List.map_id x.ns]
  refine aMg (aKg λq b=>?_);simp[wI h.pm (a.ns q b)]
 ·refine List.Perm.symm ((h.sw.map _).trans ?_);rw[List.map_map]
  conv=>rhs;rw[<-List.map_id x.sw]
  refine aMg (aKg λs hs=>?_);obtain⟨c,d,e⟩:=a.sw s hs;exact YY h.pm c d e (a.ab s hs)
theorem QH(a:gU x):uC x x (List.range x.m):=by
 refine⟨List.Perm.refl _,rfl,?_,?_⟩
 ·conv=>lhs;rw[<-List.map_id x.ns]
  refine aMg (aKg λq b=>?_);simp[kB (a.ns q b)]
 ·conv=>lhs;rw[<-List.map_id x.sw]
  refine aMg (aKg λs hs=>?_);obtain⟨c,d,e⟩:=a.sw s hs;simp[KY,kB c,kB d,kB e,a.ab s hs]
theorem QG{x y z:Ls}(a:uC x y p)(b:uC x z p)(c:gU y)(e:gU z):eF y=eF z:=by
 have f:=iC (zQ y.ns) (λd hd=>hd) ((a.ns.trans b.ns.symm).map fV) c.up e.up;have g:=iC (tW y.sw) (λd hd=>hd) ((a.sw.trans b.sw.symm).map iB) c.us e.us;unfold eF;rw[f,g,a.m,b.m]
def SE(x:Ls):Prop:=x.m<=8\/∃i,i<x.m/\∀j,j<x.m->bD x.ns j=bD x.ns i->j=i
theorem V4(h:uC x y p)(b:gU x)(c:gU y)(f:SE x):SE y:=by
 rcases f with f | ⟨i,hi,f⟩
 ·exact .inl (by rw[h.m];exact f)
 ·refine .inr ⟨mk p i,by rw[h.m];exact gS h.pm hi,λj d e=>?_⟩;have a :j<x.m:=by rw[<-h.m];exact d
  have hb:=rO (JR h b) c b d;rw[rO h b c hi,<-hb]at e;have g:=gS (J9 h.pm) a;have:=f _ g e;rw[<-this,aEv h.pm a]
theorem kH:∀l:List Nat,gD (aF l)=true/\bX (aF l)<=1
 | []=>⟨rfl,by simp[aF,bX]⟩
 | n::l=>by
  obtain⟨a,b⟩:=kH l;have e:aF (n::l)= .int (n:Nat)::aF l:=rfl;refine⟨by rw[e];simp[gD,cR,a],?_⟩;rw[e];simp only[bX,deep]
  lia
theorem EM(M:MH)(n:Nat):∀l:List Nat,(aF l).map (gJ M n)=aF l
 | []=>rfl
 | k::l=>by
  have e:aF (k::l)= .int (k:Nat)::aF l:=rfl;rw[e,List.map_cons,EM M n l];cases n <;> rfl
theorem mJ(l:List Nat):E8 (aF l):= .inl ⟨.i,λd hd=>by
 obtain⟨n,_,rfl⟩:=aK0.mp hd
 rfl⟩
theorem qE(h:aF a=aF b):a=b:=(aN8 λi j e=>by injection e with e;lia).mp h
def natOf:D->Nat
 | .int i=>i.toNat
 | _=>0
theorem vI:∀l:List Nat,(aF l).map natOf=l
 | []=>rfl
 | n::l=>by
  have:=vI l;unfold aF at*;simp only[List.map_cons,this,natOf,Int.toNat_natCast]
theorem yY:(aF a).Perm (aF b)↔a.Perm b:=by
 refine⟨λh=>?_,λh=>h.map _⟩;have:=h.map natOf;rw[vI,vI]at this;exact this
theorem yI{l:List D}(h:l.Perm (aF a)):∃c:List Nat,l=aF c/\c.Perm a:=by
 obtain⟨c,rfl,_⟩:=all_map (f:=λn:Nat=>D.int (n:Nat)) (Pr:=λ_=>True) (l:=l) λd hd=>by
  obtain⟨n,_,rfl⟩:=aK0.mp (h.mem_iff.mp hd);exact⟨n,trivial,rfl⟩
 exact⟨c,rfl,yY.mp h⟩
theorem FT{l l' :List D}(c:l.Perm (aF a))(s1:l.Pairwise (λd e=>lx (enc e) (enc d)=false))(f:l'.Perm (aF b))(s2:l'.Pairwise (λd e=>lx (enc e) (enc d)=false)):l=l' ↔a.Perm b:=by
 refine⟨λz=>?_,λz=>?_⟩
 ·subst z;exact yY.mp (c.symm.trans f)
 ·exact iC (mJ a) (λd hd=>c.mem_iff.mp hd) ((c.trans (z.map _)).trans f.symm) s1 s2
theorem DI{k f :Nat}(h:M[k]? =some (.lst (aF a)))(h' :M[f]? =some (.lst (aF b)))(q:∀c:Bool,(c=true↔¬a=b)->Q (.bl c) M):OT (.ref k) (.ref f) M Q:=by
 have e:∀{k:Nat} {a:List Nat},M[k]? =some (.lst (aF a))->gJ M 2 (.ref k)= .fl (aF a):=λh=>by
  simp only[gJ,h];rw[EM]
 have j:=kH a;have l:=kH b;have g:cR (.fl (aF a))=true:=by simp[cR,j.1]
 have i:cR (.fl (aF b))=true:=by simp[cR,l.1]
 refine⟨2,?_⟩;rw[e h,e h'];refine⟨kI g,kI i,by simp only[deep];lia,q _ ?_⟩;have:=BA _ _ g i;rw[Bool.not_eq_true',<-Bool.not_eq_true,this];exact⟨λz d=>z (by rw[d]),λz d=>z (qE (by injection d))⟩
def o9:OA:=λds mh Q=>∃a b:List Nat,ds=[IY a b]/\a.length<=100/\b.length<=100/\∀c:Bool,(c=true↔¬a.Perm b)->Q (.bl c) mh
theorem QO(ds:List D)(mh:MH)(R:DK)(ok:iA mh)(hs:o9 ds mh R):gX (En mh R) (aG ["marked"] ds) mh:=by
 obtain⟨a,b,rfl,la,lb,q⟩:=hs;simp[gX,aG,IY,tP];refine⟨_,rfl,by simp[aF];lia,mJ a,λl d s1=>⟨_,rfl,by simp[aF];lia,mJ b,λl' e s2=>?_⟩⟩;have hi:=FT d s1 e s2;obtain⟨c,rfl,_⟩:=yI d;obtain⟨g,rfl,_⟩:=yI e;refine DI (aU (aL _ _)) (aL _ _) λk f=>?_;refine((bE.refl.push _).push _).out ok rfl (q k ?_);rw[f,<-hi];exact not_congr ⟨λz=>by rw[z],qE⟩
theorem rS:∀(own:List Nat) (k:Nat),m7 k (aF own)=(List.range own.length).map λi=>D.tup [.int ((k+i:Nat):Int),.int (mk own i:Nat)]
 | [],k=>rfl
 | a::own,k=>by
  have b:=rS own (k+1);have e:aF (a::own)= .int (a:Nat)::aF own:=rfl;rw[e,m7,b,List.length_cons,List.range_succ_eq_map,List.map_cons,List.map_map];congr 1;refine aKg λi _=>?_;simp only[Function.comp,mk,List.getD_cons_succ,Nat.succ_eq_add_one];rw[show k+1+i=k+(i+1) by lia]
def bM(own:List Nat)(n:Nat):List D:=(List.range own.length).map λi=>.tup [.int (mk own i:Nat),.bl (decide (i=n))]
theorem C1{a n:Nat}{E:jK}{kk:List D}{a0 a1 b:Option D}(d:own.length<=100)(c:mh[a]? =some (.lst kk))(kl:kk.length<=10)
  (q:E.nx [a0,a1,b,some (.ref a),some (.tup (aF own)),some (.int (n:Nat))] (List.set (mh++[MO.lst (bM own n)]) a (MO.lst (kk++[D.ref (List.length mh)])))):
  iF oO E [a0,a1,b,some (.ref a),some (.tup (aF own)),some (.int (n:Nat))] mh:=by
 have sz:=aK4;have f:(aF own).length=own.length:=by simp[aF]
 simp[iF,nW,bC];refine⟨⟨_,c⟩,by lia,?_⟩;rw[rS];refine iE (λi=>D.tup [.int ((0+i:Nat):Int),.int (mk own i:Nat)]) (λi=>i) (λi=>.tup [.int (mk own i:Nat),.bl (decide (i=n))]) (List.range own.length) (by simp[bC]) (λi hi N hN=>?_) ?_
 ·simp[kK];have e:(((i:Nat):Int)==((n:Nat):Int))=decide (i=n):=by rw[Bool.eq_iff_iff];simp;lia
  rw[e];exact⟨by lia,hN⟩
 ·rw[eP (aU c)];exact⟨by lia,by simpa[bM] using q⟩
theorem W7(own:List Nat)(n:Nat):∀k∈bM own n,Ky k:=λk a=>by
 obtain⟨i,_,rfl⟩:=aK0.mp a;exact⟨_,rfl,rfl,by simp[deep,bX]⟩
def sWN:OA:=λds mh Q=>∃(a b:List Nat) (i j:Nat),ds=[IY a b,.int (i:Nat),.int (j:Nat)]/\a.length<=100/\b.length<=100/\Q (tG (bM a i) (bM b j)) mh
theorem aBi(ds:List D)(mh:MH)(R:DK)(ok:iA mh)(hs:sWN ds mh R):iU oO (En mh R) (aG ["first","net","other_net","keys","own","named"] ds) mh:=by
 obtain⟨a,b,i,j,rfl,la,lb,q⟩:=hs;have sz:=aK4;have l:bE mh (mh++[MO.lst []]):=bE.refl.push _;have g:∀(c:List Nat) (n:Nat),(bM c n).length=c.length:=λc n=>by simp[bM]
 simp[iU,nZ,aG,IY,bC,nU];refine⟨by lia,by lia,?_⟩;simp only[lO];simp;refine C1 la (aL _ _) (by simp) ?_;have pa:bE mh (List.set (mh++[MO.lst []]++[MO.lst (bM a i)]) mh.length (MO.lst ([]++[D.ref (mh++[MO.lst []]).length]))):=(l.push _).set (aJq _) _;have e:(List.set (mh++[MO.lst []]++[MO.lst (bM a i)]) mh.length (MO.lst ([]++[D.ref (mh++[MO.lst []]).length])))[mh.length]? =some (.lst ([]++[D.ref (mh++[MO.lst []]).length])):=bQ _ (aU (aL _ _));have f:(List.set (mh++[MO.lst []]++[MO.lst (bM a i)]) mh.length (MO.lst ([]++[D.ref (mh++[MO.lst []]).length])))[(mh++[MO.lst []]).length]? =some (.lst (bM a i)):=get_set (aL _ _) (by simp);have m:(mh++[MO.lst []]).length=mh.length+1:=by simp
 rw[m]at e f pa⊢;generalize List.set (mh++[MO.lst []]++[MO.lst (bM a i)]) mh.length (MO.lst ([]++[D.ref (mh.length+1)]))=d at pa e f⊢;have o:mh.length+1<d.length:=(aJr.mp f).1;simp;refine C1 lb e (by simp) ?_;have pb:bE mh (List.set (d++[MO.lst (bM b j)]) mh.length (MO.lst ([]++[D.ref (mh.length+1)]++[D.ref d.length]))):=(pa.push _).set (aJq _) _;have f0:(List.set (d++[MO.lst (bM b j)]) mh.length (MO.lst ([]++[D.ref (mh.length+1)]++[D.ref d.length])))[mh.length]? =some (.lst ([]++[D.ref (mh.length+1)]++[D.ref d.length])):=bQ _ (aU e);have h:(List.set (d++[MO.lst (bM b j)]) mh.length (MO.lst ([]++[D.ref (mh.length+1)]++[D.ref d.length])))[mh.length+1]? =some (.lst (bM a i)):=get_set (aU f) (by lia);have k:(List.set (d++[MO.lst (bM b j)]) mh.length (MO.lst ([]++[D.ref (mh.length+1)]++[D.ref d.length])))[d.length]? =some (.lst (bM b j)):=get_set (aL _ _) (by lia);generalize List.set (d++[MO.lst (bM b j)]) mh.length (MO.lst ([]++[D.ref (mh.length+1)]++[D.ref d.length]))=p at pb f0 h k⊢;simp[nY];refine⟨mh.length,mh.length+1,d.length,bM a i,bM b j,rfl,f0,h,k,W7 a i,W7 b j,by rw[g];lia,by rw[g];lia,?_⟩;exact pb.out ok (by simp[bZ,aO,b8]) q
def N1:OA:=λds mh Q=>∃x y:Ls,ds=[eF x,eF y]/\gU x/\gU y/\x.m=y.m/\x.sw.length=y.sw.length/\Q (.bl true) mh
theorem aFk(ds:List D)(mh:MH)(R:DK)(ok:iA mh)(hs:N1 ds mh R):fP (En mh R) (aG ["one","other"] ds) mh:=by
 obtain⟨x,y,rfl,d,h,e,f,q⟩:=hs;have sz:=aK4;have g:∀a b c:D,jH [a,b,c] 2=some c:=λa b c=>rfl;have i:=d.lw;simp[fP,aG,eF,g,e,f];exact cZ q
def sA(a:List Nat):List Nat:=(List.range a.length).filter λi=>decide (1<a.count (mk a i))
def ML(l:List Nat)(v:Nat):Option D:=if l.count v=0 then none else some (.int ((l.count v:Nat):Int))
theorem RC(l:List Nat)(v u:Nat):(l++[v]).count u=l.count u+if v=u then 1 else 0:=by
 rw[List.count_append];by_cases e:v=u
 ·subst e;simp
 ·rw[if_neg e,List.count_cons_of_ne e];simp
def XE:OA:=λds mh Q=>∃a:List Nat,ds=[.tup (aF a)]/\a.length<=100/\Q (.ref mh.length) (mh++[.lst (aF (sA a))])
theorem VZ(ds:List D)(mh:MH)(R:DK)(ok:iA mh)(hs:XE ds mh R):gW (En mh R) (aG ["own","many","mark"] ds) mh:=by
 obtain⟨a,rfl,la,q⟩:=hs;have sz:=aK4;simp[gW,lX,aG,bC];refine c5 (λi f M=>(∃h,f=[some (D.tup (aF a)),some (.ref mh.length),h])/\bE mh M/\∃kvs,M[mh.length]? =some (.dic false kvs)/\kvs.length<=i/\∀v:Nat,fH kvs (.int (v:Nat))=ML (a.take i) v) _ (λ_ _ _ _=>trivial) ?_ ?_ ⟨⟨_,rfl⟩,bE.refl.push _,[],aL _ _,by simp,λv=>by simp[fH,ML]⟩
 ·rintro i d f M N hi ⟨⟨h,rfl⟩,px,kvs,g,kl,b⟩ nx;obtain⟨v,c,rfl⟩:=nJ hi;have k:i<a.length:=(aJr.mp c).1;have l:a.take (i+1)=a.take i++[v]:=by rw[List.take_add_one,c];rfl
  simp[lD];refine⟨⟨_,g⟩,kvs,g,⟨.inl (v:Int),rfl⟩,?_⟩
  have m:(fH kvs (.int (v:Nat))).getD (.int 0)= .int (((a.take i).count v:Nat):Int):=by
   rw[b v,ML];by_cases e:(a.take i).count v=0
   ·rw[if_pos e,e];rfl
   ·rw[if_neg e];rfl
  rw[m];simp;refine⟨_,kvs,.inl (v:Int),rfl,g,rfl,by lia,?_⟩;refine nx _ _ ⟨⟨_,rfl⟩,px.set (aJq _) _,_,bQ _ g,?_,λu=>?_⟩
  ·have:=N8 kvs (.int (v:Nat)) (.int (((a.take i).count v:Nat)+1:Int))
   lia
  ·rw[l,ML,RC];by_cases e:v=u
   ·subst e;rw[SO,if_pos rfl,if_neg (by lia)];simp
   ·rw[FJ _ _ (λz=>e (by injection z with z;lia)),b u,ML,if_neg e,Nat.add_zero]
 ·rintro f M ⟨⟨h,rfl⟩,px,kvs,g,kl,b⟩;rw[show (aF a).length=a.length by simp[aF],List.take_length]at b;simp[lW,bC];refine⟨by simp[aF];lia,?_⟩;rw[rS];refine G9 (λi=>D.tup [.int ((0+i:Nat):Int),.int (mk a i:Nat)]) (λi=>decide (1<a.count (mk a i))) (λi=>i) (λi=>.int (i:Nat)) (List.range a.length) (by simp[bC]) (λi hi N r n o=>?_) ?_
  ·have j :i<a.length:=by simpa using hi
   have p:a.count (mk a i)≠0:=λz=>List.count_eq_zero.mp z (PB j);simp[kK];refine⟨_,kvs,.inl (mk a i:Int),_,rfl,g,rfl,by rw[b,ML,if_neg p],?_⟩;simp;by_cases e:1<a.count (mk a i)
   ·rw[if_pos (by lia)];simpa using n (by simpa using e)
   ·rw[if_neg (by lia)];exact o (by simpa using e)
  ·refine(px.push _).tG ok px.le (aL _ _) (b8 _ _) ?_;simpa[sA,aF] using q
def tD(t:List Nat×List Nat):D:=IY t.1 t.2
def S9:OA:=λds mh Q=>∃(r i j:Nat) (tl:List (List Nat×List Nat)),ds=[.ref r,.int (i:Nat),.int (j:Nat)]/\mh[r]? =some (.lst (tl.map tD))/\tl.length<=1000/\(∀t∈tl,i<t.1.length/\j<t.2.length)/\
 ∀d,(d= .bY\/∃(k:Nat) (t:List Nat×List Nat),d= .int (k:Nat)/\t∈tl/\mk t.1 i≠mk t.2 j)->Q d mh
theorem aFi(ds:List D)(mh:MH)(R:DK)(ok:iA mh)(hs:S9 ds mh R):dN (En mh R) (aG ["told","net","other_net","rounds","marked"] ds) mh:=by
 obtain⟨r,i,j,tl,rfl,f,g,k,q⟩:=hs;have sz:=aK4;have cl:=G8 (tl.map tD) none (some 2);simp[dN,aG];rw[aDp f];rw[bH (aL _ _)];simp only[aI];simp at cl;refine⟨by lia,?_⟩;refine c5 (λ_ a M=>(∃b c,a=[some (D.ref r),some (.int (i:Nat)),some (.int (j:Nat)),b,c])/\M=mh++[.lst (cutD (tl.map tD) none (some 2))]) _ (λ_ _ M h=>by rw[h.2];exact bH (aL _ _)) ?_ ?_ ⟨⟨_,_,rfl⟩,rfl⟩
 ·rintro n d a M N l ⟨⟨b,c,rfl⟩,rfl⟩ nx;obtain⟨e,he,rfl⟩:=rV l;obtain⟨t,ht,rfl⟩:=aK0.mp (V7 (aJu he));obtain⟨m,o⟩:=k t ht;simp[gO,tD,IY,tP,lC m,lC o];by_cases e:mk t.1 i=mk t.2 j
  ·rw[if_pos (by lia)];exact nx _ _ ⟨⟨_,_,rfl⟩,rfl⟩
  ·rw[if_neg (by lia)];exact vB ok rfl (q _ (.inr ⟨n,t,rfl,ht,e⟩))
 ·rintro a M ⟨⟨b,c,rfl⟩,rfl⟩;simp[iH];exact vB ok rfl (q _ (.inl rfl))
def tC(t:List Nat×List Nat):List Nat:=t.1++t.2
structure TL(x y:Ls)(t0:List Nat×List Nat)(tl:List (List Nat×List Nat)):Prop where
 hd:tl[0]? =some t0
 nb:∀t∈tl,Mk x.m t.1 t.2
 fn:∀t∈tl,Fnr (tC t0) (tC t)
 rs:∀p,uC x y p->KD x.m p t0.1 t0.2->∀t∈tl,KD x.m p t.1 t.2
 ln:tl.length<=400
def Stb(x y:Ls)(t:List Nat×List Nat):Prop:=¬t.1.Perm t.2\/∀i j,i<x.m->j<x.m->mk t.1 i=mk t.2 j->(tells x t.1 i).Perm (tells y t.2 j)
theorem vS(h:i<K1.length):fI (K1++K2) i=fI K1 i:=by simp[fI,List.getD,List.getElem?_append_left h]
theorem vR(h:K1.length=m):fI (K1++K2) (m+j)=fI K2 j:=by
 subst h;simp[fI,List.getD,List.getElem?_append_right]
section
variable {x y:Ls}{a b:List Nat}{K1 K2:List D}(hm:y.m=x.m)(mk0:Mk x.m a b)(k1:wW x a K1)(k2:wW y b K2)
include hm mk0 k1 k2
theorem D4(hi:i<x.m+x.m):∃L,fI (K1++K2) i= .tup [.int (mk (a++b) i:Nat),.tup L]:=by
 by_cases h:i<x.m
 ·obtain⟨L,e,_⟩:=nK k1 h;exact⟨L,by rw[vS (by rw[k1.len];exact h),e,c7 (by rw[mk0.la];exact h)]⟩
 ·obtain⟨j,rfl⟩:∃j,i=x.m+j:=⟨i-x.m,by lia⟩
  obtain⟨L,e,_⟩:=nK k2 (n:=j) (by lia);exact⟨L,by rw[vR k1.len,e,nH mk0.la]⟩
theorem vG:(K1++K2).length=x.m+x.m:=by simp[k1.len,k2.len,hm]
theorem IV:Mk x.m (aH [] K1) (aH (K1.foldl aY []) K2):=GA k1.len (by rw[k2.len,hm])
theorem IW:Fnr (a++b) (aH [] K1++aH (K1.foldl aY []) K2):=λi j hi c e=>by
 have f:=vG hm mk0 k1 k2;rw[<-eR]at hi c e;rw[bN,f]at hi c;have d :=(eE (by lia) (by lia)).mp e;obtain⟨L,g⟩:=D4 hm mk0 k1 k2 hi;obtain⟨k,h⟩:=D4 hm mk0 k1 k2 c;rw[g,h]at d;simp at d
 lia
theorem UQ:(aH [] K1++aH (K1.foldl aY []) K2)=a++b\/eqs (aH [] K1++aH (K1.foldl aY []) K2)<eqs (a++b):=by
 obtain⟨K,kl,e⟩:=mk0.nu;have fn:=IW hm mk0 k1 k2;have c:=vG hm mk0 k1 k2;rw[<-eR]at fn⊢;rw[e]at fn⊢;exact S0 (by lia) fn
theorem UP(e:(aH [] K1++aH (K1.foldl aY []) K2)=a++b)(hi:i<x.m)(k:j<x.m)(h:mk a i=mk b j):(tells x a i).Perm (tells y b j):=by
 have l:=vG hm mk0 k1 k2;rw[<-c7 (a:=a) (b:=b) (by rw[mk0.la];exact hi),<-nH (a:=a) (b:=b) mk0.la,<-e,<-eR]at h;have h' :=(eE (by lia) (by lia)).mp h;rw[vS (by rw[k1.len];exact hi),vR k1.len]at h';obtain⟨L,d,c,_⟩:=nK k1 hi;obtain⟨o,f,g,_⟩:=nK k2 (n:=j) (by lia);rw[d,f]at h';simp at h';rw[h'.2]at c;exact c.symm.trans g
end
variable{tl:List (List Nat×List Nat)}
theorem TL.snoc{t0 l:List Nat×List Nat}(h:TL x y t0 (tl++[l]))(c:gU x)(hm:y.m=x.m)(k1:wW x l.1 K1)(k2:wW y l.2 K2)(d:tl.length+2<=400):TL x y t0 ((tl++[l])++[(aH [] K1,aH (K1.foldl aY []) K2)]):=by
 have a:l∈tl++[l]:=by simp
 have mk0:=h.nb l a;refine⟨?_,λt ht=>?_,λt ht=>?_,λp is r t ht=>?_,by simp;lia⟩
 ·rw[List.getElem?_append_left (by simp)];exact h.hd
 ·rcases aJx.mp ht with ht | ht
  ·exact h.nb t ht
  ·simp at ht;subst ht;exact IV hm mk0 k1 k2
 ·rcases aJx.mp ht with ht | ht
  ·exact h.fn t ht
  ·simp at ht;subst ht;have b:=IV hm mk0 k1 k2;exact(h.fn l a).trans (IW hm mk0 k1 k2) (by simp[tC,b.la,b.lb,mk0.la,mk0.lb])
 ·rcases aJx.mp ht with ht | ht
  ·exact h.rs p is r t ht
  ·simp at ht;subst ht;exact QI is c k1 k2 (h.rs p is r l a)
theorem aA0{a b c d:List Nat}(q:∀k:Bool,(k=true↔a=c/\b=d)->Q (.bl k) mh):oEq (IY a b) (IY c d) mh Q:=by
 have f:∀a b:List Nat,gD [D.tup (aF a),.tup (aF b)]=true/\bX [D.tup (aF a),.tup (aF b)]<=2:=λa b=>by
  have e:=kH a;have g:=kH b;refine⟨by simp[gD,cR,e.1,g.1],?_⟩;simp only[bX,deep]
  lia
 unfold IY;rw[aDu];refine⟨gC (f a b).1,gC (f c d).1,by have:=(f a b).2;lia,q _ ?_⟩;rw[qH _ _ (f a b).1 (f c d).1];simp only[List.cons.injEq,D.tup.injEq,and_true];exact⟨λz=>⟨qE z.1,qE z.2⟩,λz=>by rw[z.1,z.2];exact⟨rfl,rfl⟩⟩
def YT:OA:=λds mh Q=>∃(a b:Nat) (x y:Ls) (t0:List Nat×List Nat),ds=[.tup [.ref a,.ref b],tD t0]/\gU x/\gU y/\y.m=x.m/\HA mh a x/\HA mh b y/\Mk x.m t0.1 t0.2/\
 ∀tl l,TL x y t0 (tl++[l])->Stb x y l->Q (.ref mh.length) (mh++[.lst ((tl++[l]).map tD)])
theorem AB(n:Nat):∀tl:List (List Nat×List Nat),aO n (tl.map tD)=true
 | []=>rfl
 | t::tl=>by simp[aO,bZ,tD,IY,b8,AB n tl]
theorem aJ0(ds:List D)(mh:MH)(R:DK)(ok:iA mh)(hs:YT ds mh R):kU o9 sR (En mh R) (aG ["sides","first","told","following"] ds) mh:=by
 obtain⟨d,f,x,y,t0,rfl,m,v,hm,w,A,mk0,q⟩:=hs;have sz:=aK4;have I:=m.m8
 have go:∀(k:Nat) (tl:List (List Nat×List Nat)) (l:List Nat×List Nat) (M:MH) (n:Option D),eqs (tC l)<=k->TL x y t0 (tl++[l])->tl.length+k<=330->bE mh M->M[mh.length]? =some (.lst ((tl++[l]).map tD))->
   dX (j8 (o5 (aD o9 (aA (aZ cM (aB 2) (RX xC (wC (.int 1)))) aC)))) (jL o9 sR) {En mh R with nx:=dO o9 sR (En mh R)} (k+1) [some (.tup [.ref d,.ref f]),some (tD t0),some (.ref mh.length),n] M:=by
  intro k
  induction k using Nat.strongRecOn with
  | ind k B=>
   intro tl l M n C T J px g;have E:l∈tl++[l]:=by simp
   have a:=T.nb l E;have o:jH ((tl++[l]).map tD) (-1)=some (tD l):=by rw[List.map_append];exact AY _ _
   have fin:Stb x y l->dO o9 sR (En mh R) [some (.tup [.ref d,.ref f]),some (tD t0),some (.ref mh.length),n] M:=λst=>by
    simp[dO];exact px.tG ok (aJq _) g (AB _ _) (q tl l T st)
   have b :∀u,Stb x y l->dO o9 sR (En mh R) [some (.tup [.ref d,.ref f]),some (tD t0),some (.ref mh.length),u] M:=λu st=>by
    simp[dO];exact px.tG ok (aJq _) g (AB _ _) (q tl l T st)
   rw[dX];simp;rw[dF g,o];simp only[aI];refine⟨l.1,l.2,rfl,by rw[a.la];lia,by rw[a.lb];lia,λc h=>?_⟩
   cases c with
   | true=>
    exact fin (.inl (h.mp rfl))
   | false=>
    simp[jL];rw[dF g,o];simp only[aI];refine⟨d,f,x,y,l.1,l.2,rfl,m,v,a.la,by rw[a.lb,hm],w.px px,A.px px,λK1 K2 k1 k2=>?_⟩;simp[lF];rw[dF g,o];simp only[aI];refine aA0 λc h=>?_
    cases c with
    | true=>
     simp;obtain⟨F,G⟩:=h.mp rfl;exact b _ (.inr λi j hi H e=>UP hm a k1 k2 (by rw[F,G]) hi H e)
    | false=>
     simp[lE,nW];refine⟨⟨_,g⟩,?_⟩;rw[eP g]
     have lt:eqs (aH [] K1++aH (K1.foldl aY []) K2)<k:=by
      rcases UQ hm a k1 k2 with z | z
      ·have:=List.append_inj z (by rw[bN,k1.len,a.la]);exact absurd (h.mpr this) aN4
      ·exact aK6 z C
     refine⟨by simp;lia,?_⟩
     obtain⟨s,rfl⟩:∃s,k=s +1:=⟨k-1,by lia⟩
     refine B s (aKt _) (tl++[l]) (aH [] K1,aH (K1.foldl aY []) K2) _ _ (Nat.le_of_lt_succ lt) (T.snoc m hm k1 k2 (by lia)) (by simp;lia) (px.set (aJq _) _) ?_;rw[bQ _ g,List.map_append (l₁:=tl++[l])];rfl
 have K:eqs (tC t0)<=324:=by
  refine aKe aBt ?_;have:(tC t0).length<=18:=by simp[tC,mk0.la,mk0.lb];lia
  exact Nat.mul_le_mul this this
 simp[kU,pK,aG];refine⟨by lia,kR (eqs (tC t0)+1) (go _ [] t0 _ _ (aJq _) ⟨rfl,?_,?_,?_,by simp⟩ (by simp;lia) (bE.refl.push _) (by simp))⟩
 ·intro t ht;simp at ht;subst ht;exact mk0
 ·intro t ht;simp at ht;subst ht;exact λi j _ _ e=>e
 ·intro p is r t ht;simp at ht;subst ht;exact r
theorem vF(c:K1.length=m)(e:K2.length=m)(hi:i<m)(f:j<m):mk (aH [] K1) i=mk (aH (K1.foldl aY []) K2) j↔fI K1 i=fI K2 j:=by
 have d:(aH [] K1).length=m:=by rw[bN,c]
 rw[<-c7 (a:=aH [] K1) (b:=aH (K1.foldl aY []) K2) (by lia),<-nH (a:=aH [] K1) (b:=aH (K1.foldl aY []) K2) d,<-eR];rw[eE (by simp;lia) (by simp;lia),vS (by lia),vR c]
def K9(a:List Nat)(i:Nat):Bool:=(List.range a.length).any λj=>decide (j≠i) && decide (mk a j=mk a i)
def R6(a:List Nat):Nat:=(List.range a.length).countP (K9 a)
theorem iN:K9 a i=true↔∃j,j<a.length/\j≠i/\mk a j=mk a i:=by
 simp only[K9,List.any_eq_true,List.mem_range,Bool.and_eq_true,decide_eq_true_eq]
theorem rM(h:i<a.length):fI (bM a n) i= .tup [.int (mk a i:Nat),.bl (decide (i=n))]:=by simp[fI,bM,List.getD,h]
theorem oZ(a:List Nat)(n:Nat):(bM a n).length=a.length:=by simp[bM]
theorem NC(hi:i<a.length)(b:j<a.length):mk (aH [] (bM a n)) i=mk (aH [] (bM a n)) j↔mk a i=mk a j/\(i=n↔j=n):=by
 rw[eE (by rw[oZ];exact hi) (by rw[oZ];exact b),rM hi,rM b];simp only[D.tup.injEq,List.cons.injEq,D.int.injEq,D.bl.injEq,and_true,decide_eq_decide];exact and_congr_left' (by lia)
theorem Z6(c:n<a.length)(h:K9 a n=true):R6 (aH [] (bM a n))<R6 a:=by
 unfold R6;have l:(aH [] (bM a n)).length=a.length:=by rw[bN,oZ]
 rw[l];refine nN (λi hi z=>?_) ⟨n,by simpa using c,h,?_⟩
 ·obtain⟨j,b,ne,e⟩:=iN.mp z;rw[l]at b;exact iN.mpr ⟨j,b,ne,((NC b (by simpa using hi)).mp e).1⟩
 ·rw[<-Bool.not_eq_true,iN];rintro⟨j,b,ne,e⟩;rw[l]at b;exact ne (((NC b c).mp e).2.mpr rfl)
theorem map_mk(a:List Nat):(List.range a.length).map (mk a)=a:=by
 refine aNi (by simp) λi c b=>?_;simp[mk,List.getD,b]
theorem KA(hi:i<a.length)(h:1<a.count (mk a i)):K9 a i=true:=by
 refine aK3 λc=>?_;have d:∀j,j<a.length->mk a j=mk a i->j=i:=λj b e=>aK3 λne=>c (iN.mpr ⟨j,b,ne,e⟩)
 have e:a.count (mk a i)=(List.range a.length).countP λj=>decide (mk a j=mk a i):=by
  have z:=aKo (List.count (mk a i)) (map_mk a);rw[<-z,List.count,List.countP_map];congr 1
 have f:((List.range a.length).countP λj=>decide (mk a j=mk a i))<=(List.range a.length).countP λj=>j==i:=List.countP_mono_left λj b z=>by
  simp only[decide_eq_true_eq]at z;simpa using d j (by simpa using b) z
 have g:((List.range a.length).countP λj=>j==i)<=1:=List.nodup_iff_count.mp aLq i
 lia
theorem BY:i∈sA a↔i<a.length/\1<a.count (mk a i):=by simp[sA]
theorem WR(h:sA a=[]):a.Nodup:=by
 rw[List.nodup_iff_count];intro v;by_cases b:v∈a
 ·obtain⟨i,hi,e⟩:=aMa b;have c :mk a i=v:=by simp[mk,List.getD,hi,e]
  refine aK3 λd=>?_;have:i∈sA a:=BY.mpr ⟨hi,by rw[c];lia⟩;rw[h]at this;simp at this
 ·rw[List.count_eq_zero.mpr b];lia
theorem N2(pm:p.Perm (List.range m))(la:a.length=m)(lb:b.length=m)(r:KD m p a b):a.Perm b:=by
 have c:a=p.map (mk b):=by
  rw[<-map_mk a,la,<-vA pm,List.map_map];refine aKg λi hi=>?_;exact(r i (by simpa using hi)).symm
 rw[c];refine(pm.map (mk b)).trans ?_;rw[<-lb,map_mk]
def tH(p:List Nat):D:= .tup [.str "one",.tup (aF p)]
def wV(d:D):Prop:=∃(z:Str) (es:List D),d= .tup (.str z::es)/\(z== "one")=false/\∀n,aO n es=true
theorem wV.refs(h:wV d)(n:Nat):bZ n d=true:=by
 obtain⟨z,es,rfl,_,h⟩:=h;simp[bZ,aO,h n]
theorem p7(p:List Nat)(n:Nat):bZ n (tH p)=true:=by simp[tH,bZ,aO,b8]
structure TW(x y:Ls)(t0:List Nat×List Nat)(tl:List (List Nat×List Nat))(l:List Nat×List Nat):Prop where
 T:TL x y t0 (tl++[l])
 st:Stb x y l
 nm:∀i j,i<x.m->j<x.m->mk t0.1 i=mk t0.2 j->bD x.ns i=bD y.ns j
def CV(n:Nat):OA:=λds mh Q=>∃(a b r:Nat) (x y:Ls) (t0:List Nat×List Nat) (tl:List (List Nat×List Nat)) (l:List Nat×List Nat),ds=[.tup [.ref a,.ref b],.ref r]/\gU x/\gU y/\y.m=x.m/\HA mh a x/\HA mh b y/\mh[r]? =some (.lst ((tl++[l]).map tD))/\TW x y t0 tl l/\R6 t0.1<n/\
 ∀d,((∃p,d=tH p/\uC x y p)\/(wV d/\∀p,uC x y p->¬KD x.m p t0.1 t0.2))->Q d mh
def NZ(n:Nat):OA:=λds mh Q=>∃(a b r i j:Nat) (x y:Ls) (t0:List Nat×List Nat) (tl:List (List Nat×List Nat)) (l:List Nat×List Nat),ds=[.tup [.ref a,.ref b],.ref r,.int (i:Nat),.int (j:Nat)]/\gU x/\gU y/\y.m=x.m/\HA mh a x/\HA mh b y/\mh[r]? =some (.lst ((tl++[l]).map tD))/\TW x y t0 tl l/\R6 t0.1<n+1/\i∈sA l.1/\j<x.m/\
 ∀d,((∃p,d=tH p/\uC x y p)\/(wV d/\∀p,uC x y p->KD x.m p t0.1 t0.2->mk p i≠j))->Q d mh
theorem VP(n:Nat)(ds:List D)(mh:MH)(R:DK)(ok:iA mh)(hs:NZ n ds mh R):tU S9 (CV n) YT sWN (En mh R) (aG ["sides","told","net","other_net","rounds"] ds) mh:=by
 obtain⟨A,B,r,i,j,x,y,t0,tl,l,rfl,g,C,hm,E,F,G,W,U,hi,M,q⟩:=hs;have sz:=aK4;have V:=g.m8;have H:l∈tl++[l]:=by simp
 have b:=W.T.nb l H;have o:t0∈tl++[l]:=aJu W.T.hd;have m0:=W.T.nb t0 o;obtain⟨L3,L1⟩:=BY.mp hi;rw[b.la]at L3;simp[tU,aG];refine⟨r,i,j,tl++[l],rfl,G,by have:=W.T.ln;lia,λt ht=>by have:=W.T.nb t ht;rw[this.la,this.lb];exact⟨L3,M⟩,λd hd=>?_⟩;rcases hd with rfl | ⟨k,t,rfl,ht,ne⟩
 ·have N:jH ((tl++[l]).map tD) 0=some (tD t0):=cT (j:=0) (by rw[List.getElem?_map,W.T.hd];rfl);simp[qZ,vD,yV,x3];rw[dF G,N];simp only[aI];refine⟨t0.1,t0.2,i,j,rfl,by rw[m0.la];lia,by rw[m0.lb];lia,?_⟩;refine⟨A,B,x,y,(aH [] (bM t0.1 i),aH ((bM t0.1 i).foldl aY []) (bM t0.2 j)),rfl,g,C,hm,E,F,GA (by rw[oZ,m0.la]) (by rw[oZ,m0.lb]),λc l' O s =>?_⟩;have px:bE mh (mh++[.lst ((c ++[l']).map tD)]):=bE.refl.push _;have I:(bM t0.1 i).length=x.m:=by rw[oZ,m0.la]
  have J:(bM t0.2 j).length=x.m:=by rw[oZ,m0.lb]
  have P:K9 t0.1 i=true:=by
   obtain⟨k,f,ne,e⟩:=iN.mp (KA (by rw[b.la];exact L3) L1);rw[b.la]at f;have:=W.T.fn l H k i (by simp[tC,b.la];lia) (by simp[tC,b.la];lia) (by rw[tC,c7 (by rw[b.la];exact f),c7 (by rw[b.la];exact L3)];exact e);rw[tC,c7 (by rw[m0.la];exact f),c7 (by rw[m0.la];exact L3)]at this;exact iN.mpr ⟨k,by rw[m0.la];exact f,ne,this⟩
  refine⟨A,B,mh.length,x,y,_,c,l',rfl,g,C,hm,E.px px,F.px px,aL _ _,⟨O,s,λu v a w e=>?_⟩,?_,λd hd=>?_⟩
  ·have K :=(vF I J a w).mp e;rw[rM (by rw[m0.la];exact a),rM (by rw[m0.lb];exact w)]at K;simp at K;exact W.nm u v a w (by lia)
  ·have:=Z6 (by rw[m0.la];exact L3) P;show R6 (aH [] (bM t0.1 i))<n
   lia
  ·rcases hd with ⟨p,rfl,is⟩ | ⟨L,h⟩
   ·exact px.out ok (p7 p _) (q _ (.inl ⟨p,rfl,is⟩))
   ·refine px.out ok (L.refs _) (q _ (.inr ⟨L,λp is rs e=>h p is ?_⟩));refine u4 is.pm I J λu a=>?_;have Q:=gS is.pm a;have S:fI (bM t0.1 i) u=_:=rM (by rw[m0.la];exact a);have kp:fI (bM t0.2 j) (mk p u)=_:=rM (by rw[m0.lb];exact Q);rw[S,kp,rs u a];have:(mk p u=j)=(u=i):=propext ⟨λz=>mk_inj is.pm a L3 (by rw[z,e]),λz=>by rw[z,e]⟩;simp only[this]
 ·simp[qZ,vD,yV];refine⟨by lia,cZ (q _ (.inr ⟨⟨"marks",[.int (k:Nat)],rfl,by decide,λn=>rfl⟩,λp is rs e=>ne ?_⟩))⟩;have:=W.T.rs p is rs t ht i L3;rw[e]at this;exact this.symm
theorem y4{v:Nat}:∀{b:List Nat},v∈b->(aF b).findIdx? (λy=>d5 y (.int (v:Nat)))=some (b.idxOf v)
 | [],h=>by simp at h
 | u::b,h=>by
  have e:aF (u::b)= .int (u:Nat)::aF b:=rfl;rw[e,List.findIdx?_cons,List.idxOf_cons];by_cases z:u=v
  ·subst z;simp[d5]
  ·have hb:v∈b:=by rcases aK1.mp h with q | q;exact absurd q.symm z;exact q
   have a:d5 (.int (u:Nat)) (.int (v:Nat))=false:=by simp[d5];lia
   have c:(u==v)=false:=by simpa using z
   rw[a,c,y4 hb];simp
theorem y3:∀b:List Nat,(aF b).all sX=true
 | []=>rfl
 | u::b=>by
  have e:aF (u::b)= .int (u:Nat)::aF b:=rfl;rw[e,List.all_cons,y3 b];rfl
theorem rE{n:Nat}{d:D}:∀{ps:List D},aO n ps=true->bZ n d=true->aO n (ps++[d])=true
 | [],_,h=>by simp[aO,h]
 | e::ps,h1,h2=>by
  simp only[aO,Bool.and_eq_true,List.cons_append]at h1⊢;exact⟨h1.1,rE h1.2 h2⟩
variable{t0:List Nat×List Nat}
theorem GR{g k r:Nat}{l:List Nat×List Nat}{a5 a6:Option D}(ok:iA mh)(C:gU x)(J:gU y)(hm:y.m=x.m)(K:HA mh g x)(L:HA mh k y)(O:mh[r]? =some (.lst ((tl++[l]).map tD)))(W:TW x y t0 tl l)(P:R6 t0.1<n+1)
  (q:∀d,((∃p,d=tH p/\uC x y p)\/(wV d/\∀p,uC x y p->¬KD x.m p t0.1 t0.2))->R d mh) {b:Nat} {f:List Nat} (ha:sA l.1=b::f):
  lS o9 XE (NZ n) (En mh R) [some (.tup [.ref g,.ref k]),some (.ref r),some (tD l),some (.ref mh.length),some (.ref (mh.length+1)),a5,a6] (mh++[.lst (aF (sA l.1))]++[.lst []]):=by
 have sz:=aK4;have V:=C.m8;have E:=W.T.nb l (by simp);have XX:b∈sA l.1:=by rw[ha];simp
 have t:b<x.m:=by rw[<-E.la];exact(BY.mp XX).1
 have F:jH (aF (sA l.1)) 0=some (.int (b:Nat)):=by rw[ha];exact cT (j:=0) rfl
 have G:bE mh (mh++[.lst (aF (sA l.1))]++[.lst []]):=(bE.refl.push _).push _;have c:(mh++[MO.lst (aF (sA l.1))]++[MO.lst []])[mh.length]? =some (.lst (aF (sA l.1))):=aU (aL _ _)
 have a:(mh++[MO.lst (aF (sA l.1))]++[MO.lst []])[mh.length+1]? =some (.lst []):=by
  have:=aL (mh++[MO.lst (aF (sA l.1))]) (MO.lst []);simpa using this
 generalize mh++[MO.lst (aF (sA l.1))]++[MO.lst []]=X at G c a⊢;have Q:(aF l.2).length=x.m:=by simp[aF,E.lb]
 simp[lS,tD,IY,tP];refine⟨by lia,?_⟩;rw[Q];refine c5 (λi u M=>(∃a5 a6,u=[some (.tup [.ref g,.ref k]),some (.ref r),some (tD l),some (.ref mh.length),some (.ref (mh.length+1)),a5,a6])/\bE mh M/\M[mh.length]? =some (.lst (aF (sA l.1)))/\∃ps:List D,M[mh.length+1]? =some (.lst ps)/\ps.length=i/\(∀n,aO n ps=true)/\∀p,uC x y p->KD x.m p t0.1 t0.2->∀j,j<i->mk p b≠j) _ (λ_ _ _ _=>trivial) ?_ ?_ ⟨⟨_,_,rfl⟩,G,c,[],a,rfl,λ_=>rfl,λ_ _ _ j H=>absurd H (Nat.not_lt_zero _)⟩
 ·rintro i d u M N hi ⟨⟨a5,a6,rfl⟩,px,c,ps,a,v,o,s⟩ nx;obtain⟨I,rfl⟩:=nG hi;have S:(0:Int)+(i:Nat)=(i:Nat):=by lia
  rw[S];simp[pI];rw[dF c,F];simp only[aI];refine⟨g,k,r,b,i,x,y,t0,tl,l,rfl,C,J,hm,K.px px,L.px px,px.old O,W,P,XX,by lia,λd hd=>?_⟩
  rcases hd with ⟨p,rfl,is⟩ | ⟨w,h⟩
  ·simp[iG,tH];exact px.out ok (p7 p _) (q _ (.inl ⟨p,rfl,is⟩))
  ·obtain⟨z,es,rfl,hz,A⟩:=w;have B :jH (D.str z::es) 0=some (.str z):=cT (j:=0) rfl;simp[iG,B,hz,lR,nW];refine⟨⟨_,a⟩,?_⟩;rw[eP a];refine⟨by lia,nx _ _ ⟨⟨_,_,rfl⟩,px.set (by lia) _,get_set c (by lia),ps++[.tup (.str z::es)],bQ _ a,by simp[v],λn=>?_,λp is rs j H=>?_⟩⟩
   ·exact rE (o n) (by simp[bZ,aO,A n])
   ·by_cases e:j=i
    ·subst e;exact h p is rs
    ·exact s p is rs j (by lia)
 ·rintro u M ⟨⟨a5,a6,rfl⟩,px,c,ps,a,v,o,s⟩;have U:(eQ 0 x.m).length=x.m:=by simp
  rw[U]at v s;simp[sD];rw[dF c,F];simp only[aI];rw[bH a];simp only[aI];refine⟨by lia,px.out ok (by simp[bZ,aO,o]) (q _ (.inr ⟨⟨"tries",[.int (b:Nat),.tup ps],rfl,by decide,λn=>by simp[bZ,aO,o]⟩,λp is rs=>s p is rs _ (gS is.pm t) rfl⟩))⟩
theorem L4(n:Nat)(ds:List D)(mh:MH)(R:DK)(ok:iA mh)(hs:CV (n+1) ds mh R):nE o9 XE (NZ n) (En mh R) (aG ["sides","told","last","alike","papers","net","paper"] ds) mh:=by
 obtain⟨I,J,r,x,y,t0,tl,l,rfl,d,s,hm,A,B,f,W,C,q⟩:=hs;have sz:=aK4;have K:=d.m8;have g:l∈tl++[l]:=by simp
 have a:=W.T.nb l g;have h:t0∈tl++[l]:=aJu W.T.hd;have m0:=W.T.nb t0 h;have E:jH ((tl++[l]).map tD) (-1)=some (tD l):=by rw[List.map_append];exact AY _ _
 simp[nE,aG];rw[dF f,E];simp only[aI];simp[sH];refine⟨l.1,l.2,rfl,by rw[a.la];lia,by rw[a.lb];lia,λc t=>?_⟩
 cases c with
 | true=>
  simp[jP];rw[o8 f];simp;refine⟨by lia,cZ (q _ (.inr ⟨⟨"marks",_,rfl,by decide,λn=>rfl⟩,λp is rs=>t.mp rfl ?_⟩))⟩;exact N2 is.pm a.la a.lb (W.T.rs p is rs l g)
 | false=>
  have pm:l.1.Perm l.2:=aK3 λF=>aN4 (t.mpr F);simp[jP,sG,tD,IY];refine⟨l.1,rfl,by rw[a.la];lia,?_⟩;simp[sF,jP];by_cases ha:sA l.1=[]
  ·rw[if_pos (by rw[ha];rfl)];have st:∀M:MH,bC M (.tup (aF l.1))=some (aF l.1):=λ_=>rfl;rw[st];simp only[aI];refine iE (λv=>D.int (v:Nat)) (λv=>l.2.idxOf v) (λv=>.int (v:Nat)) l.1 rfl (λv G N hN=>?_) ?_
   ·have H:=y4 (pm.mem_iff.mp G);simp[kK,tP,nW];exact⟨_,_,_,rfl,rfl,y3 _,rfl,H,hN⟩
   ·rw[bH (aL _ _)];simp only[aI];have nd:=WR ha;refine⟨by lia,?_⟩;refine((bE.refl.push _).push _).out ok (p7 (lead l.1 l.2) _) (q _ (.inl ⟨lead l.1 l.2,rfl,?_⟩));refine sound d s hm a.la a.lb (λi j hi k e=>W.nm i j hi k ?_) (λi j hi k e=>?_) nd pm
    ·have:=W.T.fn l g i (x.m+j) (by simp[tC,a.la];lia) (by simp[tC,a.la,a.lb];lia) (by rw[tC,c7 (by rw[a.la];exact hi),nH a.la];exact e);rw[tC,c7 (by rw[m0.la];exact hi),nH m0.la]at this;exact this
    ·rcases W.st with z | z
     ·exact absurd pm z
     ·exact z i j hi k e
  ·rw[if_neg λz=>ha (by cases hz:sA l.1 with | nil=>rfl | cons u v=>rw[hz]at z;cases z)]
   obtain⟨w,b,o⟩:∃w b,sA l.1=w::b:=by
    cases hz:sA l.1 with
    | nil=>exact absurd hz ha
    | cons u v=>exact⟨u,v,rfl⟩
   simp[sE];have:=GR (a5:=none) (a6:=none) ok d s hm A B f W C q o;simpa[tD,IY] using this
theorem MD{l:List Nat×List Nat}(n:gU x)(hm:y.m=x.m)(o:t0.1=aH [] (bI x))(T:TL x y t0 (tl++[l]))(f:SE x):(sA l.1).length<=8:=by
 have r:=n.m8;have a:=T.nb l (by simp);have c:t0∈tl++[l]:=aJu T.hd;have m0:=T.nb t0 c
 have le:(sA l.1).length=(List.range x.m).countP λi=>decide (1<l.1.count (mk l.1 i)):=by
  rw[sA,a.la,List.countP_eq_length_filter]
 rcases f with f | ⟨i,hi,f⟩
 ·rw[le];have:=aMu (p:=λi=>decide (1<l.1.count (mk l.1 i))) (l:=List.range x.m);simp at this
  lia
 ·have lt:((List.range x.m).countP λi=>decide (1<l.1.count (mk l.1 i)))<(List.range x.m).countP λ_=>true:=by
   refine nN (λ_ _ _=>rfl) ⟨i,by simpa using hi,rfl,?_⟩;refine aL3 λh=>?_;obtain⟨k,b,ne,e⟩:=iN.mp (KA (by rw[a.la];exact hi) h);rw[a.la]at b;have:=T.fn l (by simp) k i (by simp[tC,a.la];lia) (by simp[tC,a.la];lia) (by rw[tC,c7 (by rw[a.la];exact b),c7 (by rw[a.la];exact hi)];exact e);rw[tC,c7 (by rw[m0.la];exact b),c7 (by rw[m0.la];exact hi),o]at this;have d:=(eE (by simp[bI];exact b) (by simp[bI];exact hi)).mp this;have g:∀{j:Nat},j<x.m->fI (bI x) j= .tup (bD x.ns j):=λq=>by simp[fI,bI,List.getD,q]
   rw[g b,g hi]at d;exact ne (f k b (by injection d))
  have:((List.range x.m).countP λ_=>true)=x.m:=by simp
  lia
def CZ:OA:=λds mh Q=>∃x y:Ls,ds=[eF x,eF y]/\gU x/\gU y/\SE x/\(∃p,uC x y p)/\∀p,uC x y p->Q (tH p) mh
theorem Z7(a:List Nat):R6 a<=a.length:=by
 unfold R6;refine aKe aMu ?_;simp
theorem aBm(ds:List D)(mh:MH)(R:DK)(ok:iA mh)(hs:CZ ds mh R):zM N1 uY YT u3 o9 XE (CV 12) (En mh R) (aG ["one","other","sides","told","paper"] ds) mh:=by
 obtain⟨x,y,rfl,a,b,FF,⟨p,is⟩,q⟩:=hs;have sz:=aK4;have I:=a.m8;have hm:=is.m;have E:x.sw.length=y.sw.length:=by have:=is.sw.length_eq;simpa using this.symm
 have o:(bI x).length=x.m:=by simp[bI]
 have w:(bI y).length=x.m:=by simp[bI,hm]
 simp[zM,aG];refine⟨x,y,rfl,a,b,hm.symm,E,?_⟩;simp[jP,CH];refine⟨x,y,rfl,a,b,λM r s px z A=>?_⟩;simp[CG];refine⟨x,y,rfl,a,b,?_⟩;have mk0:Mk x.m (aH [] (bI x)) (aH ((bI x).foldl aY []) (bI y)):=GA o w;refine⟨r,s,x,y,(aH [] (bI x),aH ((bI x).foldl aY []) (bI y)),rfl,a,b,hm,z,A,mk0,λtl l T st=>?_⟩;have f:bE mh (M++[.lst ((tl++[l]).map tD)]):=px.push _;have g:(M++[MO.lst ((tl++[l]).map tD)])[M.length]? =some (.lst ((tl++[l]).map tD)):=aL _ _;have B:jH ((tl++[l]).map tD) (-1)=some (tD l):=by rw[List.map_append];exact AY _ _
 have t:=T.nb l (by simp);have h :=z.px (bE.refl.push (MO.lst ((tl++[l]).map tD)));have k :=A.px (bE.refl.push (MO.lst ((tl++[l]).map tD)));generalize M++[MO.lst ((tl++[l]).map tD)]=M2 at f g h k ⊢
 have fin:∀u,bE M2 u->uG N1 uY YT u3 o9 XE (CV 12) (En mh R) [some (eF x),some (eF y),some (.tup [.ref r,.ref s]),some (.ref M.length),none] u:=λu n=>by
  simp[uG];refine⟨r,s,M.length,x,y,_,tl,l,rfl,a,b,hm,h.px n,k.px n,n.old g,⟨T,st,λi j hi F e=>?_⟩,?_,λd hd=>?_⟩
  ·have C :=(vF o w hi F).mp e;have v :j<y.m:=by lia
   have k1:fI (bI x) i= .tup (bD x.ns i):=by simp[fI,bI,List.getD,hi]
   have k2:fI (bI y) j= .tup (bD y.ns j):=by simp[fI,bI,List.getD,v]
   rw[k1,k2]at C;injection C
  ·have:=Z7 (aH [] (bI x));rw[bN,o]at this;show R6 (aH [] (bI x))<12
   lia
  ·rcases hd with ⟨p,rfl,is⟩ | ⟨_,G⟩
   ·simp[CD,tH];exact(f.trans n).out ok (p7 p _) (q p is)
   ·exact absurd (LV is a b) (G p is)
 simp[CF];rw[dF g,B];simp only[aI];refine⟨l.1,l.2,rfl,by rw[t.la];lia,by rw[t.lb];lia,λc J=>?_⟩
 cases c with
 | true=>
  simp[jP];exact fin M2 bE.refl
 | false=>
  simp[jP];rw[dF g,B];simp[tD,IY];refine⟨l.1,rfl,by rw[t.la];lia,?_⟩;dsimp only;rw[o8 (aL _ _)];have:=MD a hm rfl T FF;have H:(aF (sA l.1)).length=(sA l.1).length:=by simp[aF]
  rw[H];simp;rw[if_neg (by lia)];exact fin _ (bE.refl.push _)
def sNo:OA:=λds mh Q=>∃i:Int,ds=[.int i]/\Q (.bl true) mh
theorem QP(ds:List D)(mh:MH)(R:DK)(ok:iA mh)(hs:sNo ds mh R):fT (En mh R) (aG ["_law_thing"] ds) mh:=by
 obtain⟨i,rfl,q⟩:=hs;simp[fT,aG,XB];have a:rC "int" "int"=true:=by decide
 have b:rC "int" "bool"=false:=by decide
 have c: "int"∈bJ:=by decide
 have d: "bool"∈bJ:=by decide
 rw[a,b,if_pos rfl];exact⟨c,d,cZ q⟩
theorem fN{b:Type}:∀(l:List b) (i:Nat) (h:i<l.length),(l[i]::l.eraseIdx i).Perm l
 | [],i,h=>by simp at h
 | a::l,0,h=>by simp
 | a::l,i+1,h=>by
  simp only[List.getElem_cons_succ,List.eraseIdx_cons_succ];exact(List.Perm.swap _ _ _).trans ((fN l i (by simpa using h)).cons a)
theorem yL{b c:Type}(f:b->c):∀(l:List b) (i:Nat),(l.map f).eraseIdx i=(l.eraseIdx i).map f
 | [],i=>by simp
 | a::l,0=>by simp
 | a::l,i+1=>by simp[yL f l i]
def N0:OA:=λds mh Q=>∃b m:Nat,ds=[.ref b,.int (m:Nat)]/\m<=9/\B6 mh b/\∀(p:List Nat) a,p.Perm (List.range m)->dJ mh b a->Q (.ref a.length) (a++[.lst (aF p)])
theorem VU(ds:List D)(mh:MH)(R:DK)(ok:iA mh)(hs:N0 ds mh R):g7 cA (En mh R) (aG ["_law_bag_here","_law_many","_law_left","_law_found"] ds) mh:=by
 obtain⟨b,m,rfl,hm,hb,q⟩:=hs;have sz:=aK4
 have go:∀(k:Nat) (l f:List Nat) (M:MH),l.length=k->f.length<=9-k->k<=9->(f++l).Perm (List.range m)->dM mh b M->M[mh.length]? =some (.lst (aF l))->M[mh.length+1]? =some (.lst (aF f))->
   dX (eO (aZ DD (aD gK (aA (aB 2) aC)) (wC (.int 0)))) (gH cA) {En mh R with nx:=iJ cA (En mh R)} (k+1) [some (.ref b),some (.int (m:Nat)),some (.ref mh.length),some (.ref (mh.length+1))] M:=by
  intro k
  induction k with
  | zero=>
   intro l f M n v _ pm j a c;have e:l=[]:=aMk.mp n;subst e;simp only[dX];simp;rw[o8 a];simp[aF,iJ];rw[List.append_nil]at pm;exact j.tG ok (by lia) c (b8 _ _) λo t=>q f o pm t
  | succ k ih=>
   intro l f M n v z pm j a c;rw[dX];simp;rw[o8 a];have s:(aF l).length=k+1:=by simp[aF,n]
   rw[s];simp[gH,nW];refine⟨⟨_,c⟩,⟨_,a⟩,?_⟩;rw[o8 a,s];refine fX j (by lia) (by lia) λr M2 w A p x u=>?_;obtain⟨i,rfl⟩:=aKc w;have hi:i<l.length:=by lia
   have g :=u mh.length (aJq _);have h :=u (mh.length+1) (by lia);rw[a]at g;rw[c]at h;refine NX g (by lia) (d:= .int (l[i]:Nat)) (by simp[aF,hi]) ?_;rw[eP (get_set h (by lia))];have fl:(aF f).length=f.length:=by simp[aF]
   refine⟨by lia,?_⟩;refine ih (l.eraseIdx i) (f++[l[i]]) _ (by rw[List.length_eraseIdx_of_lt hi];lia) (by simp;lia) (by lia) ?_ ((p.set (aJq _) _).set (by lia) _) ?_ ?_
   ·rw[List.append_assoc];exact((fN l i hi).append_left f).trans pm
   ·refine get_set (bQ _ g) (by lia) |>.trans ?_;simp[aF,yL]
   ·refine(bQ _ (get_set h (by lia))).trans ?_;simp[aF]
 have j:dM mh b (mh++[MO.lst (eQ 0 m)]++[MO.lst []]):=((dM.refl hb).push _).push _;have a:(mh++[MO.lst (eQ 0 m)]++[MO.lst []])[mh.length]? =some (.lst (eQ 0 m)):=aU (aL _ _);have c:=aL (mh++[MO.lst (eQ 0 m)]) (MO.lst []);rw[show (mh++[MO.lst (eQ 0 m)]).length=mh.length+1 by simp]at c;simp[g7,mC,mB,aG];rw[show mh++[MO.lst (eQ 0 m),MO.lst []]=mh++[MO.lst (eQ 0 m)]++[MO.lst []] by simp];generalize mh++[MO.lst (eQ 0 m)]++[MO.lst []]=M at j a c⊢;refine⟨by lia,kR (m+1) ?_⟩;have y:eQ 0 m=aF (List.range m):=by simp[eQ,aF]
 rw[y]at a;exact go m (List.range m) [] M (by simp) (by simp) hm (by simp) j a c
def CY:OA:=λds mh Q=>∃(b m:Nat) (e:Int),ds=[.ref b,.int (m:Nat),.int e]/\1<=m/\m<=8/\B6 mh b/\∀(s:Sw) c,s.g<m->s.a<m->s.b<m->s.a<=s.b->dJ mh b c->Q (iB s) c
theorem AN(a b:Int):lx (enc (.int b)) (enc (.int a))=false↔a<=b:=by
 simp only[enc,bR,lx];by_cases h:b<a
 ·simp[h]
 ·rw[if_neg h];exact⟨λ_=>by lia,λ_=>by split <;> rfl⟩
theorem E5{a b c d:Int}(h:i<4):∃v:Int,jH [D.int a,.int b,.int c,.int d] (i:Nat)=some (.int v):=by
 have:i=0\/i=1\/i=2\/i=3:=by lia
 rcases this with rfl | rfl | rfl | rfl
 ·exact⟨a,cT rfl⟩
 ·exact⟨b,cT rfl⟩
 ·exact⟨c,cT rfl⟩
 ·exact⟨d,cT rfl⟩
theorem aC6{z:Str}{r:Int}(h0:0<=r)(a:r<z.cps.toList.length)(hz:z.length<=1000)(q:∀c,Q (.str ⟨#[c]⟩) mh):cM (.str z) (.int r) mh Q:=by
 refine⟨r,rfl,by rw[sizeLine_eq];omega,z.cps.toList[r.toNat]'(by omega),?_,q _⟩;have e:r=((r.toNat:Nat):Int):=by omega
 have:=cT (xs:=z.cps.toList) (j:=r.toNat) (v:=z.cps.toList[r.toNat]'(by omega)) (aKu (by omega));rw[<-e]at this;exact this
theorem L7(ds:List D)(mh:MH)(R:DK)(ok:iA mh)(hs:CY ds mh R):fR cA (En mh R) (aG ["_law_bag_here","_law_many","_law_easy","_law_sort","_law_tips","_law_kind"] ds) mh:=by
 obtain⟨b,m,M,rfl,m1,m8,hb,q⟩:=hs;have sz:=aK4;simp[fR,lH,aG];refine fX (.refl hb) (by lia) (by lia) λr M1 U V s W h1=>?_;refine aC6 U (by exact V) (by decide) λch=>?_;refine fX s (by lia) (by lia) λh M2 c0 c1 A X h2=>?_;refine fX A (by lia) (by lia) λj p e0 e1 k Y h3=>?_;refine⟨by lia,_,_,rfl,k7 (aL _ _),by simp,.inl ⟨.i,by simp[bW]⟩,λL pm pw=>?_⟩
 have B:∃x y:Int,L=[.int x,.int y]/\0<=x/\x<m/\0<=y/\y<m:=by
  have C:=pm.length_eq
  match L,C,pm with
  | [u,v],_,pm=>
   have N:=pm.mem_iff.mp (show u∈[u,v] by simp);have O:=pm.mem_iff.mp (show v∈[u,v] by simp);simp at N O;rcases N with rfl | rfl <;> rcases O with rfl | rfl <;> exact⟨_,_,rfl,by lia,by lia,by lia,by lia⟩
 obtain⟨x,y,rfl,Z,x1,y0,y1⟩:=B;obtain⟨x,rfl⟩:=aKc Z;obtain⟨y,rfl⟩:=aKc y0
 have E:x<=y:=by
  have:=(AN _ _).mp ((aL7.mp pw).1 _ (aNa.mpr rfl))
  lia
 have n:=(k.push (MO.lst [.int h,.int j])).push (MO.lst [.int (x:Nat),.int (y:Nat)]);have F:=aL (p++[MO.lst [.int h,.int j]]) (MO.lst [.int (x:Nat),.int (y:Nat)]);have f:mh.length<=(p++[MO.lst [.int h,.int j]]).length:=by have:=k.le;simp;lia
 dsimp only;generalize (p++[MO.lst [.int h,.int j]]).length=G at F f⊢;generalize p++[MO.lst [.int h,.int j]]++[MO.lst [.int (x:Nat),.int (y:Nat)]]=M4 at n F⊢;simp[lG];refine fX n (by lia) (by lia) λz P z0 z1 H ln5 h5=>?_;have Q:=h5 G f;rw[F]at Q;refine⟨by lia,?_⟩;have o:=H.push (MO.lst [.int 0,.int z]);have S:=aU (x:=MO.lst [.int 0,.int z]) Q;have T:=aL P (MO.lst [.int 0,.int z]);generalize P++[MO.lst [.int 0,.int z]]=M6 at o S T⊢
 have fin:∀i:Int,0<=i->i<4->gG cA (En mh R) [some (D.ref b),some (D.int (m:Nat)),some (D.int M),some (D.str {cps:= #[ch]}),some (D.ref G),some (.int i)] M6:=λi i0 i1=>by
  obtain⟨i,rfl⟩:=aKc i0;obtain⟨w,hw⟩:=E5 (a:=6) (b:=2) (c:=6) (d:=3) (i:=i) (by lia);obtain⟨l,C⟩:=E5 (a:=2) (b:=6) (c:=6) (d:=4) (i:=i) (by lia);simp[gG];refine fX o (by lia) (by lia) λg M7 g0 g1 I ln7 h7=>?_;have J:=h7 G f;rw[S]at J;obtain⟨g,rfl⟩:=aKc g0;have a0:jH [D.int (x:Nat),D.int (y:Nat)] 0=some (.int (x:Nat)):=rfl;rw[dF J,a0];simp only[aI];rw[dF J,tP];simp only[aI];refine⟨by lia,?_⟩;rw[dF (aL _ _),hw];simp only[aI];refine⟨by lia,?_⟩;rw[dF (aL _ _),C];simp only[aI];refine⟨by lia,((I.push _).push _).out ok rfl λK t=>q ⟨⟨#[ch]⟩,g,x,y,w,l⟩ K (by lia) (by lia) (by lia) E t⟩
 refine .inr ⟨_,rfl,?_⟩;dsimp only;rw[dF T];by_cases e:0<M
 ·simp only[e,decide_true,if_true,tP,aI];exact fin z z0 z1
 ·have a0:jH [D.int 0,D.int z] 0=some (.int 0):=rfl;simp only[e,decide_false,Bool.false_eq_true,if_false,a0,aI];exact fin 0 (by lia) (by lia)
def WX(m:Nat)(l:List (Str×Nat)):Prop:=∀p∈l,p.2<m
def FD(m:Nat)(l:List Sw):Prop:=∀s∈l,s.g<m/\s.a<m/\s.b<m/\s.a<=s.b
def sSm:OA:=λds mh Q=>∃b:Nat,ds=[.ref b,.int 8,.int 12]/\B6 mh b/\∀(x:Ls) a,gU x->SE x->dJ mh b a->Q (eF x) a
variable{ns:List (Str×Nat)}
theorem A5{b m o rs:Nat}{ss:List Sw}{v a6 w:Option D}(ok:iA mh)(q:∀(x:Ls) i,gU x->SE x->dJ mh b i->R (eF x) i)(m1:1<=m)(m8:m<=8)(y:dM mh b M)
  (z:M[o]? =some (.lst (ns.map fV))) (A:M[rs]? =some (.lst (ss.map iB))) (B:WX m ns) (s1:FD m ss) (I:ns.length<=12) (sl:ss.length<=13):
  jN cA CY (En mh R) [some (.ref b),some (.int 8),some (.int 12),v,some (.int (m:Nat)),some (.ref o),a6,w,some (.ref rs)] M:=by
 have sz:=aK4;simp[jN]
 have r:ns.map fV=(ns.map λp=>[Sum.inr p.1,Sum.inl (p.2:Int)]).map tupK:=by
  rw[List.map_map];exact aKg λp _=>rfl
 refine⟨ns.map λp=>[Sum.inr p.1,Sum.inl (p.2:Int)],by rw[<-r];exact bH z,by simp;lia,by rw[<-r];exact zQ ns,?_⟩;intro j C _ kl pw
 obtain⟨c,u,E⟩:∃c :List (Str×Nat),j.map tupK=c.map fV/\WX m c :=by
  refine all_map (f:=fV) (Pr:=λp=>p.2<m) λd hd=>?_;obtain⟨k,l,rfl⟩:=aK0.mp hd;obtain⟨p,F,rfl⟩:=aK0.mp ((C k).mp l);exact⟨p,B p F,rfl⟩
 have G:c.length<=12:=by
  have:=aKo List.length u;simp at this kl
  lia
 rw[u]at pw⊢;rw[bH (aL _ _)];simp only[aI];refine⟨_,_,rfl,k7 (aU A),by simp;lia,tW ss,λL pm n=>?_⟩
 obtain⟨h,rfl,s2⟩:∃h :List Sw,L=h.map iB/\FD m h :=by
  refine all_map (f:=iB) (Pr:=λs=>s.g<m/\s.a<m/\s.b<m/\s.a<=s.b) λd hd=>?_;obtain⟨s,hs,e⟩:=aK0.mp (pm.mem_iff.mp hd);exact⟨s,s1 s hs,e.symm⟩
 have H:h.length<=13:=by
  have:=pm.length_eq;simp at this
  lia
 rw[bH (aL _ _)];simp only[aI];refine⟨by lia,?_⟩;exact((y.push _).push _).out ok (u6 _ ⟨m,c,h⟩) λi t=>q ⟨m,c,h⟩ i ⟨m1,by lia,E,λs hs=>⟨(s2 s hs).1,(s2 s hs).2.1,(s2 s hs).2.2.1⟩,λs hs=>(s2 s hs).2.2.2,G,H,pw,n⟩ (.inl m8) t
theorem VQ{b m j:Nat}{J:Int}{a6 S T:Option D}(ok:iA mh)(q:∀(x:Ls) p,gU x->SE x->dJ mh b p->R (eF x) p)(m1:1<=m)(m8:m<=8)(U:dM mh b M)
  (B:mh.length<=j) (V:M[j]? =some (.lst (ns.map fV))) (C:WX m ns) (E:ns.length<=12):
  fS cA CY (En mh R) [some (.ref b),some (.int 8),some (.int 12),some (.int J),some (.int (m:Nat)),some (.ref j),a6,S,T] M:=by
 have sz:=aK4;simp[fS];refine fX U (by lia) (by lia) λt M1 t0 t1 F W X=>?_;have r :=X j B;rw[V]at r;obtain⟨t,rfl⟩:=aKc t0;simp;refine⟨by lia,?_⟩;refine qP (λi G k =>dM mh b k /\k[j]? =some (.lst (ns.map fV))/\∃ss:List Sw,G=ss.map iB/\ss.length=i/\FD m ss) _ (λ_ _ _ _=>trivial) ?_ ?_ ⟨F,r,[],rfl,rfl,by simp[FD]⟩
 ·rintro i d G k N hi ⟨a,A,ss,rfl,sl,so⟩ nx;simp[kK];refine⟨b,m,J,rfl,m1,m8,a.bag,λs Y s1 s2 Z s4 K=>?_⟩;refine nx _ _ ⟨a.to K,by rw[K.other (by have:=a.blt;lia)];exact A,ss++[s],by simp,by simp[sl],λz hz=>?_⟩;rcases aJx.mp hz with h | h
  ·exact so z h
  ·simp at h;subst h;exact⟨s1,s2,Z,s4⟩
 ·rintro G k ⟨a,A,ss,rfl,sl,so⟩;have rl:(eQ 0 t).length=t:=by simp
  rw[rl]at sl;have l:=a.push (MO.lst (ss.map iB));have n:=aU (x:=MO.lst (ss.map iB)) A;have c:=aL k (MO.lst (ss.map iB));have f:=a.le;have H:j≠k.length:=by have:=(aJr.mp A).1;lia
  generalize k ++[MO.lst (ss.map iB)]=Y at l n c⊢;generalize k.length=rs at c f H⊢;simp[oA];rw[o8 c];simp;by_cases hs:0<ss.length
  ·have hs' :((ss.length:Nat):Int) > 0:=by lia
   rw[if_pos hs];refine fX l (by lia) (by lia) λu M4 u0 u1 w ln4 L=>?_;have o:=L j B;have e:=L rs f;rw[n]at o;rw[c]at e;simp;by_cases O:u=1
   ·rw[if_pos O];simp[nW];refine⟨⟨_,e⟩,?_⟩;rw[o8 e];refine fX w (by simp;lia) (by simp;lia) λv M5 v0 v1 I ln5 P=>?_;obtain⟨v,rfl⟩:=aKc v0;have y:=P j B;have g:=P rs f;rw[o]at y;rw[e]at g;have Q:v<ss.length:=by simp at v1;lia
    have av:jH (ss.map iB) (v:Nat)=some (iB ss[v]):=cT (by simp[Q]);rw[dF g,av];simp only[aI];rw[eP g];refine⟨by simp;lia,?_⟩;refine A5 (ss:=ss++[ss[v]]) ok q m1 m8 (I.set f _) (get_set y (by lia)) ?_ C ?_ E (by simp;lia)
    ·refine(bQ _ g).trans ?_;simp
    ·intro z hz;rcases aJx.mp hz with h | h
     ·exact so z h
     ·simp at h;subst h;exact so _ (aNh Q)
   ·rw[if_neg O];exact A5 ok q m1 m8 w o e C so E (by lia)
  ·rw[if_neg hs];exact A5 ok q m1 m8 l n c C so E (by lia)
theorem aBk(ds:List D)(mh:MH)(R:DK)(ok:iA mh)(hs:sSm ds mh R):iZ cA CY (En mh R) (aG ["_law_bag_here","_law_most","_law_wires","_law_easy","_law_many","_law_names","_law_name","_law_kind","_law_switches"] ds) mh:=by
 obtain⟨b,rfl,hb,q⟩:=hs;have sz:=aK4;simp[iZ,oD,aG];refine fX (.refl hb) (by lia) (by lia) λI M1 _ _ L Y h1=>?_;refine fX L (by lia) (by lia) λm M2 Z c1 A ln2 h2=>?_;obtain⟨m,rfl⟩:=aKc Z;rw[zX];rw[show (1:Int)+(m:Nat)=((m+1:Nat):Int) by lia];generalize hm:m+1=k;have k1:1<=k:=by lia
 have k8:k<=8:=by lia
 simp[oC,oB];refine⟨by lia,?_⟩;have eW:[D.str "a",D.str "b",D.str "c",D.str "down",D.str "out",D.str "up"]=([Str.ofString "a",Str.ofString "b",Str.ofString "c",Str.ofString "down",Str.ofString "out",Str.ofString "up"]:List Str).map D.str:=rfl;rw[eW];have zl:([Str.ofString "a",Str.ofString "b",Str.ofString "c",Str.ofString "down",Str.ofString "out",Str.ofString "up"]:List Str).length=6:=rfl;generalize ([Str.ofString "a",Str.ofString "b",Str.ofString "c",Str.ofString "down",Str.ofString "out",Str.ofString "up"]:List Str)=j at zl⊢;rw[show M2++[MO.lst [],MO.lst (j.map D.str)]=M2++[MO.lst []]++[MO.lst (j.map D.str)] by simp];have B:=(A.push (MO.lst [])).push (MO.lst (j.map D.str));have f:=aU (x:=MO.lst (j.map D.str)) (aL M2 (MO.lst []));have g:=aL (M2++[MO.lst []]) (MO.lst (j.map D.str));rw[show (M2++[MO.lst []]).length=M2.length+1 by simp]at g;have l:=A.le;generalize M2++[MO.lst []]++[MO.lst (j.map D.str)]=M3 at B f g⊢;generalize M2.length=a at f g l⊢;rw[bH g];simp only[aI];refine c5 (λi J M=>(∃a6 O,J=[some (D.ref b),some (D.int 8),some (D.int 12),some (D.int I),some (D.int (k:Nat)),some (D.ref a),a6,O,none])/\dM mh b M/\M[a+1]? =some (.lst (j.map D.str))/\∃ns:List (Str×Nat),M[a]? =some (.lst (ns.map fV))/\WX k ns/\ns.length<=2*i) _ (λi J M h=>bH h.2.2.1) ?_ ?_ ⟨⟨_,_,rfl⟩,B,g,[],f,by simp[WX],by simp⟩
 ·rintro i d J M N hi ⟨⟨a6,O,rfl⟩,s,g,ns,f,o,K⟩ nx;obtain⟨z,hz,rfl⟩:=nJ hi;have hil:i<j.length:=(aJr.mp hz).1;simp[lZ,j4];refine fX s (by lia) (by lia) λu V u0 u1 C ln4 W=>?_;have r:=W a l;have t:=W (a+1) (by lia);rw[f]at r;rw[g]at t
  have E:∀(M:MH) (ns:List (Str×Nat)) (F:gM->MH->Prop),dM mh b M->M[a]? =some (.lst (ns.map fV))->M[a+1]? =some (.lst (j.map D.str))->WX k ns->ns.length<=100->
    (∀w c,dM mh b w ->w[a]? =some (.lst (c.map fV))->w[a+1]? =some (.lst (j.map D.str))->WX k c ->c.length=ns.length+1->F [some (D.ref b),some (D.int 8),some (D.int 12),some (D.int I),some (D.int (k:Nat)),some (D.ref a),some (.str z),some (.int u),none] w)->
    cA [D.ref b,D.int (k:Nat)] M λx n=>2<=sizeLine/\bO (D.ref a) [D.tup [D.str z,x]] n λx n=>F [some (D.ref b),some (D.int 8),some (D.int 12),some (D.int I),some (D.int (k:Nat)),some (D.ref a),some (.str z),some (.int u),none] n:=λM ns F s f g o K hF=>by
   refine fX s (by lia) (by lia) λv M5 v0 v1 P ln5 X=>?_;obtain⟨v,rfl⟩:=aKc v0;have y:=X a l;have G:=X (a+1) (by lia);rw[f]at y;rw[g]at G;refine⟨by lia,?_⟩;rw[eP y];refine⟨by simp;lia,hF _ (ns++[(z,v)]) (P.set l _) ((bQ _ y).trans (by simp[fV])) (get_set G (by lia)) ?_ (by simp)⟩;intro p hp;rcases aJx.mp hp with h | h
   ·exact o p h
   ·simp at h;subst h;lia
  have H:∀(M:MH) (ns:List (Str×Nat)),dM mh b M->M[a]? =some (.lst (ns.map fV))->M[a+1]? =some (.lst (j.map D.str))->WX k ns->ns.length<=2*i+1->
    fK cA CY {nx:=N,rt:=λd n=>Out (List.length mh) d n R,bk:=fS cA CY (En mh R),ct:=N} [some (D.ref b),some (D.int 8),some (D.int 12),some (D.int I),some (D.int (k:Nat)),some (D.ref a),some (.str z),some (.int u),none] M:=λM ns s f g o K=>by
   simp[fK];by_cases e:u=1
   ·rw[if_pos e];simp[nW];refine⟨⟨_,f⟩,E M ns N s f g o (by lia) λw c Q S T U b5=>nx _ _ ⟨⟨_,_,rfl⟩,Q,T,c,S,U,by lia⟩⟩
   ·rw[if_neg e];exact nx _ _ ⟨⟨_,_,rfl⟩,s,g,ns,f,o,by lia⟩
  simp;by_cases e:0<u
  ·rw[if_pos e];simp[nW];exact⟨⟨_,r⟩,E V ns _ C r t o (by lia) λw c Q S T U b5=>H w c Q S T U (by lia)⟩
  ·rw[if_neg e];exact H V ns C r t o (by lia)
 ·rintro J M ⟨⟨a6,O,rfl⟩,s,g,ns,f,o,K⟩;simp at K;exact VQ ok q k1 k8 s l f o (by lia)
def SqP(mh:MH)(d:D)(p:List Nat):Prop:=d= .tup (aF p)\/∃o,d= .ref o/\mh[o]? =some (.lst (aF p))
theorem SqP.px(h:SqP mh d p)(x:bE mh M):SqP M d p:=by
 rcases h with rfl | ⟨o,rfl,h⟩
 ·exact .inl rfl
 ·exact .inr ⟨o,rfl,x.old h⟩
theorem SqP.ix(h:SqP mh d p)(hi:i<p.length)(q:Q (.int (mk p i:Nat)) mh):cM d (.int (i:Nat)) mh Q:=by
 rcases h with rfl | ⟨o,rfl,h⟩
 ·simp[lC hi];exact q
 ·rw[dF h,lC hi];exact q
def nmI:D->Str×Nat
 | .tup [.str z,.int i]=>(z,i.toNat)
 | _=>("",0)
def swI:D->Sw
 | .tup [.str z,.int g,.int a,.int b,.int w,.int l]=>⟨z,g.toNat,a.toNat,b.toNat,w,l⟩
 | _=>⟨"",0,0,0,0,0⟩
theorem AL:∀l:List (Str×Nat),(l.map fV).map nmI=l
 | []=>rfl
 | q::l=>by simp only[List.map_cons,AL l];rfl
theorem AK:∀l:List Sw,(l.map iB).map swI=l
 | []=>rfl
 | q::l=>by simp only[List.map_cons,AK l];rfl
theorem OZ{l l' :List (Str×Nat)}(h:(l.map fV).Perm (l'.map fV)):l.Perm l' :=by
 have:=h.map nmI
 rwa [AL,AL]at this
theorem NO{l l' :List Sw}(h:(l.map iB).Perm (l'.map iB)):l.Perm l' :=by
 have:=h.map swI
 rwa [AK,AK]at this
theorem YX{s:Sw}{u v:Nat}(h:u=mk p s.a/\v=mk p s.b\/u=mk p s.b/\v=mk p s.a)(c:u<=v):(⟨s.s,mk p s.g,u,v,s.w,s.l⟩:Sw)=KY p s:=by
 unfold KY
 rcases h with ⟨rfl,rfl⟩ | ⟨rfl,rfl⟩
 ·rw[if_pos c]
 ·by_cases e:mk p s.a<=mk p s.b
  ·rw[if_pos e,Nat.le_antisymm c e]
  ·rw[if_neg e]
def FW:OA:=λds mh Q=>∃(x:Ls) (o:D) (p:List Nat),ds=[eF x,o]/\gU x/\SqP mh o p/\p.Perm (List.range x.m)/\∀y,gU y->uC x y p->Q (eF y) mh
theorem L6(ds:List D)(mh:MH)(R:DK)(ok:iA mh)(hs:FW ds mh R):eY (En mh R) (aG ["_law_some_here","_law_order_here","_law_names","_law_switches","_law_sort","_law_gate","_law_one","_law_other","_law_width","_law_length","_law_low","_law_high"] ds) mh:=by
 obtain⟨x,o,p,rfl,y,ho,r,q⟩:=hs;have sz:=aK4;have m8:=y.m8;have ln:=y.ln;have lw:=y.lw;have pl:p.length=x.m:=by rw[r.length_eq];simp
 have i0:jH [D.int x.m,D.tup (List.map fV x.ns),D.tup (List.map iB x.sw)] 0=some (D.int x.m):=rfl;have i1:jH [D.int x.m,D.tup (List.map fV x.ns),D.tup (List.map iB x.sw)] 1=some (D.tup (List.map fV x.ns)):=rfl;have i2:jH [D.int x.m,D.tup (List.map fV x.ns),D.tup (List.map iB x.sw)] 2=some (D.tup (List.map iB x.sw)):=rfl;simp[eY,aG,eF,i1,bC];refine iE fV (λa:Str×Nat=>(a.1,mk p a.2)) fV x.ns trivial (λa ha N hN=>?_) ?_
 ·have:=y.ns a ha;simp[fV,kK];exact ho.ix (by lia) ⟨by lia,hN⟩
 refine⟨_,_,rfl,k7 (aL _ _),by simp;lia,zQ _,λL pm pw=>?_⟩
 obtain⟨j,rfl,n2⟩:∃j :List (Str×Nat),L=j.map fV/\WX x.m j :=by
  refine all_map (f:=fV) (Pr:=λp=>p.2<x.m) λd hd=>?_;obtain⟨a,ha,e⟩:=aK0.mp (pm.mem_iff.mp hd);obtain⟨c,hc,rfl⟩:=aK0.mp ha;exact⟨_,gS r (y.ns c hc),e.symm⟩
 have l2:j.length<=12:=by
  have:=pm.length_eq;simp at this
  lia
 have A:bE mh (mh++[MO.lst ((x.ns.map λa:Str×Nat=>(a.1,mk p a.2)).map fV)]++[MO.lst (j.map fV)]):=(bE.refl.push _).push _;have t:=aL (mh++[MO.lst ((x.ns.map λa:Str×Nat=>(a.1,mk p a.2)).map fV)]) (MO.lst (j.map fV));have Q:mh.length<=(mh++[MO.lst ((x.ns.map λa:Str×Nat=>(a.1,mk p a.2)).map fV)]).length:=by simp
 generalize (mh++[MO.lst ((x.ns.map λa:Str×Nat=>(a.1,mk p a.2)).map fV)]).length=rn at t Q⊢;generalize mh++[MO.lst ((x.ns.map λa:Str×Nat=>(a.1,mk p a.2)).map fV)]++[MO.lst (j.map fV)]=S at A t⊢;have B:=aL S (MO.lst []);have I:=aU (x:=MO.lst []) t;have J:=A.push (MO.lst []);have T:=A.le;have U:=(aJr.mp t).1;simp[j7,j6,i2,bC];generalize S++[MO.lst []]=M1 at J B I⊢;generalize S.length=rs at B T U⊢;refine c5 (λi V M=>(∃W a5 a6 X Y Z C E,V=[some (D.tup [D.int x.m,D.tup (List.map fV x.ns),D.tup (List.map iB x.sw)]),some o,some (.ref rn),some (.ref rs),W,a5,a6,X,Y,Z,C,E])/\bE mh M/\M[rn]? =some (.lst (j.map fV))/\∃ss:List Sw,M[rs]? =some (.lst (ss.map iB))/\ss=(x.sw.take i).map (KY p)/\FD x.m ss) _ (λ_ _ _ _=>trivial) ?_ ?_ ⟨⟨_,_,_,_,_,_,_,_,rfl⟩,J,I,[],B,by simp,by simp[FD]⟩
 ·rintro i d V M N hi ⟨⟨W,a5,a6,X,Y,Z,C,E,rfl⟩,px,t,ss,B,es,so⟩ nx;obtain⟨s,hp,rfl⟩:=nJ hi;obtain⟨p1,p2,p3⟩:=y.sw s (aJu hp);have hil:i<x.sw.length:=(aJr.mp hp).1;simp[iB,i7];have sl:ss.length<=i:=by rw[es];simp;lia
  refine(ho.px px).ix (by lia) ((ho.px px).ix (by lia) ?_);refine⟨by lia,_,_,rfl,k7 (aL _ _),by simp,.inl ⟨.i,by simp[bW]⟩,λL pm pw=>?_⟩
  have two:∃u v:Nat,L=[.int (u:Nat),.int (v:Nat)]/\(u=mk p s.a/\v=mk p s.b\/u=mk p s.b/\v=mk p s.a):=by
   have hl:=pm.length_eq;have q1:=gS r p2;have q2:=gS r p3
   match L,hl,pm with
   | [u,v],_,pm=>
    have P:=pm.mem_iff.mp (show u∈[u,v] by simp);simp at P;rcases P with rfl | rfl
    ·have:=aMi pm;have:=aMb.mp this;simp at this;subst this;exact⟨_,_,rfl,.inl ⟨rfl,rfl⟩⟩
    ·have:=aMi (pm.trans (List.Perm.swap _ _ _));have:=aMb.mp this;simp at this;subst this;exact⟨_,_,rfl,.inr ⟨rfl,rfl⟩⟩
  obtain⟨u,v,rfl,F⟩:=two
  have K:u<=v:=by
   have:=(AN _ _).mp ((aL7.mp pw).1 _ (aNa.mpr rfl))
   lia
  have hr:=YX F K;have P:u<x.m:=by rcases F with z | z <;> rw[z.1] <;> exact gS r (by assumption)
  have hv:v<x.m:=by rcases F with z | z <;> rw[z.2] <;> exact gS r (by assumption)
  dsimp only;refine⟨_,k7 (aL _ _),rfl,?_⟩;have G:=(px.push (MO.lst [.int (mk p s.a:Nat),.int (mk p s.b:Nat)])).push (MO.lst [.int (u:Nat),.int (v:Nat)]);have O:=aU (x:=MO.lst [.int (u:Nat),.int (v:Nat)]) (aU (x:=MO.lst [.int (mk p s.a:Nat),.int (mk p s.b:Nat)]) t);have n:=aU (x:=MO.lst [.int (u:Nat),.int (v:Nat)]) (aU (x:=MO.lst [.int (mk p s.a:Nat),.int (mk p s.b:Nat)]) B);generalize M++[MO.lst [.int (mk p s.a:Nat),.int (mk p s.b:Nat)]]++[MO.lst [.int (u:Nat),.int (v:Nat)]]=M2 at G O n⊢;simp[gR,nW];refine⟨⟨_,n⟩,?_⟩;refine(ho.px G).ix (by lia) ⟨by lia,?_⟩;rw[eP n];refine⟨by simp;lia,nx _ _ ⟨⟨_,_,_,_,_,_,_,_,rfl⟩,G.set (by lia) _,get_set O (by lia),ss++[⟨s.s,mk p s.g,u,v,s.w,s.l⟩],(bQ _ n).trans (by simp[iB]),?_,?_⟩⟩
  ·rw[List.take_add_one,hp,hr,es];simp
  intro z hz;rcases aJx.mp hz with h | h
  ·exact so z h
  ·simp at h;subst h;exact⟨gS r p1,P,hv,K⟩
 ·rintro V M ⟨⟨W,a5,a6,X,Y,Z,C,E,rfl⟩,px,t,ss,B,es,so⟩;rw[show (List.map iB x.sw).length=x.sw.length by simp,List.take_length]at es;have sl:ss.length=x.sw.length:=by rw[es];simp
  simp[j5,i0];rw[bH t];simp only[aI];refine⟨_,_,rfl,k7 B,by simp;lia,tW ss,λL H pw3=>?_⟩
  obtain⟨k,rfl,s2⟩:∃k :List Sw,L=k.map iB/\FD x.m k :=by
   refine all_map (f:=iB) (Pr:=λs=>s.g<x.m/\s.a<x.m/\s.b<x.m/\s.a<=s.b) λd hd=>?_;obtain⟨s,hs,e⟩:=aK0.mp (H.mem_iff.mp hd);exact⟨s,so s hs,e.symm⟩
  have l3:k.length<=13:=by
   have:=H.length_eq;simp at this
   lia
  try dsimp only
  rw[bH (aL _ _)];simp only[aI];refine⟨by lia,?_⟩;exact(px.push _).out ok (u6 _ ⟨x.m,j,k⟩) (q ⟨x.m,j,k⟩ ⟨y.m1,m8,n2,λs hs=>⟨(s2 s hs).1,(s2 s hs).2.1,(s2 s hs).2.2.1⟩,λs hs=>(s2 s hs).2.2.2,l2,l3,pw,pw3⟩ ⟨r,rfl,OZ pm,by rw[<-es];exact NO H⟩)
theorem JC:∀{a:List Nat},(∀w∈a,1<=w)->a.length<=a.sum
 | [],_=>by simp
 | w::a,h=>by
  have:=JC λv b=>h v (aJt _ b);have:=h w aJs;simp only[List.length_cons,List.sum_cons]
  lia
def sPt:OA:=λds mh Q=>∃b t:Nat,ds=[.ref b,.int (t:Nat)]/\t<=6/\B6 mh b/\∀(c:List Nat) a,(∀w∈c,1<=w)->c.sum=t->dJ mh b a->Q (.ref a.length) (a++[.lst (aF c)])
theorem VT(ds:List D)(mh:MH)(R:DK)(ok:iA mh)(hs:sPt ds mh R):gZ cA (En mh R) (aG ["_law_bag_here","_law_total","_law_found","_law_part"] ds) mh:=by
 obtain⟨b,t,rfl,ht,hb,q⟩:=hs;have sz:=aK4
 have go:∀(k u:Nat) (a:List Nat) (M:MH) (m:Option D),u<=k->(∀w∈a,1<=w)->a.sum+u=t->dM mh b M->M[mh.length]? =some (.lst (aF a))->
   dX (eO (aZ DD (aB 1) (wC (.int 3)))) (cU cA) {En mh R with nx:=cJ cA (En mh R)} (k+1) [some (.ref b),some (.int (u:Nat)),some (.ref mh.length),m] M:=by
  intro k
  induction k using Nat.strongRecOn with
  | ind k o=>
   intro u a M m B f n i g;have C:=JC f;have E:(aF a).length=a.length:=by simp[aF]
   rw[dX];simp;by_cases F:3<u
   ·rw[if_pos (by lia)];simp[cU];refine fX i (by lia) (by lia) λr p s G j x y=>?_;have h:=y mh.length (aJq _);rw[g]at h;obtain⟨r,rfl⟩:=aKc s
    have fin:∀v:Nat,1<=v->v<=u->eZ cA {En mh R with nx:=dX (eO (aZ DD (aB 1) (wC (.int 3)))) (cU cA) {En mh R with nx:=cJ cA (En mh R)} k,ct:=dX (eO (aZ DD (aB 1) (wC (.int 3)))) (cU cA) {En mh R with nx:=cJ cA (En mh R)} k,bk:=cJ cA (En mh R)} [some (.ref b),some (.int (u:Nat)),some (.ref mh.length),some (.int (v:Nat))] p:=λv A H=>by
     simp[eZ,nW];refine⟨⟨_,h⟩,?_⟩;rw[eP h];refine⟨by lia,?_⟩;simp[i8];rw[show ((u:Nat):Int)-((v:Nat):Int)=((u-v:Nat):Int) by lia]
     obtain⟨l,rfl⟩:∃l,k=l +1:=⟨k-1,by lia⟩
     refine o l (aKt _) (u-v) (a++[v]) _ _ (by lia) (λw c =>?_) (by simp;lia) (j.set (aJq _) _) ((bQ _ h).trans (by simp[aF]));rcases aJx.mp c with z | z
     ·exact f w z
     ·simp at z;subst z;exact A
    simp[i9];by_cases e:((u:Nat):Int)-2<2+((r:Nat):Int)
    ·rw[if_pos (by lia)];exact fin u (by lia) (aJq _)
    ·rw[if_neg (by lia)];have:=fin (2+r) (by lia) (by lia);rw[show ((2+r:Nat):Int)=2+((r:Nat):Int) by lia]at this;exact this
   ·rw[if_neg (by lia)];simp[cJ];by_cases e:0<u
    ·rw[if_pos (by lia)];simp[nW];refine⟨⟨_,g⟩,?_⟩;rw[eP g];refine⟨by lia,?_⟩;simp[iI];refine(i.set (aJq _) _).tG ok (aJq _) (bQ _ g) (show aO _ _=true from rE (b8 _ _) rfl) λd tt=>?_
     have:=q (a++[u]) d (λw c =>by
      rcases aJx.mp c with z | z
      ·exact f w z
      ·simp at z;subst z;exact e) (by simp;lia) tt
     simpa[aF] using this
    ·rw[if_neg (by lia)];simp[iI];exact i.tG ok (aJq _) g (b8 _ _) λd tt=>q a d f (by lia) tt
 simp[gZ,l9,aG];exact kR (t+1) (go t t [] _ _ (aJq _) (by simp) (by simp) ((dM.refl hb).push _) (aL _ _))
theorem NP{a:List Nat}{i w:Nat}(h:a[i]? =some w):(a.take (i+1)).sum=(a.take i).sum+w:=by
 rw[List.take_add_one,h];simp
theorem sM:∀(a:List Nat) (i:Nat),(a.take i).sum<=a.sum
 | [],i=>by simp
 | w::a,0=>by simp
 | w::a,i+1=>by
  have:=sM a i;simp only[List.take_succ_cons,List.sum_cons]
  lia
theorem FD.mono{l:List Sw}(h:FD m l)(hm:m<=n):FD n l:=λs hs=>by
 obtain⟨b,c,d,a⟩:=h s hs;exact⟨by lia,by lia,by lia,a⟩
theorem FD.snoc{l:List Sw}{s:Sw}(h:FD m l)(c:s.g<m/\s.a<m/\s.b<m/\s.a<=s.b):FD m (l++[s]):=λz hz=>by
 rcases aJx.mp hz with q | q
 ·exact h z q
 ·simp at q;subst q;exact c
theorem YA{u v:Nat}{L:List D}(pm:L.Perm [.int (u:Nat),.int (v:Nat)])(pw:L.Pairwise (λd e=>lx (enc e) (enc d)=false)):∃a b:Nat,L=[.int (a:Nat),.int (b:Nat)]/\a<=b/\(a=u/\b=v\/a=v/\b=u):=by
 have f:=pm.length_eq
 have up:∀{a b:Nat},[D.int (a:Nat),D.int (b:Nat)].Pairwise (λd e=>lx (enc e) (enc d)=false)->a<=b:=λh=>by
  have:=(AN _ _).mp ((aL7.mp h).1 _ (aNa.mpr rfl))
  lia
 match L,f,pm,pw with
 | [x,y],_,pm,pw=>
  have c:=pm.mem_iff.mp (show x∈[x,y] by simp);simp at c;rcases c with rfl | rfl
  ·have:=aMb.mp (aMi pm);simp at this;subst this;exact⟨_,_,rfl,up pw,.inl ⟨rfl,rfl⟩⟩
  ·have:=aMb.mp (aMi (pm.trans (List.Perm.swap _ _ _)));simp at this;subst this;exact⟨_,_,rfl,up pw,.inr ⟨rfl,rfl⟩⟩
def sRg:OA:=λds mh Q=>∃(o c:Nat) (a:List Nat),ds=[.ref o,.int (c:Nat)]/\mh[o]? =some (.lst (aF a))/\(∀w∈a,1<=w)/\a.sum<=6/\c<=2/\∀x,gU x->SE x->Q (eF x) mh
theorem VS(ds:List D)(mh:MH)(R:DK)(ok:iA mh)(hs:sRg ds mh R):gY (En mh R) (aG ["_law_wheels","_law_more","_law_many","_law_switches","_law_size","_law_k","_law_tips"] ds) mh:=by
 obtain⟨o,c,l,rfl,ho,J,G,V,q⟩:=hs;have sz:=aK4;have ob:o<mh.length:=(aJr.mp ho).1;simp[gY,l7,l6,aG];rw[bH (aU ho)];simp only[aI];refine c5 (λi r M=>(∃B a5 a6,r=[some (.ref o),some (.int (c:Nat)),some (.int ((1+(l.take i).sum:Nat):Int)),some (.ref mh.length),B,a5,a6])/\bE mh M/\∃ss:List Sw,M[mh.length]? =some (.lst (ss.map iB))/\ss.length=(l.take i).sum/\FD (1+(l.take i).sum) ss) _ (λi r M h=>bH (h.2.1.old ho)) ?_ ?_ ⟨⟨none,none,none,by simp⟩,bE.refl.push _,[],aL _ _,by simp,by simp[FD]⟩
 ·rintro i d r M N hi ⟨⟨B,a5,a6,rfl⟩,px,ss,g,sl,so⟩ nx;obtain⟨w,t,rfl⟩:=nJ hi;have W:=J w (aJu t);have C:=NP t;have le:=sM l (i+1);generalize hm:1+(l.take i).sum=m at so⊢;simp[lJ];refine⟨by lia,?_⟩;refine c5 (λk r M=>(∃a5 a6,r=[some (.ref o),some (.int (c:Nat)),some (.int (m:Nat)),some (.ref mh.length),some (.int (w:Nat)),a5,a6])/\bE mh M/\∃ss:List Sw,M[mh.length]? =some (.lst (ss.map iB))/\ss.length=(l.take i).sum+k/\FD (m+w) ss) _ (λ_ _ _ _=>trivial) ?_ ?_ ⟨⟨_,_,rfl⟩,px,ss,g,by lia,so.mono (by lia)⟩
  ·rintro k d r M N K ⟨⟨a5,a6,rfl⟩,px,ss,g,sl,so⟩ E;obtain⟨O,rfl⟩:=nG K;have P:(0:Int)+(k:Nat)=(k:Nat):=by lia
   rw[P];have em:(((k:Nat):Int)+1) % ((w:Nat):Int)=(((k+1) % w:Nat):Int):=by lia
   have H:(k+1) % w<w:=aNj _ (by lia);simp[lI];rw[em];rw[show ((m:Nat):Int)+((k:Nat):Int)=((m+k:Nat):Int) by lia,show ((m:Nat):Int)+(((k+1) % w:Nat):Int)=((m+(k+1) % w:Nat):Int) by lia];refine⟨by lia,by lia,_,_,rfl,k7 (aL _ _),by simp,.inl ⟨.i,by simp[bW]⟩,λL pm pw=>?_⟩;obtain⟨a,b,rfl,F,X⟩:=YA pm pw;have u:=(px.push (MO.lst [.int ((m+k:Nat):Int),.int ((m+(k+1) % w:Nat):Int)])).push (MO.lst [.int (a:Nat),.int (b:Nat)]);have v:=aU (x:=MO.lst [.int (a:Nat),.int (b:Nat)]) (aU (x:=MO.lst [.int ((m+k:Nat):Int),.int ((m+(k+1) % w:Nat):Int)]) g);have A:=aL (M++[MO.lst [.int ((m+k:Nat):Int),.int ((m+(k+1) % w:Nat):Int)]]) (MO.lst [.int (a:Nat),.int (b:Nat)]);generalize (M++[MO.lst [.int ((m+k:Nat):Int),.int ((m+(k+1) % w:Nat):Int)]]).length=rt at A⊢;generalize M++[MO.lst [.int ((m+k:Nat):Int),.int ((m+(k+1) % w:Nat):Int)]]++[MO.lst [.int (a:Nat),.int (b:Nat)]]=M2 at u v A⊢;have a0:jH [D.int (a:Nat),D.int (b:Nat)] 0=some (.int (a:Nat)):=rfl;simp[i5,nW];refine⟨⟨_,v⟩,?_⟩;rw[dF A,a0];simp only[aI];rw[dF A,tP];simp only[aI];refine⟨by lia,?_⟩;rw[eP v];refine⟨by simp;lia,E _ _ ⟨⟨_,_,rfl⟩,u.set (aJq _) _,ss++[⟨"n",0,a,b,6,2⟩],(bQ _ v).trans (by simp[iB]),by simp;lia,so.snoc ⟨?_,?_,?_,F⟩⟩⟩
   ·show 0<m+w
    lia
   ·show a<m+w
    lia
   ·show b<m+w
    lia
  ·rintro r M ⟨⟨a5,a6,rfl⟩,px,ss,g,sl,so⟩;rw[show (eQ 0 w).length=w by simp]at sl;simp[i6];have Q:((m:Nat):Int)+((w:Nat):Int)=((1+(l.take (i+1)).sum:Nat):Int):=by rw[C];lia
   rw[Q];exact nx _ _ ⟨⟨_,_,_,rfl⟩,px,ss,g,by rw[C];exact sl,by rw[C];exact so.mono (by lia)⟩
 ·rintro r M ⟨⟨B,a5,a6,rfl⟩,px,ss,g,sl,so⟩;rw[show (aF l).length=l.length by simp[aF],List.take_length]at sl so⊢;simp[l5];refine⟨by lia,by lia,_,_,rfl,k7 g,by simp;lia,tW ss,λL pm pw=>?_⟩
  obtain⟨n,rfl,s2⟩:∃n :List Sw,L=n.map iB/\FD (1+l.sum) n :=by
   refine all_map (f:=iB) (Pr:=λs=>s.g<1+l.sum/\s.a<1+l.sum/\s.b<1+l.sum/\s.a<=s.b) λd hd=>?_;obtain⟨s,hs,e⟩:=aK0.mp (pm.mem_iff.mp hd);exact⟨s,so s hs,e.symm⟩
  have S:n.length<=13:=by
   have:=pm.length_eq;simp at this
   lia
  rw[bH (aL _ _)];simp only[aI];refine⟨by lia,?_⟩
  have T:D.tup [D.int (1+(l.sum:Nat)+(c:Nat)),D.tup [D.tup [D.str (Str.ofString "a"),D.int 0]],D.tup (n.map iB)]=eF ⟨1+l.sum+c,[(Str.ofString "a",0)],n⟩:=by
   simp[eF,fV]
  rw[T];refine(px.push _).out ok (u6 _ _) (q _ ⟨?_,?_,?_,?_,?_,?_,S,?_,pw⟩ (.inr ⟨0,?_,?_⟩))
  ·show 1<=1+l.sum+c
   lia
  ·show 1+l.sum+c<=9
   lia
  ·intro p I;simp at I;subst I;show 0<1+l.sum+c
   lia
  ·intro s hs;obtain⟨Y,Z,h3,_⟩:=s2 s hs;exact⟨by show _<1+l.sum+c;lia,by show _<1+l.sum+c;lia,by show _<1+l.sum+c;lia⟩
  ·exact λs hs=>(s2 s hs).2.2.2
  ·simp
  ·simp
  ·show 0<1+l.sum+c
   lia
  ·intro j hj e;by_cases z:j=0
   ·exact z
   ·have U :¬0=j:=λy=>z y.symm;simp[bD,U]at e
def IM:OA:=λds mh Q=>∃p:List Nat,ds=[tH p,.str "one",.int 2]/\Q (.bl true) mh
theorem aBh(ds:List D)(mh:MH)(R:DK)(ok:iA mh)(hs:IM ds mh R):iX (En mh R) (aG ["_law_thing","_law_word_here","_law_many"] ds) mh:=by
 obtain⟨p,rfl,q⟩:=hs;have sz:=aK4;have a0:∀d e:D,jH [d,e] 0=some d:=λ_ _=>rfl;have a:("tuple":String)∈bJ:=by decide
 have b:("str":String)∈bJ:=by decide
 have s1:rC "tuple" "tuple"=true:=by decide
 have s2:rC "str" "str"=true:=by decide
 simp[iX,aG,tH,XB,jP,a,b,s1,s2,a0,n5];exact cZ q
def uZ:OA:=λds mh Q=>∃(x y:Ls) (p:List Nat),ds=[eF x,eF y,tH p]/\gU x/\gU y/\uC x y p/\Q (.bl true) mh
theorem ED:∀l:List (Str×Nat),gD (l.map fV)=true/\bX (l.map fV)<=1
 | []=>⟨rfl,by simp[bX]⟩
 | n::l=>by
  obtain⟨a,b⟩:=ED l;refine⟨by simp[gD,cR,fV,a],?_⟩;simp only[List.map_cons,bX,fV,deep]
  lia
theorem EC:∀l:List Sw,gD (l.map iB)=true/\bX (l.map iB)<=1
 | []=>⟨rfl,by simp[bX]⟩
 | n::l=>by
  obtain⟨a,b⟩:=EC l;refine⟨by simp[gD,cR,iB,a],?_⟩;simp only[List.map_cons,bX,iB,deep]
  lia
theorem V2(x:Ls):cR (eF x)=true/\deep (eF x)<=3:=by
 have a:=ED x.ns;have b:=EC x.sw;refine⟨by simp[eF,cR,gD,a.1,b.1],?_⟩;simp only[eF,deep,bX]
 lia
theorem N6(m:Nat):(aF (List.range m)).Pairwise (λd e=>lx (enc e) (enc d)=false):=by
 unfold aF;rw[List.pairwise_map];exact aMs.imp λh=>(AN _ _).mpr (by lia)
theorem VW(ds:List D)(mh:MH)(R:DK)(ok:iA mh)(hs:uZ ds mh R):g8 IM sNo FW (En mh R) (aG ["_law_one","_law_other","_law_paper"] ds) mh:=by
 obtain⟨x,y,p,rfl,g,h,is,q⟩:=hs;have sz:=aK4;have t:=g.m8;have u:p.length=x.m:=by rw[is.pm.length_eq];simp
 have i:("tuple":String)∈bJ:=by decide
 have s1:rC "tuple" "tuple"=true:=by decide
 have j:∀a b c:D,jH [a,b,c] 0=some a:=λ_ _ _=>rfl;have st:∀M:MH,bC M (.tup (aF p))=some (aF p):=λ_=>rfl;simp[g8,aG];refine⟨p,rfl,?_⟩;simp[jP,tH,tP,XB,i,s1,mE,st];refine iE (λv=>D.int (v:Nat)) (λ_=>true) (λc=>.bl c) p trivial (λv w N hN=>?_) ?_
 ·simp[kK];exact⟨_,rfl,hN⟩
 ·rw[YS (aL _ _)];have k:((p.map λ_=>true).all id)=true:=by simp
  rw[k];simp[jP,eF,j];refine⟨_,rfl,by simp[aF];lia,mJ p,λL pm pw=>?_⟩;refine⟨by lia,?_⟩
  have l:L=aF (List.range x.m):=by
   refine iC (mJ p) (λd hd=>pm.mem_iff.mp hd) (pm.trans (is.pm.map _)) pw (N6 _)
  have n:eQ 0 x.m=aF (List.range x.m):=by simp[eQ,aF]
  rw[l,n];refine DI (aU (aL _ _)) (aL _ _) λc o=>?_
  cases c with
  | true=>exact absurd rfl (o.mp rfl)
  | false=>
   have px:bE mh (mh++[MO.lst (List.map (D.bl ∘ λx=>true) p)]++[MO.lst (aF (List.range x.m))]++[MO.lst (aF (List.range x.m))]):=((bE.refl.push _).push _).push _;generalize mh++[MO.lst (List.map (D.bl ∘ λx=>true) p)]++[MO.lst (aF (List.range x.m))]++[MO.lst (aF (List.range x.m))]=M at px⊢;simp[asB,mD,tP];refine⟨x,_,p,rfl,g,.inl rfl,is.pm,λz r s=>?_⟩;have e:=QG s is r h;have f:=V2 y;refine⟨0,?_⟩;show bare (eF z)=true/\bare (eF y)=true/\deep (eF z)<=40/\_;rw[e];refine⟨kI f.1,kI f.1,by have:=f.2;lia,?_⟩;show Out mh.length (.bl (d5 (eF y) (eF y))) M R;rw[(BA _ _ f.1 f.1).mpr rfl];exact px.out ok rfl q
theorem QQ{E:jK}{b:Nat}{a0 a1 k a5 a6:Option D}(e:gU x)(f:SE x)(hb:B6 mh b)
  (nx:∀M k a5 a6,E.nx [a0,a1,some (.ref b),some (eF x),k,a5,a6] M):
  o4 KW cA sRg sPt sSm FW N0 uZ CZ E [a0,a1,some (.ref b),some (eF x),k,a5,a6] mh:=by
 have sz:=aK4;have r:=e.m8;have s:∀a b c:D,jH [a,b,c] 0=some a:=λ_ _ _=>rfl;simp[o4];rw[show eF x= .tup [.int x.m,.tup (x.ns.map fV),.tup (x.sw.map iB)] from rfl,aDr,s];simp only[aI];refine⟨b,x.m,rfl,r,hb,λp t w C=>?_⟩;refine⟨x,_,p,rfl,e,.inr ⟨_,rfl,aL _ _⟩,w,λy g is=>?_⟩;rw[show D.tup [.int x.m,.tup (x.ns.map fV),.tup (x.sw.map iB)]=eF x from rfl];generalize t++[MO.lst (aF p)]=M2;have z:=V4 is e g f
 have n:∀d∈[D.tup [eF x,eF y],.tup [eF y,eF x],.tup [eF x,eF x],.tup [eF x,eF y]],∃u v,d= .tup [eF u,eF v]/\gU u/\gU v/\SE u/\∃p,uC u v p:=λd hd=>by
  simp at hd;rcases hd with rfl | rfl | rfl | rfl
  ·exact⟨x,y,rfl,e,g,f,p,is⟩
  ·exact⟨y,x,rfl,g,e,z,_,JR is e⟩
  ·exact⟨x,x,rfl,e,e,f,_,QH e⟩
  ·exact⟨x,y,rfl,e,g,f,p,is⟩
 simp[uE];refine⟨by lia,by lia,?_⟩;rw[bH (aL _ _)];simp only[aI];generalize [D.tup [eF x,eF y],.tup [eF y,eF x],.tup [eF x,eF x],.tup [eF x,eF y]]=L at n⊢;refine c5 (λi j M=>(∃a5 a6,j=[a0,a1,some (.ref b),some (eF x),some (eF y),a5,a6])/\M=M2++[MO.lst L]) _ (λi j M h=>by rw[h.2];exact bH (aL _ _)) ?_ ?_ ⟨⟨_,_,rfl⟩,rfl⟩
 ·rintro i d j M N hi ⟨⟨a5,a6,rfl⟩,rfl⟩ l;obtain⟨u,v,rfl,o,q,A,B⟩:=n d (aJu hi);simp[CB];refine⟨u,v,rfl,o,q,A,B,λp is=>?_⟩;refine⟨u,v,p,rfl,o,q,is,?_⟩;simp[jP];exact l _ _ ⟨⟨_,_,rfl⟩,rfl⟩
 ·rintro j M ⟨⟨a5,a6,rfl⟩,rfl⟩;exact nx _ _ _ _
theorem aFj(ds:List D)(mh:MH)(R:DK)(ok:iA mh)(hs:xA ds mh R):HV KW cA sRg sPt sSm FW N0 uZ CZ (En mh R) (aG ["_law_script","_law_k","_law_bag_here","_law_one","_law_other","_law_first","_law_second"] ds) mh:=by
 obtain⟨ns,rfl,t,q⟩:=hs;have sz:=aK4;simp[HV,aG];refine⟨by split <;> (try split) <;> lia,by split <;> (try split) <;> lia,?_⟩;refine c5 (λi l _=>∃a b c d e f,l=[some (.fl (ns.map .int)),a,b,c,d,e,f]) _ (λ_ _ _ _=>trivial) ?_ ?_ ⟨_,_,_,_,_,_,rfl⟩
 ·rintro i d l w N hi ⟨a,b,c,d',e,f,rfl⟩ nx;obtain⟨g,rfl⟩:=nG hi
  have y:i<12:=by
   revert g;split <;> (try split) <;> intro g <;> lia
  simp[CC];refine WQ t (by lia) (by lia) λA _ B=>?_;simp[uF];refine fX (.refl B) (by lia) (by lia) λu S T U h C V=>?_;simp;by_cases p:u=0
  ·rw[if_pos p];refine fX h (by lia) (by lia) λv M2 E W j F X=>?_;obtain⟨v,rfl⟩:=aKc E;rw[zX,show (2:Int)+((v:Nat):Int)=((2+v:Nat):Int) by lia];refine⟨_,2+v,rfl,by lia,j.bag,λG H I r J=>?_⟩;have k:=j.to J;refine fX (k.push _) (by lia) (by lia) λz Y K Z m L O=>?_;obtain⟨z,rfl⟩:=aKc K;have s:=O H.length k.le;rw[aL]at s;exact⟨_,z,G,rfl,s,I,by lia,by lia,λx n o=>QQ n o m.bag λM P a5 a6=>nx _ _ ⟨_,_,_,_,_,_,rfl⟩⟩
  ·rw[if_neg p];exact⟨_,rfl,h.bag,λx M2 n o Q=>QQ n o Q.1 λM P a5 a6=>nx _ _ ⟨_,_,_,_,_,_,rfl⟩⟩
 ·rintro l M ⟨a,b,c,d,e,f,rfl⟩;simp[HU];exact cZ (q _)
variable{P:List Value->Prop}
theorem aIs(us:List Value)(b:us.length=0)(h:P []):P us:=by
 cases us with
 | nil=>exact h
 | cons a us=>cases b
theorem aF0(us:List Value)(b:us.length=1)(h:∀a0,P [a0]):P us:=by
 cases us with
 | nil=>cases b
 | cons a us=>exact aIs (P:=λus=>P (a::us)) us (aNk b) (h a)
theorem aEz(us:List Value)(b:us.length=2)(h:∀a0 a1,P [a0,a1]):P us:=by
 cases us with
 | nil=>cases b
 | cons a us=>exact aF0 (P:=λus=>P (a::us)) us (aNk b) (h a)
theorem aEy(us:List Value)(b:us.length=3)(h:∀a0 a1 c,P [a0,a1,c]):P us:=by
 cases us with
 | nil=>cases b
 | cons a us=>exact aEz (P:=λus=>P (a::us)) us (aNk b) (h a)
theorem aIr(us:List Value)(b:us.length=4)(h:∀a0 a1 c d,P [a0,a1,c,d]):P us:=by
 cases us with
 | nil=>cases b
 | cons a us=>exact aEy (P:=λus=>P (a::us)) us (aNk b) (h a)
variable{x:Str}{st:Stmt}{ps:List Str}
theorem HG(h:∀kV doc pm an cdv ct a0,bindArgs (PySem.W.fnOf x x (eN st) (cG st) (aE st) .none kV doc pm an cdv ct) ⟨[a0],[]⟩=pure (ps.zip [a0]))(g:ps.length=1:=by rfl):bL x st ps:=λa b c d e f us i=>aF0 (P:=λus=>bindArgs _ ⟨us,[]⟩=pure (List.zip _ us)) us (i.trans g) (h a b c d e f)
theorem qS(h:∀kV doc pm an cdv ct a0 a1,bindArgs (PySem.W.fnOf x x (eN st) (cG st) (aE st) .none kV doc pm an cdv ct) ⟨[a0,a1],[]⟩=pure (ps.zip [a0,a1]))(g:ps.length=2:=by rfl):bL x st ps:=λa b c d e f us i=>aEz (P:=λus=>bindArgs _ ⟨us,[]⟩=pure (List.zip _ us)) us (i.trans g) (h a b c d e f)
theorem MS(h:∀kV doc pm an cdv ct a0 a1 g,bindArgs (PySem.W.fnOf x x (eN st) (cG st) (aE st) .none kV doc pm an cdv ct) ⟨[a0,a1,g],[]⟩=pure (ps.zip [a0,a1,g]))(i:ps.length=3:=by rfl):bL x st ps:=λa b c d e f us j=>aEy (P:=λus=>bindArgs _ ⟨us,[]⟩=pure (List.zip _ us)) us (j.trans i) (h a b c d e f)
theorem aJ9(h:∀kV doc pm an cdv ct a0 a1 g i,bindArgs (PySem.W.fnOf x x (eN st) (cG st) (aE st) .none kV doc pm an cdv ct) ⟨[a0,a1,g,i],[]⟩=pure (ps.zip [a0,a1,g,i]))(j:ps.length=4:=by rfl):bL x st ps:=λa b c d e f us k=>aIr (P:=λus=>bindArgs _ ⟨us,[]⟩=pure (List.zip _ us)) us (k.trans j) (h a b c d e f)
theorem EZ:bL "numbered" fZ ["keys"]:=HG λ_ _ _ _ _ _ _=>rfl
theorem tM:bL "names_by_net" cW ["some"]:=HG λ_ _ _ _ _ _ _=>rfl
theorem tN:bL "hooks_by_net" cX ["some"]:=HG λ_ _ _ _ _ _ _=>rfl
theorem HH:bL "telling" iL ["hook","own"]:=qS λ_ _ _ _ _ _ _ _=>rfl
theorem wL:bL "first_marks" dC ["one","other"]:=qS λ_ _ _ _ _ _ _ _=>rfl
theorem xT:bL "next_marks" d7 ["sides","marked"]:=qS λ_ _ _ _ _ _ _ _=>rfl
theorem EY:bL "sides_of" fY ["one","other"]:=qS λ_ _ _ _ _ _ _ _=>rfl
theorem xV:bL "are_parted" d9 ["marked"]:=HG λ_ _ _ _ _ _ _=>rfl
theorem E1:bL "marks_on" f6 ["sides","first"]:=qS λ_ _ _ _ _ _ _ _=>rfl
theorem BR:bL "with_name" fA ["first","net","other_net"]:=MS λ_ _ _ _ _ _ _ _ _=>rfl
theorem xU:bL "nets_alike" d8 ["own"]:=HG λ_ _ _ _ _ _ _=>rfl
theorem qT:bL "rounds_to_part" cE ["told","net","other_net"]:=MS λ_ _ _ _ _ _ _ _ _=>rfl
theorem wK:bL "is_as_great" dB ["one","other"]:=qS λ_ _ _ _ _ _ _ _=>rfl
theorem RK:bL "tried" mL ["sides","told","net","other_net"]:=aJ9 λ_ _ _ _ _ _ _ _ _ _=>rfl
theorem wJ:bL "weighed" iK ["sides","told"]:=qS λ_ _ _ _ _ _ _ _=>rfl
theorem WN:bL "held" pU ["one","other"]:=qS λ_ _ _ _ _ _ _ _=>rfl
theorem E2:bL "_law_bag" f7 ["_law_script","_law_at"]:=qS λ_ _ _ _ _ _ _ _=>rfl
theorem BU:bL "_law_take" fC ["_law_bag_here","_law_many"]:=qS λ_ _ _ _ _ _ _ _=>rfl
theorem wN:bL "_law_number" dE ["_law_thing"]:=HG λ_ _ _ _ _ _ _=>rfl
theorem xY:bL "_law_order" eC ["_law_bag_here","_law_many"]:=qS λ_ _ _ _ _ _ _ _=>rfl
theorem wM:bL "_law_switch" dD ["_law_bag_here","_law_many","_law_easy"]:=MS λ_ _ _ _ _ _ _ _ _=>rfl
theorem BV:bL "_law_some" fD ["_law_bag_here","_law_most","_law_wires"]:=MS λ_ _ _ _ _ _ _ _ _=>rfl
theorem tO:bL "_law_renamed" cY ["_law_some_here","_law_order_here"]:=qS λ_ _ _ _ _ _ _ _=>rfl
theorem xW:bL "_law_rings" eA ["_law_wheels","_law_more"]:=qS λ_ _ _ _ _ _ _ _=>rfl
theorem xX:bL "_law_parts" eB ["_law_bag_here","_law_total"]:=qS λ_ _ _ _ _ _ _ _=>rfl
theorem BS:bL "_law_word" fB ["_law_thing","_law_word_here","_law_many"]:=MS λ_ _ _ _ _ _ _ _ _=>rfl
theorem xZ:bL "_law_leads" eD ["_law_one","_law_other","_law_paper"]:=MS λ_ _ _ _ _ _ _ _ _=>rfl
theorem aCe:bL "law" uQ ["_law_script"]:=HG λ_ _ _ _ _ _ _=>rfl
structure Al(w:World)(K:aNm)(mg:aNp):Prop where
 G5:dI K "numbered" fZ
 wA:dI K "names_by_net" cW
 wD:dI K "hooks_by_net" cX
 MF:dI K "telling" iL
 xO:dI K "first_marks" dC
 BF:dI K "next_marks" d7
 G4:dI K "sides_of" fY
 BH:dI K "are_parted" d9
 G6:dI K "marks_on" f6
 EO:dI K "with_name" fA
 BG:dI K "nets_alike" d8
 rZ:dI K "rounds_to_part" cE
 xN:dI K "is_as_great" dB
 V6:dI K "tried" mL
 zA:dI K "weighed" iK
 aBw:dI K "held" pU
 G7:dI K "_law_bag" f7
 ES:dI K "_law_take" fC
 xQ:dI K "_law_number" dE
 BK:dI K "_law_order" eC
 xP:dI K "_law_switch" dD
 ET:dI K "_law_some" fD
 wF:dI K "_law_renamed" cY
 BI:dI K "_law_rings" eA
 BJ:dI K "_law_parts" eB
 ER:dI K "_law_word" fB
 BL:dI K "_law_leads" eD
 aFt:dI K "law" uQ
 nR:qX K mg "AT_GATE" (.int 0)
 EW:qX K mg "AT_END" (.int 1)
 qQ:qX K mg "MOST_ALIKE" (.int 8)
section
variable {P:Program}{w:World}{K:aNm}{mg:aNp}{base h:Heap}(KX:K.In h)(G:h.Ns mainGlobals mg)(B:Bl mg)(A:Al w K mg)
include KX G B A
theorem fM :Fn P w K mg base 1 "numbered" ["keys"] (oO):=
 cP (wB:=kT) (k:=0) A.G5 KX G EZ sO (by with_reducible exact GK B) (λds mh R h=>by obtain⟨_,_,_,_,_,rfl,_⟩:=h;rfl) GS
theorem m5 :Fn P w K mg base 1 "names_by_net" ["some"] (zY):=
 cP (wB:=eV) (k:=0) A.wA KX G tM lK (by with_reducible exact vL B) (λds mh R h=>by obtain⟨_,rfl,_⟩:=h;rfl) VV
theorem m6 :Fn P w K mg base 1 "hooks_by_net" ["some"] (zZ):=
 cP (wB:=eX) (k:=0) A.wD KX G tN lL (by with_reducible exact vM B  A.nR A.EW) (λds mh R h=>by obtain⟨_,rfl,_⟩:=h;rfl) VX
theorem y6 :Fn P w K mg base 1 "telling" ["hook","own"] (CW):=
 cP (wB:=nF) (k:=0) A.MF KX G HH uX (by with_reducible exact LM B  A.nR) (λds mh R h=>by obtain⟨_,_,rfl,_⟩:=h;rfl) L5
theorem oT :Fn P w K mg base 2 "first_marks" ["one","other"] (u3):=
 cP (wB:=fQ (oO) (zY)) (k:=1) A.xO KX G wL mO (by with_reducible exact xH B ((fM KX G B A).mono (by lia)) ((m5 KX G B A).mono (by lia))) (λds mh R h=>by obtain⟨_,_,rfl,_⟩:=h;rfl) VY
theorem qJ :Fn P w K mg base 2 "next_marks" ["sides","marked"] (sR):=
 cP (wB:=gV (CW) (oO)) (k:=1) A.BF KX G xT oG (by with_reducible exact AO B ((y6 KX G B A).mono (by lia)) ((fM KX G B A).mono (by lia))) (λds mh R h=>by obtain⟨_,_,_,_,_,_,rfl,_⟩:=h;rfl) aBl
theorem vZ :Fn P w K mg base 2 "sides_of" ["one","other"] (uY):=
 cP (wB:=kS (zZ)) (k:=1) A.G4 KX G EY sN (by with_reducible exact GJ B ((m6 KX G B A).mono (by lia))) (λds mh R h=>by obtain⟨_,_,rfl,_⟩:=h;rfl) VR
theorem dR :Fn P w K mg base 1 "are_parted" ["marked"] (o9):=
 cP (wB:=gX) (k:=0) A.BH KX G xV oI (by with_reducible exact AR B) (λds mh R h=>by obtain⟨_,_,rfl,_⟩:=h;rfl) QO
theorem k9 :Fn P w K mg base 3 "marks_on" ["sides","first"] (YT):=
 cP (wB:=kU (o9) (sR)) (k:=2) A.G6 KX G E1 sP (by with_reducible exact GL B ((dR KX G B A).mono (by lia)) ((qJ KX G B A).mono (by lia))) (λds mh R h=>by obtain⟨_,_,_,_,_,rfl,_⟩:=h;rfl) aJ0
theorem sY :Fn P w K mg base 2 "with_name" ["first","net","other_net"] (sWN):=
 cP (wB:=iU (oO)) (k:=1) A.EO KX G BR pW (by with_reducible exact DZ B ((fM KX G B A).mono (by lia))) (λds mh R h=>by obtain⟨_,_,_,_,rfl,_⟩:=h;rfl) aBi
theorem hX :Fn P w K mg base 1 "nets_alike" ["own"] (XE):=
 cP (wB:=gW) (k:=0) A.BG KX G xU oH (by with_reducible exact AQ B) (λds mh R h=>by obtain⟨_,rfl,_⟩:=h;rfl) VZ
theorem kJ :Fn P w K mg base 1 "rounds_to_part" ["told","net","other_net"] (S9):=
 cP (wB:=dN) (k:=0) A.rZ KX G qT jC (by with_reducible exact rL B) (λds mh R h=>by obtain⟨_,_,_,_,rfl,_⟩:=h;rfl) aFi
theorem oS :Fn P w K mg base 1 "is_as_great" ["one","other"] (N1):=
 cP (wB:=fP) (k:=0) A.xN KX G wK mN (by with_reducible exact xG B) (λds mh R h=>by obtain⟨_,_,rfl,_⟩:=h;rfl) aFk
theorem J1  (a:Fn P w K mg base (2*n+3) "weighed" ["sides","told"] (CV n)):Fn P w K mg base (2*n+4) "tried" ["sides","told","net","other_net"] (NZ n):=
 Q2 (wB:=tU (S9) (CV n) (YT) (sWN)) (k:=2*n+3) (by lia) A.V6 KX G RK CU (by with_reducible exact VE B ((kJ KX G B A).mono (by lia)) a ((k9 KX G B A).mono (by lia)) ((sY KX G B A).mono (by lia))) (λds mh R h=>by obtain⟨_,_,_,_,_,_,_,_,_,_,rfl,_⟩:=h;rfl) (VP n)
theorem nM :∀n:Nat,Fn P w K mg base (2*n+3) "weighed" ["sides","told"] (CV n)
 | 0=>(Q3 A.zA KX G wJ).imp λds mh R h=>by obtain⟨_,_,_,_,_,_,_,_,_,_,_,_,_,_,_,_,a,_⟩:=h;exact absurd a (Nat.not_lt_zero _)
 | n+1=>Q2 (wB:=nE (o9) (XE) (NZ n)) (k:=2*n+4) (by lia) A.zA KX G wJ uW (by with_reducible exact LK B ((dR KX G B A).mono (by lia)) ((hX KX G B A).mono (by lia)) (J1 KX G B A (nM n))) (λds mh R h=>by obtain⟨_,_,_,_,_,_,_,_,rfl,_⟩:=h;rfl) (L4 n)
theorem Q5 :Fn P w K mg base 28 "held" ["one","other"] (CZ):=
 cP (wB:=zM (N1) (uY) (YT) (u3) (o9) (XE) (CV 12)) (k:=27) A.aBw KX G WN IL (by with_reducible exact aAw B ((oS KX G B A).mono (by lia)) ((vZ KX G B A).mono (by lia)) ((k9 KX G B A).mono (by lia)) ((oT KX G B A).mono (by lia)) ((dR KX G B A).mono (by lia)) ((hX KX G B A).mono (by lia)) ((nM KX G B A 12).mono (by lia)) A.qQ) (λds mh R h=>by obtain⟨_,_,rfl,_⟩:=h;rfl) aBm
theorem v3 :Fn P w K mg base 1 "_law_bag" ["_law_script","_law_at"] (KW):=
 cP (wB:=kY) (k:=0) A.G7 KX G E2 sQ (by with_reducible exact GN B) (λds mh R h=>by obtain⟨_,_,rfl,_⟩:=h;rfl) aFl
theorem b6 :Fn P w K mg base 1 "_law_take" ["_law_bag_here","_law_many"] (cA):=
 cP (wB:=iY) (k:=0) A.ES KX G BU pY (by with_reducible exact D1 B) (λds mh R h=>by obtain⟨_,_,rfl,_⟩:=h;rfl) aBj
theorem oV :Fn P w K mg base 1 "_law_number" ["_law_thing"] (sNo):=
 cP (wB:=fT) (k:=0) A.xQ KX G wN mQ (by with_reducible exact xJ B) (λds mh R h=>by obtain⟨_,rfl,_⟩:=h;rfl) QP
theorem qM :Fn P w K mg base 2 "_law_order" ["_law_bag_here","_law_many"] (N0):=
 cP (wB:=g7 (cA)) (k:=1) A.BK KX G xY oM (by with_reducible exact AV B ((b6 KX G B A).mono (by lia))) (λds mh R h=>by obtain⟨_,_,rfl,_⟩:=h;rfl) VU
theorem oU :Fn P w K mg base 2 "_law_switch" ["_law_bag_here","_law_many","_law_easy"] (CY):=
 cP (wB:=fR (cA)) (k:=1) A.xP KX G wM mP (by with_reducible exact xI B ((b6 KX G B A).mono (by lia))) (λds mh R h=>by obtain⟨_,_,_,rfl,_⟩:=h;rfl) L7
theorem tB :Fn P w K mg base 3 "_law_some" ["_law_bag_here","_law_most","_law_wires"] (sSm):=
 cP (wB:=iZ (cA) (CY)) (k:=2) A.ET KX G BV pZ (by with_reducible exact D2 B ((b6 KX G B A).mono (by lia)) ((oU KX G B A).mono (by lia))) (λds mh R h=>by obtain⟨_,rfl,_⟩:=h;rfl) aBk
theorem fF :Fn P w K mg base 1 "_law_renamed" ["_law_some_here","_law_order_here"] (FW):=
 cP (wB:=eY) (k:=0) A.wF KX G tO lN (by with_reducible exact vN B) (λds mh R h=>by obtain⟨_,_,_,rfl,_⟩:=h;rfl) L6
theorem qK :Fn P w K mg base 1 "_law_rings" ["_law_wheels","_law_more"] (sRg):=
 cP (wB:=gY) (k:=0) A.BI KX G xW oJ (by with_reducible exact AS B) (λds mh R h=>by obtain⟨_,_,_,rfl,_⟩:=h;rfl) VS
theorem qL :Fn P w K mg base 2 "_law_parts" ["_law_bag_here","_law_total"] (sPt):=
 cP (wB:=gZ (cA)) (k:=1) A.BJ KX G xX oK (by with_reducible exact AU B ((b6 KX G B A).mono (by lia))) (λds mh R h=>by obtain⟨_,_,rfl,_⟩:=h;rfl) VT
theorem sZ :Fn P w K mg base 1 "_law_word" ["_law_thing","_law_word_here","_law_many"] (IM):=
 cP (wB:=iX) (k:=0) A.ER KX G BS pX (by with_reducible exact D0 B) (λds mh R h=>by obtain⟨_,rfl,_⟩:=h;rfl) aBh
theorem qN :Fn P w K mg base 2 "_law_leads" ["_law_one","_law_other","_law_paper"] (uZ):=
 cP (wB:=g8 (IM) (sNo) (FW)) (k:=1) A.BL KX G xZ oN (by with_reducible exact AW B ((sZ KX G B A).mono (by lia)) ((oV KX G B A).mono (by lia)) ((fF KX G B A).mono (by lia))) (λds mh R h=>by obtain⟨_,_,_,rfl,_⟩:=h;rfl) VW
theorem VB{b:Addr}  (a:mg "law"=some (.ref b)):
  ∃fd:FuncData,(∀(s:Shared) (u:Value),BindsTo s fd ⟨[u],[]⟩ [("_law_script",u)])/\∀base:Heap,kP P w K mg base FE 29 b fd ["_law_script"] (R0 K xA):=
 aAt (wB:=HV (KW) (cA) (sRg) (sPt) (sSm) (FW) (N0) (uZ) (CZ)) (k:=28) KX G a A.aFt NV aCe (λbase=>by with_reducible exact aFb B ((v3 KX G B A).mono (by lia)) ((b6 KX G B A).mono (by lia)) ((qK KX G B A).mono (by lia)) ((qL KX G B A).mono (by lia)) ((tB KX G B A).mono (by lia)) ((fF KX G B A).mono (by lia)) ((qM KX G B A).mono (by lia)) ((qN KX G B A).mono (by lia)) ((Q5 KX G B A).mono (by lia))) aFj
theorem aGl{l:PySem.W.OpenLaw}{b:Addr}  (a:mg "law"=some (.ref b)):
  ∃fd:FuncData,(∀(s:Shared) (u:Value),BindsTo s fd ⟨[u],[]⟩ [("_law_script",u)])/\∀base:Heap,K.In base->base.Ns mainGlobals mg->kP l.prog w K mg base FE 29 b fd ["_law_script"] (R0 K xA):=
 let ⟨fd,h1,h2⟩:=VB KX G B A a
 ⟨fd,h1,λbase _ _=>h2 base⟩
end
end K40
open PySem PySem.W PyProof.Rows
set_option maxRecDepth 100000 in
set_option maxHeartbeats 0 in
theorem PySem.Challenge.cw_maskwright_k40_one_renamed_holds : PySem.Challenge.rw_maskwright_k40_one_renamed.Holds := by
  w_on; refine D3.aGm (q := D3.kQ PySem.Challenge.pw_maskwright_k40_one_renamed [1, 2, 4, 5, 6, 7, 8, 9, 10, 11, 12, 13, 14, 15, 16, 17, 18, 19, 20, 21, 22, 24, 25, 26, 27, 28, 29, 30, 31, 32, 33, 34, 35]) (loose := []) (K := K40.kk) (as := [3, 43, 44, 48, 49, 53, 54, 60, 61, 67, 68, 72, 73, 79, 80, 86, 87, 93, 94, 98, 99, 103, 104, 110, 111, 117, 118, 122, 123, 129, 130, 136, 137, 143, 144, 150, 151, 157, 158, 164, 165, 171, 172, 176, 177, 181, 182, 188, 189, 195, 196, 202, 203, 207, 208, 214, 215]) (by kernel_rfl) (fun _ => rfl) K40.kl (by rfl) (by rfl) (by rfl) (by decide +kernel) ⟨rfl, rfl, rfl, rfl, rfl, by decide +kernel⟩ ?hw ?_; (case hw => w_witness2)
  k_fill
  refine D3.walkD (l := PySem.Challenge.rw_maskwright_k40_one_renamed) (k := 29) (x := "_law_script") rfl rfl ⟨rfl, by decide, by decide⟩ (fun _ _ Y => Y) ?F
  case F =>
    intro w mg fa h KX G hmg
    refine' K40.aGl KX G (D3.bl_mk KX G ?_ ?_ ?_ ?_ ?_ ?_ ?_ ?_ ?_ ?_ ?_ ?_ ?_ ?_ ?_ ?_ ?_ ?_ ?_) ⟨(D3.aGs ?_ ?_ ?_ ?_), (D3.aGs ?_ ?_ ?_ ?_), (D3.aGs ?_ ?_ ?_ ?_), (D3.aGs ?_ ?_ ?_ ?_), (D3.aGs ?_ ?_ ?_ ?_), (D3.aGs ?_ ?_ ?_ ?_), (D3.aGs ?_ ?_ ?_ ?_), (D3.aGs ?_ ?_ ?_ ?_), (D3.aGs ?_ ?_ ?_ ?_), (D3.aGs ?_ ?_ ?_ ?_), (D3.aGs ?_ ?_ ?_ ?_), (D3.aGs ?_ ?_ ?_ ?_), (D3.aGs ?_ ?_ ?_ ?_), (D3.aGs ?_ ?_ ?_ ?_), (D3.aGs ?_ ?_ ?_ ?_), (D3.aGs ?_ ?_ ?_ ?_), (D3.aGs ?_ ?_ ?_ ?_), (D3.aGs ?_ ?_ ?_ ?_), (D3.aGs ?_ ?_ ?_ ?_), (D3.aGs ?_ ?_ ?_ ?_), (D3.aGs ?_ ?_ ?_ ?_), (D3.aGs ?_ ?_ ?_ ?_), (D3.aGs ?_ ?_ ?_ ?_), (D3.aGs ?_ ?_ ?_ ?_), (D3.aGs ?_ ?_ ?_ ?_), (D3.aGs ?_ ?_ ?_ ?_), (D3.aGs ?_ ?_ ?_ ?_), (D3.aGs ?_ ?_ ?_ ?_), (D3.aCq KX G ?q0), (D3.aCq KX G ?q1), (D3.aCq KX G ?q2)⟩ hmg
    (case q0 => k_is)
    (case q1 => k_is)
    (case q2 => k_is)
    all_goals try k_is
