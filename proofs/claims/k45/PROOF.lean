import PyProof.Rows.All
import Wide.All
import OpenK.AllK
import Wide.FinOn
import Lean
import PyProof.EqAt
import PyProof.EqKinds
import PyProof.TupleCall
import PyProof.NeKinds
import PySem.Challenge.RW_maskwright_k45_whole_never_both
set_option Elab.async false
set_option linter.all false
set_option maxRecDepth 100000
set_option maxHeartbeats 4000000
abbrev aNq:=PySem.W.Frag
set_option compiler.extract_closed false
abbrev aK2:= @PySem.wpAny_bind
abbrev aK3:= @PySem.wpAny_pure
abbrev aK4:= @PySem.Heap.get?_push_of_some
abbrev aK5:= @List.getElem?_eq_some_iff
abbrev aK6:= @Nat.le_refl
abbrev aK7:= @List.mem_cons_self
abbrev aK8:= @List.mem_cons_of_mem
abbrev aK9:= @List.mem_of_getElem?
abbrev aKa:= @PySem.Heap.get?_push_size
abbrev aKb:= @PySem.Heap.lt_size
abbrev aKc:= @PySem.sizeLine_eq
abbrev aKd:= @List.mem_cons
abbrev aKe:= @List.mem_map
abbrev aKf:= @Classical.byContradiction
abbrev aKg:= @Nat.ne_of_lt
abbrev aKh:= @Nat.lt_of_lt_of_le
abbrev aKi:= @List.mem_append
abbrev aKj:= @PySem.W.mg_none_of
abbrev aKk:= @PySem.wpAny_call_entry
abbrev aKl:= @PySem.wpAny_callSpecial?_slot
abbrev aKm:= @PySem.wpAny_setField_rec
abbrev aKn:= @Option.some.inj
abbrev aKo:= @List.map_congr_left
abbrev aKp:= @Int.eq_ofNat_of_zero_le
abbrev aKq:= @PySem.wpAny_holding
abbrev aKr:= @Nat.le_trans
abbrev aKs:= @List.mem_append_right
abbrev aKt:= @PySem.wpAny_newObj_type
abbrev aKu:= @PySem.mem_of_lookup
abbrev aKv:= @List.mem_iff_getElem?
abbrev aKw:= @PySem.Heap.SameBut.update
abbrev aKx:= @PyProof.Rows.wpS_bind
abbrev aKy:= @PySem.wpAny_field
abbrev aKz:= @List.mem_map_of_mem
abbrev aL0:= @Option.map_eq_some_iff
abbrev aL1:= @PyProof.Rows.slot_tuple_getitem
abbrev aL2:= @Nat.lt_succ_self
abbrev aL3:= @PySem.wpAny_setState_of
abbrev aL4:= @congrArg
abbrev aL5:= @PySem.wpAny_seqItems
abbrev aL6:= @List.getElem?_eq_getElem
abbrev aL7:= @Nat.lt_succ_of_lt
abbrev aL8:= @Array.getElem?_eq_some_iff
abbrev aL9:= @PySem.wpAny_rule
abbrev aLa:= @Bool.false_ne_true
abbrev aLb:= @Nat.zero_le
abbrev aLc:= @PyProof.Rows.wpS_pure
abbrev aLd:= @PyProof.Rows.callWith_type1
abbrev aLe:= @Nat.ne_of_gt
abbrev aLf:= @PySem.Heap.get?_update_other
abbrev aLg:= @decide_eq_false
abbrev aLh:= @Ne.symm
abbrev aLi:= @PySem.wpAny_forIn_list
abbrev aLj:= @List.pairwise_cons
abbrev aLk:= @List.mem_append_left
abbrev aLl:= @List.mem_of_mem_take
abbrev aLm:= @PySem.wpAny_mono
abbrev aLn:= @PySem.wpAny_attempt
abbrev aLo:= @Int.emod_lt_of_pos
abbrev aLp:= @PySem.F.slot_tuple_iterator_next
abbrev aLq:= @PySem.Heap.get?_update_self
abbrev aLr:= @PySem.W.Looks.of_pure
abbrev aLs:= @PySem.F.slot_enumerate_next
abbrev aLt:= @List.getElem?_eq_none_iff
abbrev aLu:= @List.mem_filter
abbrev aLv:= @PySem.wpAny_passesOwn
abbrev aLw:= @PySem.wpAny_specialOf
abbrev aLx:= @List.Perm.of_eq
abbrev aLy:= @Nat.le_of_lt
abbrev aLz:= @PySem.wpAny_setEntries_of
abbrev aM0:= @PySem.wpAny_isInstance
abbrev aM1:= @List.nodup_range
abbrev aM2:= @PySem.Calls.spliced_cons
abbrev aM3:= @PySem.wpAny_Call_Name_kw
abbrev aM4:= @PySem.F.called_set
abbrev aM5:= @PySem.codeAny_builtin
abbrev aM6:= @Int.emod_nonneg
abbrev aM7:= @Nat.lt_irrefl
abbrev aM8:= @PySem.wpAny_truthy_bool
abbrev aM9:= @PySem.F.slot_tuple_hash
abbrev aMa:= @List.mem_iff_getElem
abbrev aMb:= @PySem.wpAny_newTuple
abbrev aMc:= @PySem.Heap.size_push
abbrev aMd:= @List.getElem?_of_mem
abbrev aMe:= @Nat.le_of_not_lt
abbrev aMf:= @List.pairwise_iff_getElem
abbrev aMg:= @PySem.Calls.call_function_entry
abbrev aMh:= @PyProof.Rows.F.entry_set_update_loop
abbrev aMi:= @List.perm_singleton
abbrev aMj:= @PySem.wpAny_standAt
abbrev aMk:= @PySem.F.args_tuple_add_2
abbrev aMl:= @List.nodup_cons
abbrev aMm:= @PySem.F.slot_zip_next
abbrev aMn:= @Nat.not_lt_zero
abbrev aMo:= @Nat.lt_or_eq_of_le
abbrev aMp:= @List.Perm.cons_inv
abbrev aMq:= @PySem.F.entry_tuple_add
abbrev aMr:= @PySem.codeAny_mono
abbrev aMs:= @PySem.F.slot_tuple_add
abbrev aMt:= @PySem.wpAny_typeOf
abbrev aMu:= @PySem.Calls.callWith_builtin
abbrev aMv:= @PySem.wpAny_pyIter_list
abbrev aMw:= @PySem.wpAny_pyIter_slot
abbrev aMx:= @List.pairwise_lt_range
abbrev aMy:= @Nat.lt_trichotomy
abbrev aMz:= @PyProof.Rows.wpS_forRange
abbrev aN0:= @PySem.F.slot_dict_get
abbrev aN1:= @List.countP_le_length
abbrev aN2:= @PySem.wpAny_askSetting
abbrev aN3:= @beq_iff_eq
abbrev aN4:= @PySem.plainId_quiet
abbrev aN5:= @PySem.Calls.evalArgs_plain
abbrev aN6:= @Nat.le_succ
abbrev aN7:= @PySem.wpAny_execs_nil
abbrev aN8:= @PySem.wpAny_ite_split
abbrev aN9:= @PySem.wpAny_updateSeq
abbrev aNa:= @PySem.F.slot_dict_setdefault
abbrev aNb:= @PySem.tupleKind_room_in1
abbrev aNc:= @PySem.wpAny_pyIter_tuple
abbrev aNd:= @PySem.wpAny_fieldsOf
abbrev aNe:= @List.map_inj_right
abbrev aNf:= @PySem.wpAny_tupleItemsOf
abbrev aNg:= @List.mem_singleton
abbrev aNh:= @List.take_sublist
abbrev aNi:= @PySem.wpAny_of_eq
abbrev aNj:= @PySem.wpAny_mkInt
abbrev aNk:= @PySem.W.mg_of
abbrev aNl:= @List.getElem_inj
abbrev aNm:= @List.ext_getElem
abbrev aNn:= @Nat.lt_trans
abbrev aNo:= @Nat.mod_lt
abbrev aNp:= @Nat.succ.inj
abbrev aNr:=PySem.Value->PySem.Shared->Prop
abbrev aNs:=PyProof.Rows.Keyed->PyProof.Rows.Keyed->Bool
abbrev aNt:=PySem.Str->Option PySem.Value
abbrev aNu:=Array PyProof.Rows.Keyed
namespace L2
open PySem PySem.Spec PyProof.Rows
abbrev Key:=Sum Int Str
def zM:Key->Value->Bool
 | .inl k,v=>Value.isInt k v
 | .inr x,v=>Value.isStrOf x v
def aJe(w:World):Key->Int
 | .inl k=>hashInt k
 | .inr x=>hashStr w x
theorem bJ:∀{k:Key} {v:Value},zM k v=true->(∃i t,k=Sum.inl i/\v=Value.int i t)\/(∃x t,k=Sum.inr x/\v=Value.str x t)
 | .inl i,v,h=>by
  obtain⟨t,e⟩:=Value.isInt_shape (k:=i) (v:=v) h;exact .inl ⟨i,t,rfl,e⟩
 | .inr x,v,h=>by
  obtain⟨t,e⟩:=Value.isStrOf_shape (x:=x) (v:=v) h;exact .inr ⟨x,t,rfl,e⟩
theorem MC(i:Int)(t:Tok):zM (.inl i) (.int i t)=true:=by simp[zM,Value.isInt]
theorem MB(x:Str)(t:Tok):zM (.inr x) (.str x t)=true:=by simp[zM,Value.isStrOf]
theorem aBu(a b:Int):decide ((Sum.inl a:Key)=Sum.inl b)=(a==b):=by
 by_cases e:a=b
 ·subst e;simp
 ·have h:¬(Sum.inl a:Key)=Sum.inl b:=λq=>e (Sum.inl.inj q);rw[decide_eq_false h];exact(beq_eq_false_iff_ne.mpr e).symm
theorem aBr(a b:Str):decide ((Sum.inr a:Key)=Sum.inr b)=decide (a=b):=by
 by_cases e:a=b
 ·subst e;simp
 ·have h:¬(Sum.inr a:Key)=Sum.inr b:=λq=>e (Sum.inr.inj q);rw[decide_eq_false h,decide_eq_false e]
theorem aBt(a:Int)(b:Str):decide ((Sum.inl a:Key)=Sum.inr b)=false:=aLg (λq=>nomatch q)
theorem aBs(a:Str)(b:Int):decide ((Sum.inr a:Key)=Sum.inl b)=false:=aLg (λq=>nomatch q)
def aR(prog:Program)(w:World):PySem.KeyKind prog w Key where
 is:=zM
 hash:=aJe w
 inj:=λv a b ha f=>by
  rcases bJ ha with ⟨i,t,rfl,rfl⟩ | ⟨x,t,rfl,rfl⟩
  ·rcases bJ f with ⟨j,u,rfl,e⟩ | ⟨y,u,rfl,e⟩
   ·injection e with c _;rw[c]
   ·exact nomatch e
  ·rcases bJ f with ⟨j,u,rfl,e⟩ | ⟨y,u,rfl,e⟩
   ·exact nomatch e
   ·injection e with c _;rw[c]
 byValue:=λk v h=>by
  rcases bJ h with ⟨i,t,rfl,rfl⟩ | ⟨x,t,rfl,rfl⟩ <;> rfl
 pyHash:=λd h=>by
  rcases bJ d with ⟨i,t,rfl,rfl⟩ | ⟨x,t,rfl,rfl⟩
  ·exact wpAny_pyHash_int h
  ·exact wpAny_pyHash_str h
 eqBool:=λg d h=>by
  rcases bJ g with ⟨i,t,rfl,rfl⟩ | ⟨x,t,rfl,rfl⟩
  ·rcases bJ d with ⟨j,u,rfl,rfl⟩ | ⟨y,u,rfl,rfl⟩
   ·rw[aBu]at h;exact wpAny_eqBool_int h
   ·rw[aBt]at h;exact SeqAt.EqAt.int_str i t y u _ _ _ _ h
  ·rcases bJ d with ⟨j,u,rfl,rfl⟩ | ⟨y,u,rfl,rfl⟩
   ·rw[aBs]at h;exact SeqAt.EqAt.str_int x t j u _ _ _ _ h
   ·rw[aBr]at h;exact wpAny_eqBool_str h
 «strs»:=λk x t v h=>by
  rcases bJ h with ⟨i,u,rfl,e⟩ | ⟨y,u,rfl,e⟩
  ·exact nomatch e
  ·injection e with c _;subst c;cases v <;> rfl
theorem EF(prog:Program)(w:World)(i:Int)(t:Tok):(aR prog w).is (.inl i) (.int i t)=true:=MC i t
theorem EE(prog:Program)(w:World)(x:Str)(t:Tok):(aR prog w).is (.inr x) (.str x t)=true:=MB x t
inductive V where
 | b8 | bl (b:Bool) | int (i:Int) | str (x:Str) | byt (b:Array UInt8) | flt (b:UInt64) | ref (a:Addr) | ty (n:String)
 deriving DecidableEq
def RelV:V->Value->Prop
 | .b8,u=>u=Value.none
 | .bl b,u=>u=Value.bool b
 | .int i,u=>∃t,u=Value.int i t
 | .str x,u=>∃t,u=Value.str x t
 | .byt b,u=>∃t,u=Value.bytes b t
 | .flt b,u=>∃t,u=Value.float b t
 | .ref a,u=>u=Value.ref a
 | .ty n,u=>u=Value.type n
abbrev Vals:List V->List Value->Prop:=Paired RelV
variable{us:List Value}
theorem Vals.length{xs:List V}(r:Vals xs us):xs.length=us.length:=Paired.length r
theorem Vals.get:∀{xs:List V} {us:List Value} {i:Nat} {x:V},Vals xs us->xs[i]? =some x->∃u,us[i]? =some u/\RelV x u
 | _,_,_,_,.nil,e=>by simp at e
 | _,_,0,_,.cons r _,e=>by simp at e;subst e;exact⟨_,rfl,r⟩
 | _,_,i+1,x,.cons _ t,e=>by
  obtain⟨u,a,b⟩:=Vals.get (i:=i) (x:=x) t (by simpa using e);exact⟨u,by simpa using a,b⟩
theorem Vals.set{x:V}{u:Value}(r:RelV x u):∀{xs:List V} {us:List Value} (i:Nat),Vals xs us->Vals (xs.set i x) (us.set i u)
 | _,_,_,.nil=>.nil
 | _,_,0,.cons _ t=>.cons r t
 | _,_,i+1,.cons q t=>.cons q (Vals.set r i t)
theorem Vals.append:∀{xs a:List V} {us b:List Value},Vals xs us->Vals a b->Vals (xs++a) (us++b)
 | _,_,_,_,.nil,s=>s
 | _,_,_,_,.cons r t,s=>.cons r (Vals.append t s)
theorem Vals.take:∀{xs:List V} {us:List Value} (n:Nat),Vals xs us->Vals (xs.take n) (us.take n)
 | _,_,0,_=>.nil
 | _,_,_+1,.nil=>.nil
 | _,_,n+1,.cons r t=>.cons r (Vals.take n t)
theorem Vals.drop:∀{xs:List V} {us:List Value} (n:Nat),Vals xs us->Vals (xs.drop n) (us.drop n)
 | _,_,0,r=>r
 | _,_,_+1,.nil=>.nil
 | _,_,n+1,.cons _ t=>Vals.drop n t
theorem Vals.none_of:∀{xs:List V} {us:List Value} {i:Nat},Vals xs us->xs[i]? =none->us[i]? =none:=λ{xs us i} r e=>by
 have a:=r.length;have b:xs.length<=i:=aLt.mp e;exact aLt.mpr (by lia)
def uI:Option V->Option Value->Prop
 | some v,some u=>RelV v u
 | none,none=>True
 | _,_=>False
def KV{κ:Type}:List (κ×V)->List (κ×Value)->Prop:=Paired λ(p:κ×V) (q:κ×Value)=>p.1=q.1/\RelV p.2 q.2
def kV:Key->V
 | .inl i=>.int i
 | .inr x=>.str x
inductive HO where
 | lst (xs:List V)
 | tup (xs:List V)
 | dK (kvs:List (Key×V)) | dT (kvs:List (List Key×V))
 | set (S:Int->Bool) (n:Nat)
 | ins (C dx:Addr) (fs:List (Str×V))
 | own (x:Addr)
 | xd (fs:List (Str×V))
 | met (f x:Addr)
 | rng (lo hi:Int)
 | frz (o:Obj) (u:HO)
 | tbl (ps:Array Value)
 | ext (φ:World->Heap->Prop)
abbrev Hp:=Addr->Option HO
def upd(H:Hp)(a:Addr)(o:HO):Hp:=λb=>if b=a then some o else H b
variable{H:Hp}{a:Addr}
theorem b9{o:HO}:upd H a o a=some o:=by unfold upd;rw[if_pos rfl]
variable{b:Addr}
theorem aW{o:HO}(h:b≠a):upd H a o b=H b:=by unfold upd;rw[if_neg h]
theorem aFc{o u:HO}(h:H a=some o)(h' :H b=some u)(d:o≠u):a≠b:=by
 intro e;subst e;rw[h]at h';exact d (aKn h')
theorem bM{o:HO}(h:H a=some o)(h' :H b=none):a≠b:=by
 intro e;subst e;rw[h]at h';cases h'
theorem AU(h:Heap)(items:Array Value):∀o,(h.push {cls:= .type "tuple",data:= .seq items}).get? h.objs.size=some o->o.dict=none:=λo e=>by rw[Heap.get?_push_size _ rfl]at e;cases e;rfl
section
variable (P:Program)(w:World)
def cT(H:Hp)(h:Heap)(a:Addr):HO->Prop
 | .lst xs=>xs.length<=sizeLine/\∃(aL:List Value) (n:Nat),Vals xs aL/\h.get? a=some {cls:= .type "list",data:= .seq aL.toArray n}
 | .tup xs=>xs.length<=sizeLine/\∃aL:List Value,Vals xs aL/\IsTup h a aL.toArray/\∀o,h.get? a=some o->o.dict=none
 | .dK kvs=>kvs.length<=sizeLine/\(a==sysModules)=false/\∃vs,KV kvs vs/\h.DictOf (aR P w) a vs
 | .dT kvs=>kvs.length<=sizeLine/\(a==sysModules)=false/\∃xs:List (List Key×Addr×Value),
   Paired (λ(p:List Key×V) (q:List Key×Addr×Value)=>p.1=q.1/\H q.2.1=some (.tup (p.1.map kV))/\RelV p.2 q.2.2) kvs xs/\
   ∃o es ep,h.get? a=some o/\o.ExactDict/\o.data= .dict es ep/\es.toList=xs.map (entryOfKey (tupleKind (aR P w)))/\(xs.map (·.1)).Nodup
 | .set S n=>h.SetOf (intKind P w) a S n
 | .ins C dx fs=>H dx=some (.own a)/\fs.length<=1000/\dx≠a/\h.get? a=some (PySem.W.instObj C dx)/\
   ∃b,h.Ns1 dx b/\(∀f,uI (fs.lookup f) (b f))/\PySem.Within b (fs.map (·.1))
 | .own _=>∃o,h.get? a=some o
 | .xd fs=>∃b,h.Ns1 a b/\∀f,uI (fs.lookup f) (b f)
 | .rng lo hi=>∃t u v,h.get? a=some {cls:= .type "range",data:= .fields #[.int lo t,.int hi u,.int 1 v]}
 | .frz o u=>h.get? a=some o/\cT H h a u
 | .tbl ps=>h.get? a=some {cls:= .none,data:= .fields ps}
 | .met f x=>h.get? a=some (PySem.W.methodObj (.ref f) (.ref x))
 | .ext φ=>φ w h/\(∃o,h.get? a=some o)/\∀c d:Heap,φ w c->(∀o,c.get? a=some o->d.get? a=some o)->φ w d
def rS(H:Hp)(h:Heap):Prop:=∀a o,H a=some o->cT P w H h a o
end
section
variable {P:Program}{w:World}{H H' :Hp}{h h' :Heap}{a:Addr}{o:HO}
theorem cT.lt(x:cT P w H h a o):a<h.objs.size:=by
 cases o with
 | lst xs=>obtain⟨_,_,_,_,e⟩:=x;exact aKb e
 | tup xs=>obtain⟨_,_,_,p,_⟩:=x;exact p.lt
 | dK kvs=>obtain⟨_,_,_,_,o,_,_,e,_⟩:=x;exact aKb e
 | dT kvs=>obtain⟨_,_,_,_,o,_,_,e,_⟩:=x;exact aKb e
 | set S n=>obtain⟨o,_,_,_,e,_⟩:=x;exact aKb e
 | ins C dx fs=>obtain⟨_,_,_,e,_⟩:=x;exact aKb e
 | own y=>obtain⟨_,e⟩:=x;exact aKb e
 | xd fs=>obtain⟨_,⟨_,_,_,e,_⟩,_⟩:=x;exact aKb e
 | rng lo hi=>obtain⟨_,_,_,e⟩:=x;exact aKb e
 | frz ob u=>obtain⟨e,_⟩:=x;exact aKb e
 | tbl ps=>exact aKb (show h.get? a=some _ from x)
 | met f y=>exact aKb (show h.get? a=some _ from x)
 | ext φ=>obtain⟨_,⟨_,e⟩,_⟩:=x;exact aKb e
theorem Paired.aAt{d e:Type}{F G:d->e->Prop}:∀{l₁:List d} {c:List e},Paired F l₁ c->(∀a b,F a b->G a b)->Paired G l₁ c
 | _,_,.nil,_=>.nil
 | _,_,.cons r t,f=>.cons (f _ _ r) (Paired.aAt t f)
theorem cT.GF(x:cT P w H h a o)(k:∀b u,(b=a\/H b=some (.own a))->h.get? b=some u->h'.get? b=some u)
  (ho:∀b,H b=some (.own a)->H' b=some (.own a)) (ht:∀b xs,H b=some (.tup xs)->H' b=some (.tup xs)):cT P w H' h' a o:=by
 induction o with
 | lst xs=>obtain⟨z,aL,n,r,e⟩:=x;exact⟨z,aL,n,r,k _ _ (.inl rfl) e⟩
 | tup xs=>obtain⟨z,aL,r,⟨ob,e,c⟩,nd⟩:=x;exact⟨z,aL,r,⟨ob,k _ _ (.inl rfl) e,c⟩,λo' i =>by rw[k _ _ (.inl rfl) e]at i;cases i;exact nd _ e⟩
 | dK kvs=>obtain⟨z,y,vs,r,ob,es,ep,e,c⟩:=x;exact⟨z,y,vs,r,ob,es,ep,k _ _ (.inl rfl) e,c⟩
 | dT kvs=>
  obtain⟨z,y,xs,r,ob,es,ep,e,c⟩:=x;exact⟨z,y,xs,Paired.aAt r λp q z=>⟨z.1,ht _ _ z.2.1,z.2.2⟩,ob,es,ep,k _ _ (.inl rfl) e,c⟩
 | set S n=>obtain⟨ob,es,ep,t,e,c⟩:=x;exact⟨ob,es,ep,t,k _ _ (.inl rfl) e,c⟩
 | ins C dx fs=>
  obtain⟨d,z,ne,e,g,⟨od,es,ep,j,c⟩,r⟩:=x;exact⟨ho _ d,z,ne,k _ _ (.inl rfl) e,g,⟨od,es,ep,k _ _ (.inr d) j,c⟩,r⟩
 | own y=>obtain⟨ob,e⟩:=x;exact⟨ob,k _ _ (.inl rfl) e⟩
 | xd fs=>obtain⟨g,⟨od,es,ep,e,c⟩,r⟩:=x;exact⟨g,⟨od,es,ep,k _ _ (.inl rfl) e,c⟩,r⟩
 | rng lo hi=>obtain⟨t,u,v,e⟩:=x;exact⟨t,u,v,k _ _ (.inl rfl) e⟩
 | frz ob u ih=>obtain⟨e,q⟩:=x;exact⟨k _ _ (.inl rfl) e,ih q⟩
 | tbl ps=>
  have e:h.get? a=some {cls:= .none,data:= .fields ps}:=x;show h'.get? a=some {cls:= .none,data:= .fields ps};exact k a _ (.inl rfl) e
 | met f y=>
  have e:h.get? a=some (PySem.W.methodObj (.ref f) (.ref y)):=x;show h'.get? a=some (PySem.W.methodObj (.ref f) (.ref y));exact k a _ (.inl rfl) e
 | ext φ=>obtain⟨p,⟨o,e⟩,st⟩:=x;exact⟨st _ _ p λo q=>k _ _ (.inl rfl) q,⟨o,k _ _ (.inl rfl) e⟩,st⟩
theorem rS.lt(x:rS P w H h)(e:H a=some o):a<h.objs.size:=(x a o e).lt
theorem rS.fresh(x:rS P w H h)(e:h.objs.size<=a):H a=none:=by
 cases q:H a with
 | none=>rfl
 | some u=>exact absurd (aKh (x.lt q) e) (aM7 _)
theorem rS.kept(x:rS P w H h)(k:∀b u,h.get? b=some u->h'.get? b=some u):rS P w H h' :=λa o e=>
 (x a o e).GF (λb u _ q=>k b u q) (λ_ q=>q) λ_ _ q=>q
theorem rS.laid(x:rS P w H h)(k:∀b u,h.get? b=some u->h'.get? b=some u)(g:h.objs.size<=a)(new:cT P w (upd H a o) h' a o):rS P w (upd H a o) h' :=λb u e=>by
 have d:=x.fresh g;by_cases f:b=a
 ·subst f;rw[b9]at e;cases e;exact new
 ·rw[aW f]at e;exact(x b u e).GF (λc v _ q=>k c v q) (λc q=>by rw[aW (bM q d)];exact q) λc xs q=>by rw[aW (bM q d)];exact q
end
def Rd(H:Hp)(a:Addr)(u:HO):Prop:=H a=some u\/∃o,H a=some (.frz o u)
variable{P:Program}{w:World}{h:Heap}
theorem Rd.ok{u:HO}(r:Rd H a u)(x:rS P w H h):cT P w H h a u:=by
 rcases r with r | ⟨o,r⟩
 ·exact x a u r
 ·obtain⟨_,q⟩:=x a _ r;exact q
def SK:Option HO->Prop
 | some (.lst _)=>True
 | some (.dK _)=>True
 | some (.dT _)=>True
 | some (.set _ _)=>True
 | some (.ins _ _ _)=>True
 | some (.ext _)=>True
 | _=>False
section
variable {P:Program}{w:World}{H:Hp}{h h' :Heap}{x e:Addr}{o' :HO}
theorem rS.write(ok:rS P w H h)(g:SK (H x))(he:e=x\/H e=some (.own x))(k:∀b u,b≠e->h.get? b=some u->h'.get? b=some u)(j:∃u,h'.get? e=some u)
  (new:cT P w (upd H x o') h' x o'):rS P w (upd H x o') h' :=λb u q=>by
 have d:∀c y,H c=some (.own y)->c≠x:=λc y r z=>by subst z;rw[r]at g;exact g
 have f:∀c xs,H c=some (.tup xs)->c≠x:=λc xs r z=>by subst z;rw[r]at g;exact g
 by_cases i:b=x
 ·subst i;rw[b9]at q;cases q;exact new
 ·rw[aW i]at q;by_cases a:b=e
  ·have q' :H b=some (.own x):=by
    rcases he with z | z
    ·exact absurd (a.trans z) i
    ·rw[a];exact z
   rw[q]at q';cases q';obtain⟨v,l⟩:=j;exact⟨v,by rw[a];exact l⟩
  ·refine(ok b u q).GF (λc v hc r=>k c v ?_ r) (λc r=>by rw[aW (d c b r)];exact r) λc xs r=>by rw[aW (f c xs r)];exact r
   rcases hc with rfl | hc
   ·exact a
   ·rintro rfl;rcases he with z | z
    ·exact d c b hc z
    ·rw[hc]at z;cases z;exact i rfl
end
structure Un(fs ex:List Addr)(H H' :Hp)(h h' :Heap):Prop where
 keep:∀b o,h.get? b=some o->H b=none->b∉fs->b∉ex->h'.get? b=some o
 slot:∀b o,h.get? b=some o->H b=none->b∈fs->b∉ex->∃sl,h'.get? b=some {o with slots:=sl}
 free:∀b o,h.get? b=some o->H b=none->b∉ex->H' b=none
 there:∀b o,h.get? b=some o->b∉ex->∃o',h'.get? b=some o'
 DG:∀b xs,H b=some (.tup xs)->H' b=some (.tup xs)
 B3:∀b o u,H b=some (.frz o u)->H' b=some (.frz o u)
 DH:∀b ps,H b=some (.tbl ps)->∃more,H' b=some (.tbl (ps++more))
section
variable {fs fs' ex ex' :List Addr}{H H1 H2:Hp}{h h1 h2 h' :Heap}{a x e:Addr}{o:HO}
theorem Un.any(u:Un fs ex H H1 h h1){ob:Obj}(q:h.get? b=some ob)(n:H b=none)(hx:b∉ex):∃sl,h1.get? b=some {ob with slots:=sl}:=by
 by_cases a:b∈fs
 ·exact u.slot b ob q n a hx
 ·exact⟨ob.slots,u.keep b ob q n a hx⟩
theorem Un.kept(k:∀b u,h.get? b=some u->h'.get? b=some u):Un fs ex H H h h' :=
 ⟨λb ob q _ _ _=>k b ob q,λb ob q _ _ _=>⟨ob.slots,k b ob q⟩,λ_ _ _ n _=>n,λb ob q _=>⟨ob,k b ob q⟩,λ_ _ q=>q,λ_ _ _ q=>q,λ_ ps q=>⟨#[],by rw[q];simp⟩⟩
theorem Un.refl:Un fs ex H H h h:=Un.kept λ_ _ q=>q
theorem Un.laid(k:∀b u,h.get? b=some u->h'.get? b=some u)(d:h.objs.size<=a)(c:H a=none):Un fs ex H (upd H a o) h h' where
 keep:=λb u q _ _ _=>k b u q
 slot:=λb u q _ _ _=>⟨u.slots,k b u q⟩
 free:=λb u q n _=>by rw[aW (Nat.ne_of_lt (Nat.lt_of_lt_of_le (Heap.lt_size q) d))];exact n
 there:=λb u q _=>⟨u,k b u q⟩
 DG:=λb xs q=>by rw[aW (bM q c)];exact q
 B3:=λb u xs q=>by rw[aW (bM q c)];exact q
 DH:=λb ps q=>⟨#[],by rw[aW (bM q c),q];simp⟩
theorem Un.write(c:SK (H x))(he:e=x\/H e=some (.own x))(k:∀b u,b≠e->h.get? b=some u->h'.get? b=some u)(d:∃u,h'.get? e=some u):Un fs ex H (upd H x o) h h' :=by
 have hx:∀b,H b=none->b≠x:=λb n z=>by subst z;rw[n]at c;exact c
 have f:∀b,H b=none->b≠e:=λb n z=>by
  subst z;rcases he with r | r
  ·exact hx b n r
  ·rw[n]at r;cases r
 have hm:∀b u,H b=some u->¬SK (some u)->b≠x:=λb u q nm z=>by subst z;rw[q]at c;exact nm c
 refine⟨λb u q n _ _=>k b u (f b n) q,λb u q n _ _=>⟨u.slots,k b u (f b n) q⟩,λb u q n _=>by rw[aW (hx b n)];exact n,λb u q _=>?_,
  λb xs q=>by rw[aW (hm b _ q λz=>z)];exact q,λb u xs q=>by rw[aW (hm b _ q λz=>z)];exact q,λb ps q=>⟨#[],by rw[aW (hm b _ q λz=>z),q];simp⟩⟩
 by_cases a:b=e
 ·subst a;exact d
 ·exact⟨u,k b u a q⟩
end
def trk(h:Heap)(H:Hp):List Addr:=(List.range h.objs.size).filter λa=>(H a).isSome
def BW(h:Heap)(H:Hp):Heap:=PySem.W.hideAll h (trk h H)
theorem MK(h:Heap)(H:Hp):(BW h H).objs.size=h.objs.size:=PySem.W.hideAll_size _ _
variable{o:Obj}
theorem Q8(e:h.get? b=some o)(n:H b=none):(BW h H).get? b=some o:=
 PySem.W.hideAll_get _ e λhm=>by
  have q:(H b).isSome=true:=(aLu.mp hm).2;rw[n]at q;simp at q
theorem VB(e:(BW h H).get? b=some o):h.get? b=some o/\H b=none:=by
 have a :h.get? b=some o:=PySem.W.of_hideAll (trk h H) e;refine⟨a,?_⟩
 cases q:H b with
 | none=>rfl
 | some x=>
  have hm:b∈trk h H:=aLu.mpr ⟨List.mem_range.mpr (aKb a),by simp[q]⟩;have z:(BW h H).get? b=none:=PySem.W.hideAll_none (trk h H) hm;rw[z]at e;cases e
structure Mod(K:aNq)(mg:aNt)(base:Heap):Prop where
 kin:K.In base
 glob:base.Ns mainGlobals mg
 blt:∃mb,base.Ns builtinsNs mb/\∀x:Str,x≠ "__name__"->mb x=bootBuiltins x
 nolimit:base.NoLimit
structure Cx where
 prog:Program
 w:World
 K:aNq
 mg:aNt
 base:Heap
 A:Around
 N:List Str
 s₀:Shared
 H₀:Hp
 env:Env
 outer:List Env
 stack:List Env
 ex:List Addr
 fn:Str->Bool
 calm:Bool
 pn:List (Addr×Obj)
 xe:aNr
def RK(l:List Env):List Addr:=l.filterMap (·.frame)
abbrev Cx.fs(X:Cx):List Addr:=RK X.outer
def Vis(sc:Scope)(x:Str):Prop:=sc.names.lookup x=some .local\/sc.names.lookup x=some .cell\/sc.names.lookup x=some .free
def Loc(sc:Scope)(x:Str):Prop:=sc.names.lookup x=some .local\/sc.names.lookup x=some .cell
def Look(env:Env)(h:Heap)(m:aNt)(x:Str)(u:Value):Prop:=
 (env.kindOf x=some .local/\m x=some u)\/((env.kindOf x=some .cell\/env.kindOf x=some .free)/\∃c,env.cells.lookup x=some c/\h.IsCell c (some u))
structure Cx.Ok(X:Cx):Prop where
 mod:Mod X.K X.mg X.base
 kind:X.env.scope.kind= .function
 glob:X.env.globals=mainGlobals
 blt:X.env.builtins=builtinsNs
 above:X.s₀.heap.objs.size<=X.env.locals
 inj:∀x y c,X.env.cells.lookup x=some c->X.env.cells.lookup y=some c->x=y
 has:∀x,(X.env.kindOf x=some .cell\/X.env.kindOf x=some .free)->∃c,X.env.cells.lookup x=some c
 cab:∀x c,X.fn x=true->X.env.cells.lookup x=some c->X.s₀.heap.objs.size<=c
 hd:X.calm=true->X.A.handled=none
 frames:X.A.frames=some X.stack
 stk:X.stack=X.outer\/(X.stack=X.env::X.outer/\X.env.frame=some X.env.locals)
 exf:∀b∈X.ex,b≠X.env.locals/\∀x c,X.env.cells.lookup x=some c->c≠b
 bs:∀b o,X.base.get? b=some o->X.s₀.heap.get? b=some o/\X.H₀ b=none
 XO:X.base.objs.size<=X.s₀.heap.objs.size
 PK:∀b o,X.base.get? b=some o->b∉X.ex
 RP:∀b∈X.ex,b∉X.fs
 wZ:X.s₀.heap.FunFrames X.base X.outer
 frf:∀b∈X.fs,X.H₀ b=none
structure Inv(X:Cx)(pins:List (Addr×Obj))(σ:List (Option V))(H:Hp)(s:Shared):Prop where
 ok:X.Ok
 os:s.os=X.s₀.os
 bare:AllBare s.gens
 base:Un X.fs X.ex X.H₀ H X.s₀.heap s.heap
 loc:∃m,s.heap.Ns X.env.locals m/\∀(i:Nat) (x:Str) (v:V),X.N[i]? =some x->σ[i]? =some (some v)->Vis X.env.scope x->∃u,RelV v u/\Look X.env s.heap m x u
 cell:∀x c,X.env.cells.lookup x=some c->∃v,s.heap.IsCell c v
 free:H X.env.locals=none
 nW:∀x c,X.env.cells.lookup x=some c->H c=none
 pin:∀p∈X.pn++pins,s.heap.get? p.1=some p.2/\H p.1=none/\p.1≠X.env.locals/\p.1∉X.fs/\∀v,p.2.data≠ .cell v
 cI:rS X.prog X.w H s.heap
 len:σ.length=X.N.length
section
variable {X:Cx}{pins:List (Addr×Obj)}{σ:List (Option V)}{H H' :Hp}{s:Shared}{h' :Heap}
theorem Cx.Ok.aJ4(ok:X.Ok)(e:X.base.get? b=some o):b∉X.fs:=λa=>by
 have:=(ok.wZ.mem a).1;rw[e]at this;cases this
theorem Inv.bs(I:Inv X pins σ H s):∀b o,X.base.get? b=some o->s.heap.get? b=some o/\H b=none:=λb o e=>
 ⟨I.base.keep b o (I.ok.bs b o e).1 (I.ok.bs b o e).2 (I.ok.aJ4 e) (I.ok.PK b o e),I.base.free b o (I.ok.bs b o e).1 (I.ok.bs b o e).2 (I.ok.PK b o e)⟩
theorem Inv.bk(I:Inv X pins σ H s):∀b o,X.base.get? b=some o->s.heap.get? b=some o:=λb o e=>(I.bs b o e).1
theorem Inv.mod(I:Inv X pins σ H s):Mod X.K X.mg X.base:=I.ok.mod
theorem Inv.kIn(I:Inv X pins σ H s):X.K.In s.heap:=I.ok.mod.kin.keeps I.bk
theorem Inv.fr(I:Inv X pins σ H s):∃m,Fr X.base X.env.locals s.heap m:=
 let ⟨m,hn,_⟩:=I.loc
 ⟨m,hn,I.bk,aKr I.ok.XO I.ok.above⟩
theorem Inv.lt(I:Inv X pins σ H s):X.env.locals<s.heap.objs.size:=let ⟨_,hn,_⟩:=I.loc;hn.lt
theorem Inv.sz(I:Inv X pins σ H s):X.s₀.heap.objs.size<=s.heap.objs.size:=aKr I.ok.above (aLy I.lt)
theorem Inv.aJ3(I:Inv X pins σ H s)(h:s.heap.objs.size<=a):a∉X.fs:=λb=>by
 obtain⟨_,o,ho,_⟩:=I.ok.wZ.mem b;exact absurd (aKh (aKb ho) (aKr I.sz h)) (aM7 _)
theorem Inv.cne(I:Inv X pins σ H s):∀x c,X.env.cells.lookup x=some c->c≠X.env.locals:=λx c e z=>by
 obtain⟨v,o,ho,hd⟩:=I.cell x c e;obtain⟨m,⟨o',es,ep,a,b,_⟩,_⟩:=I.loc;rw[z,a]at ho;cases ho;rw[b]at hd;cases hd
theorem Inv.wZ(I:Inv X pins σ H s):s.heap.FunFrames X.base X.outer:=by
 have all:∀(l:List Env),(∀b∈RK l,b∈X.fs)->X.s₀.heap.FunFrames X.base l->s.heap.FunFrames X.base l:=by
  intro l
  induction l with
  | nil=>intro _ _;trivial
  | cons env r ih=>
   intro hs f;obtain⟨g,⟨L,o,a,h,ho,hd⟩,i⟩:=f;have c:L∈X.fs:=hs L (by unfold RK;rw[List.filterMap_cons,a];exact aK7);obtain⟨sl,e⟩:=I.base.slot L o ho (I.ok.frf L c) c λz=>I.ok.RP L z c;exact⟨g,⟨L,_,a,h,e,hd⟩,ih (λb d=>hs b (by unfold RK;rw[List.filterMap_cons,a];exact aK8 _ d)) i⟩
 exact all X.outer (λ_ d=>d) I.ok.wZ
theorem Inv.stack(I:Inv X pins σ H s):s.heap.FunFrames X.base X.stack:=by
 rcases I.ok.stk with e | ⟨e,a⟩
 ·rw[e];exact I.wZ
 ·rw[e];obtain⟨m,b,_⟩:=I.loc;refine .cons (by rw[I.ok.kind];decide) a b ?_ I.wZ;exact Heap.get?_none_of_le (aKr I.ok.XO I.ok.above)
theorem Inv.GD(I:Inv X pins σ H s):∀b∈RK X.stack,b∈X.env.locals::X.fs:=λb a=>by
 rcases I.ok.stk with e | ⟨e,c⟩
 ·rw[e]at a;exact aK8 _ a
 ·rw[e]at a;unfold RK at a;rw[List.filterMap_cons,c]at a;exact a
theorem Inv.JC(I:Inv X pins σ H s):∀b∈RK X.stack,H b=none:=λb hb=>by
 rcases aKd.mp (I.GD b hb) with e | hb
 ·rw[e];exact I.free
 ·obtain⟨_,o,ho,_⟩:=I.ok.wZ.mem hb;exact I.base.free b o ho (I.ok.frf b hb) λz=>I.ok.RP b z hb
variable{g':Array GenState}{t':Nat}{ch:List Addr}
theorem Inv.step{d' :Drawn}(I:Inv X pins σ H s)
  (a:∀b∈ch,(b∈X.ex\/X.s₀.heap.objs.size<=b)/\b≠X.env.locals/\(∀x c,X.env.cells.lookup x=some c->c≠b)/\∀p∈X.pn++pins,p.1≠b)
  (keep:∀b o,b≠X.env.locals->b∉X.fs->b∉ch->s.heap.get? b=some o->H b=none->h'.get? b=some o)
  (slot:∀b o,b≠X.env.locals->b∈X.fs->b∉ch->s.heap.get? b=some o->H b=none->∃sl,h'.get? b=some {o with slots:=sl}) (free:∀b o,b∉ch->s.heap.get? b=some o->H b=none->H' b=none)
  (there:∀b o,b∉ch->s.heap.get? b=some o->∃o',h'.get? b=some o')
  (DG:∀b xs,H b=some (.tup xs)->H' b=some (.tup xs)) (B3:∀b o u,H b=some (.frz o u)->H' b=some (.frz o u)) (DH:∀b ps,H b=some (.tbl ps)->∃more,H' b=some (.tbl (ps++more)))
  (ns:∀m,s.heap.Ns X.env.locals m->h'.Ns X.env.locals m) (cI:rS X.prog X.w H' h') (hg:AllBare g'):
  Inv X pins σ H' {s with heap:=h',gens:=g',drawn:=d',toks:=t'}:=by
 have y:∀b o,X.s₀.heap.get? b=some o->b≠X.env.locals:=λb o e=>aKg (aKh (aKb e) I.ok.above)
 have h:∀b o,X.s₀.heap.get? b=some o->b∉X.ex->b∉ch:=λb o e hx t=>by
  rcases(a b t).1 with z | z
  ·exact hx z
  ·exact absurd (aKh (aKb e) z) (aM7 _)
 have f:∀x c,X.env.cells.lookup x=some c->∀v,s.heap.IsCell c v->h'.IsCell c v:=λx c e v B=>by
  obtain⟨o,ho,hd⟩:=B;have g:c∉ch:=λz=>(a c z).2.2.1 x c e rfl;by_cases D:c∈X.fs
  ·obtain⟨sl,q⟩:=slot c o (I.cne x c e) D g ho (I.nW x c e);exact⟨_,q,hd⟩
  ·exact⟨o,keep c o (I.cne x c e) D g ho (I.nW x c e),hd⟩
 refine⟨I.ok,I.os,hg,⟨λb o e n t hx=>?_,λb o e n t hx=>?_,λb o e n hx=>?_,λb o e hx=>?_,λb xs e=>DG b xs (I.base.DG b xs e),λb o xs e=>B3 b o xs (I.base.B3 b o xs e),λb ps e=>?_⟩,?_,λx c e=>?_,?_,λx c e=>?_,λp E=>?_,cI,I.len⟩
 ·exact keep b o (y b o e) t (h b o e hx) (I.base.keep b o e n t hx) (I.base.free b o e n hx)
 ·obtain⟨sl,j⟩:=I.base.slot b o e n t hx;obtain⟨C,A⟩:=slot b _ (y b o e) t (h b o e hx) j (I.base.free b o e n hx);exact⟨C,A⟩
 ·obtain⟨o',j⟩:=I.base.there b o e hx;exact free b o' (h b o e hx) j (I.base.free b o e n hx)
 ·obtain⟨o',j⟩:=I.base.there b o e hx;exact there b o' (h b o e hx) j
 ·obtain⟨m1,j⟩:=I.base.DH b ps e;obtain⟨m2,A⟩:=DH b _ j;exact⟨m1++m2,by rw[A,Array.append_assoc]⟩
 ·obtain⟨m,G,J⟩:=I.loc;refine⟨m,ns m G,λi x v j A K=>?_⟩;obtain⟨u,r,l⟩:=J i x v j A K;refine⟨u,r,?_⟩;rcases l with l | ⟨k,c,e,z⟩
  ·exact .inl l
  ·exact .inr ⟨k,c,e,f x c e _ z⟩
 ·obtain⟨v,z⟩:=I.cell x c e;exact⟨v,f x c e v z⟩
 ·obtain⟨m,⟨o,_,_,ho,_⟩,_⟩:=I.loc;exact free _ o (λz=>(a _ z).2.1 rfl) ho I.free
 ·obtain⟨v,o,ho,hd⟩:=I.cell x c e;exact free c o (λz=>(a c z).2.2.1 x c e rfl) ho (I.nW x c e)
 ·obtain⟨e,n,ne,F,d⟩:=I.pin p E;have g:p.1∉ch:=λz=>(a p.1 z).2.2.2 p E rfl;exact⟨keep p.1 p.2 ne F g e n,free p.1 p.2 g e n,ne,F,d⟩
theorem Inv.un(I:Inv X pins σ H s)(u:Un X.fs [] H H' s.heap h')(cI:rS X.prog X.w H' h'):Inv X pins σ H' {s with heap:=h',toks:=t'}:=by
 obtain⟨m,⟨o,es,ep,ho,r⟩,_⟩:=id I.loc;obtain⟨sl,g⟩:=u.any ho I.free (by simp)
 exact I.step (g' :=s.gens) (d' :=s.drawn) (ch:=[]) (λ_ z=>nomatch z) (λb o _ c _ e n=>u.keep b o e n c (by simp)) (λb o _ c _ e n=>u.slot b o e n c (by simp)) (λb o _ e n=>u.free b o e n (by simp)) (λb o _ e=>u.there b o e (by simp)) u.DG u.B3 u.DH (λi hm=>by
  obtain⟨o',d,f,a,h⟩:=hm;rw[ho]at a;cases a
  exact⟨_,d,f,g,h⟩) cI I.bare
theorem Inv.call{d' :Drawn}(I:Inv X pins σ H s)(u:Un (RK X.stack) ch H H' s.heap h')(cI:rS X.prog X.w H' h')(hg:AllBare g')
  (d:∀b∈ch,(b∈X.ex\/X.s₀.heap.objs.size<=b)/\b≠X.env.locals/\(∀x c,X.env.cells.lookup x=some c->c≠b)/\∀p∈X.pn++pins,p.1≠b):
  Inv X pins σ H' {s with heap:=h',gens:=g',drawn:=d',toks:=t'}:=by
 obtain⟨m,⟨o,es,ep,ho,r⟩,_⟩:=id I.loc;obtain⟨sl,g⟩:=u.any ho I.free λz=>(d _ z).2.1 rfl
 exact I.step (ch:=ch) d (λb o g j a e n=>u.keep b o e n (λz=>(aKd.mp (I.GD b z)).elim g j) a) (λb o _ _ a e n=>u.any e n a) (λb o a e n=>u.free b o e n a) (λb o a e=>u.there b o e a) u.DG u.B3 u.DH (λl hm=>by
  obtain⟨o',h,i,f,k⟩:=hm;rw[ho]at f;cases f
  exact⟨_,h,i,g,k⟩) cI hg
theorem Inv.turned{it:Addr}(I:Inv X pins σ H s)(k:∀b o,b≠it->s.heap.get? b=some o->h'.get? b=some o)(g:H it=none)(f:it≠X.env.locals)
  (h:it∈X.ex\/X.s₀.heap.objs.size<=it) (i:∀x c,X.env.cells.lookup x=some c->c≠it) (j:∀p∈X.pn++pins,p.1≠it):Inv X pins σ H {s with heap:=h',toks:=t'}:=by
 have d:∀b u,H b=some u->b≠it:=λb u e z=>by rw[z,g]at e;cases e
 refine I.step (g' :=s.gens) (d' :=s.drawn) (ch:=[it]) (λb l=>?_) (λb o _ _ a e _=>k b o (λz=>a (by simp[z])) e) (λb o _ _ a e _=>⟨o.slots,k b o (λz=>a (by simp[z])) e⟩) (λ_ _ _ _ n=>n)
  (λb o a e=>⟨o,k b o (λz=>a (by simp[z])) e⟩) (λ_ _ e=>e) (λ_ _ _ e=>e) (λb ps e=>⟨#[],by rw[e];simp⟩) (λm hm=>?_) (λb u e=>?_) I.bare
 ·have e:b=it:=by simpa using l
  subst e;exact⟨h,f,i,j⟩
 ·obtain⟨o,es,ep,ho,r⟩:=hm;exact⟨o,es,ep,k _ o (aLh f) ho,r⟩
 ·refine(I.cI b u e).GF (λc v a q=>k c v ?_ q) (λ_ q=>q) λ_ _ q=>q;rcases a with z | z
  ·rw[z];exact d b u e
  ·exact d c _ z
theorem Inv.tok(I:Inv X pins σ H s)(t:Nat):Inv X pins σ H {s with toks:=t}:=I.un (h' :=s.heap) (t' :=t) Un.refl I.cI
theorem Inv.kept(I:Inv X pins σ H s)(k:∀b u,s.heap.get? b=some u->h'.get? b=some u):Inv X pins σ H {s with heap:=h',toks:=t'}:=I.un (Un.kept k) (I.cI.kept k)
theorem Inv.laid{o:HO}(I:Inv X pins σ H s)(k:∀b u,s.heap.get? b=some u->h'.get? b=some u)(c:s.heap.objs.size<=a)(new:cT X.prog X.w (upd H a o) h' a o):
  Inv X pins σ (upd H a o) {s with heap:=h',toks:=t'}:=I.un (Un.laid k c (I.cI.fresh c)) (I.cI.laid k c new)
theorem Inv.write{x e:Addr}{o:HO}(I:Inv X pins σ H s)(c:SK (H x))(he:e=x\/H e=some (.own x))(k:∀b u,b≠e->s.heap.get? b=some u->h'.get? b=some u)(a:∃u,h'.get? e=some u)
  (new:cT X.prog X.w (upd H x o) h' x o):Inv X pins σ (upd H x o) {s with heap:=h',toks:=t'}:=I.un (Un.write c he k a) (I.cI.write c he k a new)
theorem Inv.weak{a :List (Option V)}(I:Inv X pins σ H s)(b:a.length=σ.length)(w:∀(i:Nat) v,a[i]? =some (some v)->σ[i]? =some (some v)):Inv X pins a H s:=
 ⟨I.ok,I.os,I.bare,I.base,let ⟨m,hn,hl'⟩:=I.loc;⟨m,hn,λi x v c d e=>hl' i x v c (w i v d) e⟩,I.cell,I.free,I.nW,I.pin,I.cI,b.trans I.len⟩
theorem Inv.JI{a :List (Addr×Obj)}(I:Inv X pins σ H s)(h:∀p∈a,s.heap.get? p.1=some p.2/\H p.1=none/\p.1≠X.env.locals/\p.1∉X.fs/\∀v,p.2.data≠ .cell v):Inv X a σ H s:=
 ⟨I.ok,I.os,I.bare,I.base,I.loc,I.cell,I.free,I.nW,λp b=>(aKi.mp b).elim (λz=>I.pin p (aLk _ z)) (h p),I.cI,I.len⟩
theorem EB{N:List Str}(hN:N.Nodup){i j:Nat}{x:Str}(a:N[i]? =some x)(b:N[j]? =some x):i=j:=by
 obtain⟨e,c⟩:=aK5.mp a;obtain⟨f,d⟩:=aK5.mp b;exact(aNl hN).mp (c.trans d.symm)
variable{Q:Unit->Shared->Prop}
theorem y6{M:Model}{A:Around}{E:aNr}{i:Nat}{x:Str}{v:V}{u:Value}(I:Inv X pins σ H s)(hN:X.N.Nodup)(hi:X.N[i]? =some x)(hx:Loc X.env.scope x)(r:RelV v u)
  (h:∀S,Inv X pins (σ.set i (some v)) H S ->(∃a,Heap.SameBut a s.heap S.heap/\(a=X.env.locals\/X.env.cells.lookup x=some a))->Q () S) (hf:X.fn x=true\/X.env.scope.names.lookup x=some .local:=by first | exact .inl rfl | exact .inr rfl | assumption):wpAny M A (storeName X.env x u) Q E s:=by
 obtain⟨m,T,hl⟩:=id I.loc;have G:(X.env.scope.kind== .class || (X.env.scope.kind== .module && X.env.locals !=X.env.globals))=false:=by rw[I.ok.kind];rfl
 have B:i<σ.length:=by rw[I.len];exact(aK5.mp hi).1
 have cne:=I.cne
 have f:∀{a:Addr} {h' :Heap},(∃o,s.heap.get? a=some o/\H a=none)->Heap.SameBut a s.heap h' ->rS X.prog X.w H h' :=λ{a h'} ha hs b ob e=>by
  obtain⟨_,_,l⟩:=ha;refine(I.cI b ob e).GF (λc P hc q=>(hs.2 c ?_).trans q) (λ_ q=>q) λ_ _ q=>q;rintro rfl;rcases hc with rfl | hc
  ·rw[l]at e;cases e
  ·rw[l]at hc;cases hc
 rcases hx with hk | hk
 ·refine wpAny_storeName_local hk T (λh' U hs=>?_) G;obtain⟨oL,_,_,W,_⟩:=id T;refine h _ ⟨I.ok,I.os,I.bare,⟨λb o e n C hx=>?_,λb o e n C hx=>?_,I.base.free,λb o e hx=>?_,I.base.DG,I.base.B3,I.base.DH⟩,⟨_,U,λj y Y g t Z=>?_⟩,λy c e=>?_,I.free,I.nW,λp hp=>?_,f ⟨oL,W,I.free⟩ hs,by simpa using I.len⟩ ⟨_,hs,.inl rfl⟩
  ·exact(hs.2 b (aKg (aKh (aKb e) I.ok.above))).trans (I.base.keep b o e n C hx)
  ·obtain⟨sl,g⟩:=I.base.slot b o e n C hx;exact⟨sl,(hs.2 b (aKg (aKh (aKb e) I.ok.above))).trans g⟩
  ·obtain⟨o',g⟩:=I.base.there b o e hx;exact⟨o',(hs.2 b (aKg (aKh (aKb e) I.ok.above))).trans g⟩
  ·by_cases D:j=i
   ·subst D;rw[hi]at g;cases g;rw[List.getElem?_set_self B]at t;cases t;exact⟨u,r,.inl ⟨hk,by simp⟩⟩
   ·rw[List.getElem?_set_ne (Ne.symm D)]at t;obtain⟨u',r',q⟩:=hl j y Y g t Z;refine⟨u',r',?_⟩
    rcases q with ⟨k,e⟩ | ⟨k,c,e,z⟩
    ·refine .inl ⟨k,?_⟩;have:y≠x:=λe=>D (EB hN g (e▸hi));simp[this,e]
    ·exact .inr ⟨k,c,e,z.sameBut hs (cne y c e)⟩
  ·obtain⟨P,z⟩:=I.cell y c e;exact⟨P,z.sameBut hs (cne y c e)⟩
  ·obtain⟨e,n,ne,nf,d⟩:=I.pin p hp;exact⟨(hs.2 p.1 ne).trans e,n,ne,nf,d⟩
 ·have F:X.fn x=true:=by
   rcases hf with z | z
   ·exact z
   ·rw[z]at hk;cases hk
  obtain⟨c,hc⟩:=I.ok.has x (.inl hk);obtain⟨P,z⟩:=I.cell x c hc;refine wpAny_storeName_cell I.ok.kind hk hc z (λh' J hs=>?_);obtain⟨oc,K,L⟩:=id z;refine h {s with heap:=h'} ⟨I.ok,I.os,I.bare,⟨λb o e n C hx=>?_,λb o e n C hx=>?_,I.base.free,λb o e hx=>?_,I.base.DG,I.base.B3,I.base.DH⟩,⟨m,T.sameBut hs (aLh (cne x c hc)),λj y Y g t Z=>?_⟩,λy R e=>?_,I.free,I.nW,λp hp=>?_,f ⟨oc,K,I.nW x c hc⟩ hs,by simpa using I.len⟩ ⟨c,hs,.inr hc⟩
  ·exact(hs.2 b (aKg (aKh (aKb e) (I.ok.cab x c F hc)))).trans (I.base.keep b o e n C hx)
  ·obtain⟨sl,g⟩:=I.base.slot b o e n C hx;exact⟨sl,(hs.2 b (aKg (aKh (aKb e) (I.ok.cab x c F hc)))).trans g⟩
  ·obtain⟨o',g⟩:=I.base.there b o e hx;exact⟨o',(hs.2 b (aKg (aKh (aKb e) (I.ok.cab x c F hc)))).trans g⟩
  ·by_cases D:j=i
   ·subst D;rw[hi]at g;cases g;rw[List.getElem?_set_self B]at t;cases t;exact⟨u,r,.inr ⟨.inl hk,c,hc,J⟩⟩
   ·rw[List.getElem?_set_ne (Ne.symm D)]at t;obtain⟨u',r',q⟩:=hl j y Y g t Z;refine⟨u',r',?_⟩;rcases q with q | ⟨k,R,e,z'⟩
    ·exact .inl q
    ·refine .inr ⟨k,R,e,z'.sameBut hs ?_⟩;rintro rfl;exact D (EB hN g (I.ok.inj _ _ _ e hc▸hi))
  ·by_cases O:R =c
   ·subst O;exact⟨_,J⟩
   ·obtain⟨w2,z2⟩:=I.cell y R e;exact⟨w2,z2.sameBut hs O⟩
  ·obtain⟨e,n,ne,nf,d⟩:=I.pin p hp;refine⟨(hs.2 p.1 ?_).trans e,n,ne,nf,d⟩;intro q;rw[q,K]at e;have q' :oc=p.2:=aKn e;exact d P (by rw[<-q'];exact L)
theorem qQ{M:Model}{A:Around}{E:aNr}{i:Nat}{x:Str}{v:V}{u:Value}(I:Inv X pins σ H s)(hN:X.N.Nodup)(hi:X.N[i]? =some x)(hx:Loc X.env.scope x)(r:RelV v u)
  (h:∀a,Inv X pins (σ.set i (some v)) H a ->Q () a) (b:X.fn x=true\/X.env.scope.names.lookup x=some .local:=by first | exact .inl rfl | exact .inr rfl | assumption):wpAny M A (storeName X.env x u) Q E s:=
 y6 I hN hi hx r (λa c _=>h a c) b
theorem Inv.aGf{a :Shared}(I:Inv X pins σ H s)(ho:a.os=s.os)(u:Un (RK X.stack) ch H H' s.heap a.heap)(cI:rS X.prog X.w H' a.heap)(hg:AllBare a.gens)
  (d:∀b∈ch,(b∈X.ex\/X.s₀.heap.objs.size<=b)/\b≠X.env.locals/\(∀x c,X.env.cells.lookup x=some c->c≠b)/\∀p∈X.pn++pins,p.1≠b):Inv X pins σ H' a :=by
 obtain⟨h',g',d',t',o'⟩:=a;have e:o' =s.os:=ho;subst e;exact I.call (g' :=g') (t' :=t') (d' :=d') u cI hg d
end
abbrev XK:=Value->Option Addr->Hp->Prop
abbrev St:=List (Option V)
abbrev VK:=V->Hp->Prop
abbrev TE:=St->Hp->VK->Prop
abbrev TT:=St->Hp->(Bool->Hp->Prop)->Prop
abbrev TA:=St->Hp->(List V->Hp->Prop)->Prop
structure Ends where
 nx:St->Hp->Prop
 rt:VK
 bk:St->Hp->Prop:=λ_ _=>False
 ct:St->Hp->Prop:=λ_ _=>False
abbrev TS:=Ends->St->Hp->Prop
def EP(X:Cx)(pins:List (Addr×Obj))(σ:St)(Q:VK)(u:Value)(a :Shared):Prop:=∃v H',Inv X pins σ H' a /\RelV v u/\Q v H'
def TP(X:Cx)(pins:List (Addr×Obj))(σ:St)(Q:Bool->Hp->Prop)(b:Bool)(a :Shared):Prop:=∃H',Inv X pins σ H' a /\Q b H'
def AP(X:Cx)(pins:List (Addr×Obj))(σ:St)(Q:List V->Hp->Prop)(us:List Value)(a :Shared):Prop:=∃vs H',Inv X pins σ H' a /\Vals vs us/\Q vs H'
def SP(X:Cx)(pins:List (Addr×Obj))(D:Ends)(f:Flow)(b :Shared):Prop:=
 match f with
 | .next=>∃a H',Inv X pins a H' b /\D.nx a H'
 | .brk=>∃a H',Inv X pins a H' b /\D.bk a H'
 | .cont=>∃a H',Inv X pins a H' b /\D.ct a H'
 | .ret u=>∃v a H',Inv X pins a H' b /\RelV v u/\D.rt v H'
def PE(X:Cx)(e:Expr)(t:TE):Prop:=
 ∀(pins:List (Addr×Obj)) (s:Shared) (σ:St) (H:Hp) (Q:VK),Inv X pins σ H s->t σ H Q->wpAny (model X.prog X.w) X.A (eval e X.env) (EP X pins σ Q) X.xe s
def PT(X:Cx)(e:Expr)(t:TT):Prop:=
 ∀(pins:List (Addr×Obj)) (s:Shared) (σ:St) (H:Hp) (Q:Bool->Hp->Prop),Inv X pins σ H s->t σ H Q->wpAny (model X.prog X.w) X.A (isTrue e X.env (eval e X.env)) (TP X pins σ Q) X.xe s
def PW(X:Cx)(e:Expr)(t:TT):Prop:=
 ∀(a:Sem Value) (pins:List (Addr×Obj)) (s:Shared) (σ:St) (H:Hp) (Q:Bool->Hp->Prop),Inv X pins σ H s->t σ H Q->wpAny (model X.prog X.w) X.A (isTrue e X.env a) (TP X pins σ Q) X.xe s
variable{e:Expr}
theorem PW.pt{X:Cx}{t:TT}(h:PW X e t):PT X e t:=h _
def PA(X:Cx)(es:List Expr)(t:TA):Prop:=
 ∀(pos:Pos) (pins:List (Addr×Obj)) (s:Shared) (σ:St) (H:Hp) (Q:List V->Hp->Prop),Inv X pins σ H s->t σ H Q->wpAny (model X.prog X.w) X.A (spliced (backTo pos (starEach es X.env))) (AP X pins σ Q) X.xe s
def PS(X:Cx)(st:Stmt)(t:TS):Prop:=
 ∀(pins:List (Addr×Obj)) (s:Shared) (σ:St) (H:Hp) (D:Ends),Inv X pins σ H s->t D σ H->wpAny (model X.prog X.w) X.A (exec st X.env) (SP X pins D) X.xe s
def CW(X:Cx)(st:List Stmt)(t:TS):Prop:=
 ∀(pins:List (Addr×Obj)) (s:Shared) (σ:St) (H:Hp) (D:Ends),Inv X pins σ H s->t D σ H->wpAny (model X.prog X.w) X.A (execs st X.env) (SP X pins D) X.xe s
variable{A:Around}{E:aNr}{s:Shared}
theorem dJ{b:Type}{t:Sem b}{Q c :b->Shared->Prop}{M:Model}(h:wpAny M A t Q E s)(d:∀a s,Q a s->c a s):wpAny M A t c E s:=aLm h d λ_ _ x=>x
section
variable {X:Cx}
def aHp(i:Nat):TE:=λσ H Q=>∃v,σ[i]? =some (some v)/\Q v H
def tC(v:V):TE:=λ_ H Q=>Q v H
variable{x:Str}{pos:Pos}
theorem Z9{i:Nat}(hN:X.N[i]? =some x)(g:Vis X.env.scope x)(hd:(x==("__debug__":Str))=false:=by decide)(d:(x==("__classdict__":Str))=false:=by decide):PE X (.Name x pos) (aHp i):=by
 intro pins s σ H Q I h;obtain⟨v,e,h⟩:=h;obtain⟨m,j,k⟩:=I.loc;obtain⟨u,r,l⟩:=k i x v hN e g
 have b:EP X pins σ Q u s:=⟨v,H,I,r,h⟩
 rcases l with ⟨hk,hm⟩ | ⟨hk,c,f,a⟩
 ·exact wpAny_Name (wpAny_loadName_local I.ok.kind hk j hm b) hd
 ·rcases hk with hk | hk
  ·exact wpAny_Name (wpAny_loadName_cell I.ok.kind hk f a b) hd
  ·exact wpAny_Name (wpAny_loadName_free I.ok.kind hk f a b d) hd
theorem aA6{i j pos}:PE X (.Constant (.int i) j pos) (tC (.int i)):=λ_ _ _ H _ I h=>wpAny_Constant_int ⟨.int i,H,I.tok _,⟨_,rfl⟩,h⟩
theorem aEx{b j pos}:PE X (.Constant (.bool b) j pos) (tC (.bl b)):=λ_ _ _ H _ I h=>Constant_bool ⟨.bl b,H,I,rfl,h⟩
theorem aA4{j pos}:PE X (.Constant .none j pos) (tC .b8):=λ_ _ _ H _ I h=>Constant_none ⟨.b8,H,I,rfl,h⟩
theorem aA1{x j pos}:PE X (.Constant (.str x) j pos) (tC (.str x)):=λ_ _ _ H _ I h=>Calls.Constant_str ⟨.str x,H,I.tok _,⟨_,rfl⟩,h⟩
def Gl(X:Cx)(x:Str):Prop:=X.env.kindOf x=some .globalImplicit
variable{pins:List (Addr×Obj)}{u:Value}
theorem JV{σ:St}{Q:aNr}(I:Inv X pins σ H s)(hg:Gl X x)(hm:X.mg x=some u)(h:Q u s)
  (hd:(x==("__debug__":Str))=false:=by decide):wpAny (model X.prog X.w) X.A (eval (.Name x pos) X.env) Q E s:=
 Calls.Name_function_global I.ok.kind hg (Calls.loadGlobal_global (by rw[I.ok.glob];exact I.mod.glob.keeps I.bk) hm h) hd
theorem pZ{σ:St}{Q:aNr}(I:Inv X pins σ H s)(hg:Gl X x)(hm:X.mg x=none)(a:bootBuiltins x=some u)(h:Q u s)
  (b:x≠ "__name__":=by decide) (hd:(x==("__debug__":Str))=false:=by decide):wpAny (model X.prog X.w) X.A (eval (.Name x pos) X.env) Q E s:=by
 obtain⟨mb,c,d⟩:=I.mod.blt;exact Calls.Name_function_global I.ok.kind hg (Calls.loadGlobal_builtin (by rw[I.ok.glob];exact I.mod.glob.keeps I.bk) hm (by rw[I.ok.blt];exact c.keeps I.bk) ((d x b).trans a) h) hd
theorem U1{v:V}(hg:Gl X x)(hm:X.mg x=some u)(r:RelV v u)(hd:(x==("__debug__":Str))=false:=by decide):PE X (.Name x pos) (tC v):=
 λ_ _ _ H _ I h=>JV I hg hm ⟨v,H,I,r,h⟩ hd
theorem U4{v:V}(hg:Gl X x)(hm:X.mg x=none)(a:bootBuiltins x=some u)(r:RelV v u)(b:x≠ "__name__":=by decide)(hd:(x==("__debug__":Str))=false:=by decide):PE X (.Name x pos) (tC v):=
 λ_ _ _ H _ I h=>pZ I hg hm a ⟨v,H,I,r,h⟩ b hd
variable {a b:Expr}{ta tb:TE}{pos:Pos}
theorem PL(b:Expr){op:CmpOp}(h:op≠ .In)(a:op≠ .NotIn):behindInMarks op b=false:=by
 have c:(op==CmpOp.In)=false:=by cases op <;> first | rfl | exact absurd rfl h
 have d:(op==CmpOp.NotIn)=false:=by cases op <;> first | rfl | exact absurd rfl a
 cases b <;> simp[behindInMarks,c,d]
variable {tA tB' :TT}{rest:List Expr}
def aI1(t u:TT):TT:=λσ H Q=>t σ H λc a=>if c=true then u σ a Q else Q false a
def tOr(t u:TT):TT:=λσ H Q=>t σ H λc a=>if c=true then Q true a else u σ a Q
def aHu(t:TT):TT:=λσ H Q=>t σ H λc a=>Q (!c) a
theorem UJ(ha:PT X a tA):PW X (.BoolOp .And [a] pos) tA:=by
 intro b pins s σ H Q I h;refine isTrue_and (dJ (ha pins s σ H Q I h) λc s1 e=>?_)
 cases c with
 | true=>exact isTrue_and_nil e
 | false=>exact e
theorem ZW(ha:PT X a tA):PW X (.BoolOp .Or [a] pos) tA:=by
 intro b pins s σ H Q I h;refine isTrue_or (dJ (ha pins s σ H Q I h) λc s1 e=>?_)
 cases c with
 | false=>exact isTrue_or_nil e
 | true=>exact e
theorem ZX(ha:PT X a tA)(i:PW X (.BoolOp .And (b::rest) pos) tB'):PW X (.BoolOp .And (a::b::rest) pos) (aI1 tA tB'):=by
 intro j pins s σ H Q I h;refine isTrue_and (dJ (ha pins s σ H _ I h) λc s1 d=>?_);obtain⟨e,f,g⟩:=d
 cases c with
 | true=>exact i j pins s1 σ e Q f g
 | false=>exact⟨e,f,g⟩
theorem aEn(ha:PT X a tA)(i:PW X (.BoolOp .Or (b::rest) pos) tB'):PW X (.BoolOp .Or (a::b::rest) pos) (tOr tA tB'):=by
 intro j pins s σ H Q I h;refine isTrue_or (dJ (ha pins s σ H _ I h) λc s1 d=>?_);obtain⟨e,f,g⟩:=d
 cases c with
 | true=>exact⟨e,f,g⟩
 | false=>exact i j pins s1 σ e Q f g
theorem ZY(ha:PT X a tA):PT X (.UnaryOp .Not a pos) (aHu tA):=by
 intro pins s σ H Q I h;exact isTrue_not (ha pins s σ H (λc b=>Q (!c) b) I h)
def aE7(ta tb:TE):TE:=λσ H Q=>ta σ H λx a=>∃c,x= .bl c/\if c=true then tb σ a Q else Q (.bl false) a
def aE1(ta:TE):TE:=λσ H Q=>ta σ H λx a=>∃c,x= .bl c/\Q (.bl (!c)) a
theorem aA2{op}{t:TE}(h:PE X a t):PE X (.BoolOp op [a] pos) t:=λpins s σ H Q I b=>BoolOp_one (h pins s σ H Q I b)
theorem aA7(ha:PE X a ta)(i:PE X (.BoolOp .And (b::rest) pos) tb):PE X (.BoolOp .And (a::b::rest) pos) (aE7 ta tb):=by
 intro pins s σ H Q I h;refine BoolOp_and (dJ (ha pins s σ H _ I h) λv s1 e=>?_);obtain⟨x,f,g,j,d⟩:=e;obtain⟨c,rfl,d⟩:=d;cases j;refine aM8 ?_
 cases c with
 | true=>exact i pins s1 σ f Q g d
 | false=>exact⟨.bl false,f,g,rfl,d⟩
theorem aA3(ha:PE X a ta):PE X (.UnaryOp .Not a pos) (aE1 ta):=by
 intro pins s σ H Q I h;refine UnaryOp_ (dJ (ha pins s σ H _ I h) λv s1 b=>?_);obtain⟨x,e,f,g,d⟩:=b;obtain⟨c,rfl,d⟩:=d;cases g;exact not_of (aM8 ⟨.bl (!c),e,f,rfl,d⟩)
def tIf(t:TT)(ta tb:TE):TE:=λσ H Q=>t σ H λc a=>if c=true then ta σ a Q else tb σ a Q
theorem O5{c:Expr}(j:PT X c tA)(ha:PE X a ta)(k:PE X b tb):PE X (.IfExp c a b pos) (tIf tA ta tb):=by
 intro pins s σ H Q I h;refine wpAny_IfExp (dJ (j pins s σ H _ I h) λd s1 e=>?_);obtain⟨f,g,i⟩:=e
 cases d with
 | true=>exact ha pins s1 σ f Q g i
 | false=>exact k pins s1 σ f Q g i
end
def qB(K:aNq)(H:Hp)(a:Addr)(xs:List V):Prop:=
 Rd H a (.lst xs)\/
  ∃(o:Obj) (aL:Array Value) (n:Nat),K.lookup a=some o/\o.cls= .type "list"/\o.dict=none/\o.data= .seq aL n/\aL.size<=sizeLine/\Vals xs aL.toList
def t9(K:aNq)(H:Hp)(a:Addr)(xs:List V):Prop:=
 Rd H a (.tup xs)\/
  ∃(o:Obj) (aL:Array Value) (n:Nat),K.lookup a=some o/\o.cls= .type "tuple"/\o.dict=none/\o.data= .seq aL n/\aL.size<=sizeLine/\Vals xs aL.toList
def aJt:Value->Option V
 | .none=>some .b8
 | .bool b=>some (.bl b)
 | .int i _=>some (.int i)
 | .str x _=>some (.str x)
 | .bytes b _=>some (.byt b)
 | .float b _=>some (.flt b)
 | .ref a=>some (.ref a)
 | .type n=>some (.ty n)
 | _=>none
variable{u:Value}
theorem RelV.abs{x:V}(r:RelV x u):aJt u=some x:=by
 cases x with
 | b8=>cases r;rfl
 | bl _=>cases r;rfl
 | int _=>obtain⟨t,rfl⟩:=r;rfl
 | str _=>obtain⟨t,rfl⟩:=r;rfl
 | byt _=>obtain⟨t,rfl⟩:=r;rfl
 | flt _=>obtain⟨t,rfl⟩:=r;rfl
 | ref _=>cases r;rfl
 | ty _=>cases r;rfl
theorem RelV.inj{x y:V}(r:RelV x u)(q:RelV y u):x=y:=aKn (r.abs.symm.trans q.abs)
theorem Vals.inj:∀{xs a:List V} {us:List Value},Vals xs us->Vals a us->xs=a
 | _,_,_,.nil,.nil=>rfl
 | _,_,_,.cons r t,.cons r' t' =>by rw[r.inj r',Vals.inj t t']
section
variable {X:Cx}{pins:List (Addr×Obj)}{σ:St}{H:Hp}{s:Shared}{a:Addr}{xs ys:List V}
theorem qB.of{K:aNq}(h:H a=some (.lst xs)):qB K H a xs:= .inl (.inl h)
theorem Inv.list(I:Inv X pins σ H s)(h:qB X.K H a xs):∃aL:List Value,Vals xs aL/\PlainL s.heap a aL.toArray/\xs.length<=sizeLine:=by
 rcases h with h | ⟨o,aL,n,b,c,hd,hs,hz,r⟩
 ·obtain⟨z,aL,n,r,e⟩:=h.ok I.cI;exact⟨aL,r,⟨_,n,e,rfl,rfl,rfl⟩,z⟩
 ·refine⟨aL.toList,r,⟨o,n,I.kIn a o b,c,hd,by simpa using hs⟩,?_⟩;have e:=r.length;simp only[Array.length_toList]at e
  lia
theorem Inv.tuple(I:Inv X pins σ H s)(h:t9 X.K H a xs):∃aL:List Value,Vals xs aL/\IsTup s.heap a aL.toArray/\xs.length<=sizeLine:=by
 rcases h with h | ⟨o,aL,n,b,c,_,hs,hz,r⟩
 ·obtain⟨z,aL,r,p,_⟩:=h.ok I.cI;exact⟨aL,r,p,z⟩
 ·refine⟨aL.toList,r,⟨o,I.kIn a o b,c,n,by simpa using hs⟩,?_⟩;have e:=r.length;simp only[Array.length_toList]at e
  lia
theorem Inv.Y6(I:Inv X pins σ H s)(h:t9 X.K H a xs):∃ob,s.heap.get? a=some ob/\ob.cls= .type "tuple"/\ob.dict=none:=by
 rcases h with h | ⟨o,aL,n,b,d,hd,hs,hz,r⟩
 ·obtain⟨z,aL,r,⟨o,e,c,_⟩,nd⟩:=h.ok I.cI;exact⟨o,e,c,nd o e⟩
 ·exact⟨o,I.kIn a o b,d,hd⟩
theorem Inv.EI(I:Inv X pins σ H s)(h:qB X.K H a xs)(h' :qB X.K H a ys):xs=ys:=by
 obtain⟨aL,r,⟨o,n,e,_,_,d⟩,_⟩:=I.list h;obtain⟨its',c,⟨o',g,b,_,_,d'⟩,_⟩:=I.list h';rw[e]at b;cases b;rw[d]at d';injection d' with f _;have:aL=its' :=by simpa using aL4 Array.toList f
 subst this;exact r.inj c
theorem Inv.y4(I:Inv X pins σ H s)(h:t9 X.K H a xs)(h' :t9 X.K H a ys):xs=ys:=by
 obtain⟨aL,r,⟨o,e,_,n,d⟩,_⟩:=I.tuple h;obtain⟨its',c,⟨o',b,_,g,d'⟩,_⟩:=I.tuple h';rw[e]at b;cases b;rw[d]at d';injection d' with f _;have:aL=its' :=by simpa using aL4 Array.toList f
 subst this;exact r.inj c
end
abbrev Cx.xY(X:Cx)(E:aNr):Cx:={X with xe:=E}
abbrev Cx.VD(X:Cx):Cx:=X.xY λ_ _=>False
theorem Cx.Ok.xY{X:Cx}(ok:X.Ok)(E:aNr):(X.xY E).Ok:=
 ⟨ok.mod,ok.kind,ok.glob,ok.blt,ok.above,ok.inj,ok.has,ok.cab,ok.hd,ok.frames,ok.stk,ok.exf,ok.bs,ok.XO,ok.PK,ok.RP,ok.wZ,ok.frf⟩
theorem Cx.Ok.m7{X:Cx}(ok:(X.xY E).Ok):X.Ok:=
 ⟨ok.mod,ok.kind,ok.glob,ok.blt,ok.above,ok.inj,ok.has,ok.cab,ok.hd,ok.frames,ok.stk,ok.exf,ok.bs,ok.XO,ok.PK,ok.RP,ok.wZ,ok.frf⟩
section
variable {X:Cx}{pins:List (Addr×Obj)}{σ:St}{H:Hp}{s:Shared}{E:aNr}
theorem Inv.xY(I:Inv X pins σ H s)(E:aNr):Inv (X.xY E) pins σ H s:=⟨I.ok.xY E,I.os,I.bare,I.base,I.loc,I.cell,I.free,I.nW,I.pin,I.cI,I.len⟩
theorem Inv.m7(I:Inv (X.xY E) pins σ H s):Inv X pins σ H s:=⟨I.ok.m7,I.os,I.bare,I.base,I.loc,I.cell,I.free,I.nW,I.pin,I.cI,I.len⟩
theorem SP.m7{D:Ends}{f:Flow}{b :Shared}(h:SP (X.xY E) pins D f b):SP X pins D f b :=by
 cases f with
 | next=>obtain⟨a,H',I,q⟩:=h;exact⟨a,H',I.m7,q⟩
 | brk=>obtain⟨a,H',I,q⟩:=h;exact⟨a,H',I.m7,q⟩
 | cont=>obtain⟨a,H',I,q⟩:=h;exact⟨a,H',I.m7,q⟩
 | ret u=>obtain⟨v,a,H',I,r,q⟩:=h;exact⟨v,a,H',I.m7,r,q⟩
theorem CW.VD{st:List Stmt}{t:TS}(h:CW X.VD st t):CW X st t:=λpins s σ H D I a=>
 aLm (h pins s σ H D (I.xY _) a) (λ_ _ q=>q.m7) λ_ _ z=>False.elim z
end
section
variable {X:Cx}{st:Stmt}{rest:List Stmt}{t u:TS}{e:Expr}{te:TE}{pos:Pos}
def aE2:TS:=λD σ H=>D.nx σ H
def aHr(t u:TS):TS:=λD σ H=>t {D with nx:=u D} σ H
theorem UR:CW X [] aE2:=λ_ _ σ H _ I h=>aN7 ⟨σ,H,I,h⟩
theorem OV(b:PS X st t)(c:CW X rest u):CW X (st::rest) (aHr t u):=by
 intro pins s σ H D I h;refine wpAny_execs_cons (dJ (b pins s σ H {D with nx:=u D} I h) λf s1 q=>?_)
 cases f with
 | next=>
  obtain⟨a,H',d,q⟩:=q;exact c pins s1 a H' D d q
 | ret v=>exact q
 | brk=>exact q
 | cont=>exact q
theorem UQ(a:PS X st t):CW X [st] t:=by
 intro pins s σ H D I h;refine wpAny_execs_cons (dJ (a pins s σ H D I h) λf s1 q=>?_)
 cases f with
 | next=>exact aN7 q
 | ret v=>exact q
 | brk=>exact q
 | cont=>exact q
def ZG:TS:=λD σ H=>D.bk σ H
theorem OZ:PS X (.Break pos) ZG:=λ_ _ σ H _ I h=>wpAny_Break ⟨σ,H,I,h⟩
theorem Inv.quiet{pins:List (Addr×Obj)}{σ:St}(I:Inv X pins σ H s):interactive X.env=false:=by simp[interactive,I.ok.kind]
def aE4(te:TE):TS:=λD σ H=>te σ H λ_ a=>D.nx σ a
theorem US(he:PE X e te)(hs:swapsWith e none pos.line X.env=pure false:=by rfl):PS X (.Expr e pos) (aE4 te):=by
 intro pins s σ H D I h;exact wpAny_Expr_any (dJ (he pins s σ H _ I h) λv s1 a=>by obtain⟨x,b,c,f,d⟩:=a;exact⟨σ,b,c,d⟩) I.quiet hs
def aHs(te:TE):TS:=λD σ H=>te σ H D.rt
theorem Z0(he:PE X e te):PS X (.Return (some e) pos) (aHs te):=by
 intro pins s σ H D I h;exact wpAny_Return_some (dJ (he pins s σ H _ I h) λv s1 a=>by obtain⟨x,b,c,d,f⟩:=a;exact⟨x,σ,b,c,d,f⟩)
def aHy(c:TT)(t u:TS):TS:=λD σ H=>c σ H λb a=>if b=true then t D σ a else u D σ a
theorem aEp{c:Expr}{a b:List Stmt}{f:TT}(k:PT X c f)(ha:CW X a t)(l:CW X b u):PS X (.If c a b pos) (aHy f t u):=by
 intro pins s σ H D I h;refine wpAny_If (dJ (k pins s σ H _ I h) λd s1 e=>?_);obtain⟨g,i,j⟩:=e
 cases d with
 | true=>exact ha pins s1 σ g D i j
 | false=>exact l pins s1 σ g D i j
end
abbrev TG:=V->St->Hp->(St->Hp->Prop)->Prop
abbrev F0:=List V->St->Hp->(St->Hp->Prop)->Prop
def PG(X:Cx)(a:Expr)(t:TG):Prop:=
 ∀(pins:List (Addr×Obj)) (s:Shared) (σ:St) (H:Hp) (v:V) (u:Value) (Q:St->Hp->Prop),Inv X pins σ H s->RelV v u->t v σ H Q->
  wpAny (model X.prog X.w) X.A (assign a X.env u) (λ_ c =>∃b H',Inv X pins b H' c /\Q b H') X.xe s
def XX(X:Cx)(b:List Expr)(t:F0):Prop:=
 ∀(pins:List (Addr×Obj)) (s:Shared) (σ:St) (H:Hp) (vs:List V) (us:List Value) (Q:St->Hp->Prop),Inv X pins σ H s->Vals vs us->t vs σ H Q->
  wpAny (model X.prog X.w) X.A (assignInOrder ((assignEach b X.env).map (·.2)) us) (λ_ c =>∃a H',Inv X pins a H' c /\Q a H') X.xe s
abbrev aD9:=V->V->V->Hp->(Hp->Prop)->Prop
def aGn(X:Cx)(t:aD9):Prop:=
 ∀(pins:List (Addr×Obj)) (s:Shared) (σ:St) (H:Hp) (o i v:V) (a b u:Value) (Q:Hp->Prop),Inv X pins σ H s->RelV o a->RelV i b->RelV v u->t o i v H Q->
  wpAny (model X.prog X.w) X.A (setItem a b u) (λ_ c =>∃H',Inv X pins σ H' c /\Q H') X.xe s
section
variable {X:Cx}{pos:Pos}
def tW(i:Nat):TG:=λv σ H Q=>Q (σ.set i (some v)) H
theorem UZ{i:Nat}{x:Str}(hN:X.N.Nodup)(hi:X.N[i]? =some x)(hx:Loc X.env.scope x)(a:X.fn x=true\/X.env.scope.names.lookup x=some .local:=by first | exact .inl rfl | exact .inr rfl | assumption):PG X (.Name x pos) (tW i):=by
 intro pins s σ H v u Q I r h;exact wpAny_assign_Name (qQ I hN hi hx r (λc b =>⟨_,H,b,h⟩) a)
def RJ:F0:=λvs σ H Q=>vs=[]/\Q σ H
def EY(t:TG)(u:F0):F0:=λvs σ H Q=>∃v r,vs=v::r/\t v σ H λa H' =>u r a H' Q
theorem UY:XX X [] RJ:=by
 intro pins s σ H vs us Q I r h;obtain⟨e,h⟩:=h;subst e;cases r;exact assignInOrder_nil ⟨σ,H,I,h⟩
theorem O3{es:List Expr}{t:TG}{u:F0}(c:PG X e t)(d:XX X es u)
  (hs:(assignEach (e::es) X.env).map (·.2)=assign e X.env::(assignEach es X.env).map (·.2):=by rfl):XX X (e::es) (EY t u):=by
 intro pins s σ H vs us Q I r h;obtain⟨v,l,f,h⟩:=h;subst f
 cases r with
 | cons r g=>
  rw[hs];refine assignInOrder_cons (dJ (c pins s σ H _ _ _ I r h) λ_ s1 a=>?_);obtain⟨b,i,j,k⟩:=a;exact d pins s1 b i _ _ Q j g k
def aCh(K:aNq)(n:Nat)(t:F0):TG:=λv σ H Q=>∃a xs,v= .ref a/\t9 K H a xs/\xs.length=n/\t xs σ H Q
theorem Z6{es:List Expr}{k:Nat}{t:F0}{n:Nat}(g:X.calm=true)(h:XX X es t)
  (i:(assignEach es X.env).length=n:=by rfl) (c:(assignEach es X.env).findIdx? (·.1)=none:=by rfl):PG X (.Tuple es k pos) (aCh X.K n t):=by
 intro pins s σ H v u Q I r d;obtain⟨a,xs,j,l,m,d⟩:=d;subst j;cases r;obtain⟨aL,f,ht,hz⟩:=I.tuple l;refine assign_Tuple_tuple (I.ok.hd g) ht (by simp[i,<-m,f.length]) c λh' hx=>?_;have p:Inv X pins σ H {s with heap:=h'}:=I.kept (t' :=s.toks) λb o e=>hx b o (aKg (aKb e)) e;exact h pins _ σ H xs _ Q p (by simpa using f) d
def aJi(to a:TE)(t:aD9):TG:=λv σ H Q=>to σ H λo b=>a σ b λi c=>t o i v c λd=>Q σ d
theorem Z7{o i:Expr}{to f:TE}{t:aD9}(ho:PE X o to)(hi:PE X i f)(hs:aGn X t)
  (ha:∀v,assign (.Subscript o i pos) X.env v=(do
   let a<-holding [v] (eval o X.env)
   let b<-holding [v,a] (eval i X.env)
   standAt pos
   holding [v,a,b] (setItem a b v)
   release [v,a,b] []):=by intro _;rfl):PG X (.Subscript o i pos) (aJi to f t):=by
 intro pins s σ H v u Q I r h;rw[ha];refine aK2 (aKq (dJ (ho pins s σ H _ I h) λa s1 c=>?_));obtain⟨x,g,j,k,l⟩:=c;refine aK2 (aKq (dJ (hi pins s1 σ g _ j l) λb s2 d=>?_));obtain⟨y,m,n,p,q⟩:=d;refine aK2 (aMj (aK2 (aKq (dJ (hs pins s2 σ m x y v a b u _ n k p r q) λ_ B e=>?_))));obtain⟨w,z,A⟩:=e;exact wpAny_release ⟨σ,w,z,A⟩
def T1(te:TE)(g:TG):TS:=λD σ H=>te σ H λx a=>g x σ a D.nx
theorem GO{tg e:Expr}{te:TE}{g:TG}(he:PE X e te)(hg:PG X tg g)(hs:swapsWithSole [tg] e pos.line X.env=pure false:=by rfl)(a:swappedStores [tg] e X.env=pure none:=by rfl)
  (b:(assignEach [tg] X.env).map (·.2)=[assign tg X.env]:=by rfl):PS X (.Assign [tg] e pos) (T1 te g):=by
 intro pins s σ H D I h;refine wpAny_Assign_stores (dJ (he pins s σ H _ I h) λv s1 ⟨x,c,d,f,i⟩=>?_) hs a;rw[b];exact dJ (hg pins s1 σ c x v _ d f i) λ_ s2 q=>q
theorem ZZ{i:Nat}{x:Str}{te:TE}{a :Pos}(hN:X.N.Nodup)(hi:X.N[i]? =some x)(hx:Loc X.env.scope x)(he:PE X e te)(hs:swapsWith e (some (.Name x a)) pos.line X.env=pure false:=by rfl)(b:X.fn x=true\/X.env.scope.names.lookup x=some .local:=by first | exact .inl rfl | exact .inr rfl | assumption):
  PS X (.Assign [.Name x a] e pos) (T1 te (tW i)):=by
 intro pins s σ H D I h;refine wpAny_Assign_Name (dJ (he pins s σ H _ I h) λv s1 ⟨y,c,d,f,g⟩=>?_) hs;exact qQ d hN hi hx f (λs2 j=>⟨_,c,j,g⟩) b
def aHt(i j:Nat)(a:TA):TS:=λD σ H=>a σ H λvs b=>∃v w,vs=[v,w]/\D.nx ((σ.set i (some v)).set j (some w)) b
theorem Z3{i j:Nat}{x y:Str}{a b:Expr}{r:TA}{px g pt:Pos}{kt k2 pt2}(B:X.calm=true)(hN:X.N.Nodup)(hi:X.N[i]? =some x)(C:X.N[j]? =some y)(k:i≠j)
  (hx:X.env.scope.names.lookup x=some .local) (t:X.env.scope.names.lookup y=some .local) (ha:PA X [a,b] r)
  (E:swappedStores [.Tuple [.Name x px,.Name y g] kt pt] (.Tuple [a,b] k2 pt2) X.env=pure (some [x,y]))
  (hs:swapsWithSole [.Tuple [.Name x px,.Name y g] kt pt] (.Tuple [a,b] k2 pt2) pos.line X.env=pure false:=by rfl):
  PS X (.Assign [.Tuple [.Name x px,.Name y g] kt pt] (.Tuple [a,b] k2 pt2) pos) (aHt i j r):=by
 intro pins s σ H D I h;rw[exec_Assign_arm];refine aK2 (aMj ?_);rw[hs];refine aK2 (aK3 ?_);rw[if_neg (by decide)];refine aK2 (Tuple_ (dJ (ha _ pins s σ H _ I h) λus s1 f=>?_));obtain⟨vs,u,F,G,l⟩:=f;obtain⟨v,w,J,l⟩:=l;subst J
 obtain⟨c,d,rfl,K,m⟩:∃c d,us=[c,d]/\RelV v c/\RelV w d:=by
  cases G with
  | cons p q=>
   cases q with
   | cons L q' =>
    cases q';exact⟨_,_,rfl,p,L⟩
 refine aKt ?_ (by show 2<=sizeLine;decide);have M:Inv X pins σ u {s1 with heap:=s1.heap.push {cls:= .type "tuple",data:= .seq [c,d].toArray}}:=F.kept (t' :=s1.toks) λb o e=>aK4 _ e;rw[E];refine aK2 (aK3 ?_);show wpAny (model X.prog X.w) X.A (do rule "assign.swapped-stores";let items<-unpackItems (.ref s1.heap.objs.size) 2 none;assignInOrder [λv=>bindName X.env y v,λv=>bindName X.env x v] items.reverse;pure Flow.next) _ _ _;refine aK2 (aL9 (aK2 (unpackItems_tuple (items:= #[c,d]) (I.ok.hd B) (IsTup.new s1.heap _) λh' n =>?_)));have O:=M.kept (h' :=h') (t' :=s1.toks) λb o e=>n b o (aKg (aKb e)) e;show wpAny _ _ (assignInOrder [λv=>bindName X.env y v,λv=>bindName X.env x v] [d,c] >>=λ_=>pure Flow.next) _ _ _;refine aK2 (assignInOrder_cons (wpAny_bindName (qQ O hN C (.inl t) m (λs2 P=>?_) (.inr t))));refine assignInOrder_cons (wpAny_bindName (qQ P hN hi (.inl hx) K (λQ z=>assignInOrder_nil (aK3 ?_)) (.inr hx)));rw[List.set_comm _ _ (Ne.symm k)]at z;exact⟨_,u,z,l⟩
end
section
variable {X:Cx}{pos:Pos}
def ZC(c:TT)(tb:TS):TS:=λD σ H=>∃W:Nat->St->Hp->Prop,(∃m,W m σ H)/\∀m σ H,W m σ H->
 c σ H λb d=>if b=true then ∃N:St->Hp->Prop,(∀a H',N a H' ->∃e,e<m/\W e a H')/\tb {D with nx:=N,ct:=N,bk:=D.nx} σ d else D.nx σ d
theorem OX{c:Expr}{body:List Stmt}{r:TT}{tb:TS}(t:PassesOwn (model X.prog X.w) X.A X.env X.xe)(z:PT X c r)(B:CW X body tb):PS X (.While c body [] pos) (ZC r tb):=by
 intro pins s σ H D I h;obtain⟨W,⟨m0,C⟩,e⟩:=h;refine wpAny_While (codeAny_whileLoop (λn E =>∃g H',Inv X pins g H' E /\W n g H') ?_ m0 ⟨σ,H,I,C⟩);rintro n s1 ⟨d,u,F,G⟩;refine aLv t (dJ (z pins s1 d u _ F (e n d u G)) λb s2 i=>?_);obtain⟨x,y,k⟩:=i
 cases b with
 | true=>
  obtain⟨N,hN,k⟩:=k;rw[if_pos rfl];refine aLv t (dJ (B pins s2 d x _ y k) λf J l=>?_)
  cases f with
  | next=>
   obtain⟨a,j,m,o⟩:=l;obtain⟨p,hm,q⟩:=hN a j o;exact⟨p,hm,a,j,m,q⟩
  | cont=>
   obtain⟨a,j,m,o⟩:=l;obtain⟨p,hm,q⟩:=hN a j o;exact⟨p,hm,a,j,m,q⟩
  | brk=>exact l
  | ret v=>exact l
 | false=>
  rw[if_neg Bool.false_ne_true];exact aN7 ⟨d,x,y,k⟩
end
structure It where
 go:Nat->Hp->Prop
 yld:Nat->Hp->V->Hp->Prop
 stop:Nat->Hp->Prop
def xW(X:Cx)(pins:List (Addr×Obj))(H:Hp)(b:Addr):Prop:=
 H b=none/\b≠X.env.locals/\b∉X.fs/\(b∈X.ex\/X.s₀.heap.objs.size<=b)/\(∀x c,X.env.cells.lookup x=some c->c≠b)/\∀p∈X.pn++pins,p.1≠b
variable{pins:List (Addr×Obj)}{σ:St}
theorem Inv.RM{X:Cx}{H H' :Hp}(I:Inv X pins σ H s)(a:s.heap.objs.size<=b)(d:H' b=none):xW X pins H' b:=by
 refine⟨d,aLe (aKh I.lt a),I.aJ3 a,.inr (aKr I.sz a),λx c e z=>?_,λp f z=>?_⟩
 ·obtain⟨v,q⟩:=I.cell x c e;exact absurd (aKh q.lt (by rw[z];exact a)) (aM7 _)
 ·exact absurd (aKh (aKb (I.pin p f).1) (by rw[z];exact a)) (aM7 _)
structure Turn(P:Program)(w:World)(K:aNq)(tg:Expr)(J:It)(fp:List Addr)(it:Addr)(tn:Nat->Heap->Prop):Prop where
 mem:it∈fp
 obj:∀i h,tn i h->∀b∈fp,∃o,h.get? b=some o/\∀v,o.data≠ .cell v
 keep:∀i h h',tn i h->(∀b∈fp,∀o,h.get? b=some o->h'.get? b=some o)->tn i h'
 item:∀(X:Cx),X.prog=P->X.w=w->X.K=K->X.calm=true->∀(i:Nat) (pins:List (Addr×Obj)) (s:Shared) (σ:St) (H:Hp) (E:aNr),Inv X pins σ H s->(∀b∈fp,xW X pins H b)->tn i s.heap->J.go i H->
  wpAny (model P w) X.A (pyNext (.ref it)) (λr s1=>∃u,r=some u/\
   wpAny (model P w) X.A (letOwnedTupleGo tg (.ref it) u) (λ_ s2=>∃x H',Inv X pins σ H' s2/\RelV x u/\J.yld i H x H' /\tn (i+1) s2.heap/\∀b∈fp,H' b=none) E s1) E s
 done:∀(X:Cx),X.prog=P->X.w=w->X.K=K->X.calm=true->∀(i:Nat) (pins:List (Addr×Obj)) (s:Shared) (σ:St) (H:Hp) (E:aNr),Inv X pins σ H s->(∀b∈fp,xW X pins H b)->tn i s.heap->J.stop i H->
  wpAny (model P w) X.A (pyNext (.ref it)) (λr s1=>r=none/\Inv X pins σ H s1) E s
 self:∀(A:Around) (i:Nat) (s:Shared) (Q:aNr) (E:aNr),tn i s.heap->Q (.ref it) s->wpAny (model P w) A (pyIter (.ref it)) Q E s
abbrev TI:=St->Hp->(It->Hp->Prop)->Prop
def PIE(X:Cx)(pins:List (Addr×Obj))(σ:St)(tg:Expr)(R:It->Hp->Prop)(a:Value)(s2:Shared):Prop:=
 ∃(it:Addr) (fp:List Addr) (tn:Nat->Heap->Prop) (J:It) (H' :Hp),a= .ref it/\Inv X pins σ H' s2/\Turn X.prog X.w X.K tg J fp it tn/\tn 0 s2.heap/\(∀b∈fp,xW X pins H' b)/\R J H'
def PI(X:Cx)(tg iter:Expr)(wi:TI):Prop:=
 ∀(pins:List (Addr×Obj)) (s:Shared) (σ:St) (H:Hp) (R:It->Hp->Prop),Inv X pins σ H s->wi σ H R->
  wpAny (model X.prog X.w) X.A (eval iter X.env) (λv s1=>wpAny (model X.prog X.w) X.A (pyIter v) (PIE X pins σ tg R) X.xe s1) X.xe s
variable{tg:Expr}
theorem RG{M:Model}{it:Addr}{n:String}{vs:Array Value}{Q:Unit->Shared->Prop}(ho:s.heap.get? it=some o)(b:o.cls= .type n)(hd:o.data= .fields vs)
    (c:["enumerate","zip","dict_itemiterator","dict_reverseitemiterator","odict_iterator","itertools.zip_longest","itertools.pairwise"].contains n=false) (a:Q () s):wpAny M A (letOwnedTupleGo tg (.ref it) u) Q E s:=by
  unfold letOwnedTupleGo
  cases tg <;> first
    | exact aK3 a
    | (cases u <;> first
        | exact aK3 a
        | (refine aK2 (wpAny_load ho ?_)
           rw[b,hd];show wpAny M A (if (["enumerate","zip","dict_itemiterator","dict_reverseitemiterator","odict_iterator","itertools.zip_longest","itertools.pairwise"].contains n && vs[0]? ==some (rawInt _))=true then _ else _) Q E s;rw[if_neg (by intro h;rw[c,Bool.false_and]at h;cases h)]
           exact aK3 a))
def Itl(K:aNq)(a:Addr):It:=
 ⟨λi H=>∃xs x,qB K H a xs/\xs[i]? =some x,λi H x H' =>H' =H/\∀xs,qB K H a xs->xs[i]? =some x,λi H=>∃xs,qB K H a xs/\xs.length<=i⟩
def Itt(K:aNq)(a:Addr):It:=
 ⟨λi H=>∃xs x,t9 K H a xs/\xs[i]? =some x,λi H x H' =>H' =H/\∀xs,t9 K H a xs->xs[i]? =some x,λi H=>∃xs,t9 K H a xs/\xs.length<=i⟩
def Itr(lo:Int)(n:Nat):It:=⟨λi _=>i<n,λi H x H' =>H' =H/\x= .int (lo+i),λi _=>n<=i⟩
variable{K:aNq}
theorem LG(a it:Addr):Turn P w K tg (Itl K a) [it] it (λi h=>h.IsListIter it a i) where
 mem:=by simp
 obj:=λi h st b f=>by
  have e:b=it:=by simpa using f
  subst e;obtain⟨o,e,c,d⟩:=st;exact⟨o,e,λv z=>by rw[d]at z;cases z⟩
 keep:=λi h h' st k=>st.at λo e=>k it (by simp) o e
 item:=by
  intro X m n q C i pins s σ H E I j st hg;subst m n q;obtain⟨xs,x,l,hx⟩:=hg;obtain⟨aL,r,p,hz⟩:=I.list l;obtain⟨u,D,F⟩:=r.get hx;obtain⟨f0,t,G,y,A,B⟩:=j it (by simp);refine wpAny_pyNext_list_item st p.isList (x:=u) (by simpa using D) λh' g J=>?_;have L:Inv X pins σ H {s with heap:=h'}:=I.turned (t' :=s.toks) (λb o f e=>(J.2 b f).trans e) f0 t y A B;obtain⟨o,e,c,d⟩:=id g;exact⟨u,rfl,RG (s:={s with heap:=h'}) e c d (by decide) ⟨x,H,L,F,⟨rfl,λO M=>by rw[I.EI M l];exact hx⟩,g,λb f=>(j b f).1⟩⟩
 done:=by
  intro X m n q C i pins s σ H E I j st hg;subst m n q;obtain⟨xs,l,hx⟩:=hg;obtain⟨aL,r,p,hz⟩:=I.list l;obtain⟨f0,t,G,y,A,B⟩:=j it (by simp);have Q:=r.length
  exact wpAny_pyNext_list_end (I.ok.hd C) st p.isList (by simp;lia) λh' N=>⟨rfl,I.turned (t' :=s.toks) (λb o f e=>N b o f e) f0 t y A B⟩
 self:=λ_ _ _ _ _ st h=>wpAny_pyIter_listiter st h
theorem GB(a it:Addr):Turn P w K tg (Itt K a) [it] it (λi h=>h.IsTupleIter it a i) where
 mem:=by simp
 obj:=λi h st b f=>by
  have e:b=it:=by simpa using f
  subst e;obtain⟨o,e,c,d⟩:=st;exact⟨o,e,λv z=>by rw[d]at z;cases z⟩
 keep:=λi h h' st k=>st.at λo e=>k it (by simp) o e
 item:=by
  intro X m n q C i pins s σ H E I j st hg;subst m n q;obtain⟨xs,x,l,hx⟩:=hg;obtain⟨aL,r,p,hz⟩:=I.tuple l;obtain⟨u,D,F⟩:=r.get hx;obtain⟨f0,t,G,y,A,B⟩:=j it (by simp);refine wpAny_pyNext_tuple_item st (show s.heap.IsTuple a aL.toArray from p) (x:=u) (by simpa using D) λh' g J=>?_;have L:Inv X pins σ H {s with heap:=h'}:=I.turned (t' :=s.toks) (λb o f e=>(J.2 b f).trans e) f0 t y A B;obtain⟨o,e,c,d⟩:=id g;exact⟨u,rfl,RG (s:={s with heap:=h'}) e c d (by decide) ⟨x,H,L,F,⟨rfl,λO M=>by rw[I.y4 M l];exact hx⟩,g,λb f=>(j b f).1⟩⟩
 done:=by
  intro X m n q C i pins s σ H E I j st hg;subst m n q;obtain⟨xs,l,hx⟩:=hg;obtain⟨aL,r,p,hz⟩:=I.tuple l;obtain⟨f0,t,G,y,A,B⟩:=j it (by simp);have Q:=r.length
  exact wpAny_pyNext_tuple_end (I.ok.hd C) st (show s.heap.IsTuple a aL.toArray from p) (by simp;lia) λh' N=>⟨rfl,I.turned (t' :=s.toks) (λb o f e=>N b o f e) f0 t y A B⟩
 self:=λ_ _ _ _ _ st h=>wpAny_pyIter_tupleiter st h
theorem GC(it:Addr)(lo:Int)(n:Nat):Turn P w K tg (Itr lo n) [it] it (λi h=>IsRangeIter h it (lo+(i:Nat)*1) ((n:Int)-(i:Nat)) 1) where
 mem:=by simp
 obj:=λi h st b a=>by
  have e:b=it:=by simpa using a
  subst e
  exact⟨_,st,λv z=>by
   have x :Data.fields _=Data.cell v:=z
   cases x⟩
 keep:=λi h h' st k=>k it (by simp) _ st
 item:=by
  intro X f g j l i pins s σ H E I d st hg;subst f g j;obtain⟨f0,m,y,p,q,r⟩:=d it (by simp);have W:=Walks.range (prog:=X.prog) (w:=X.w) (I.ok.hd l) it lo 1 n;refine W.item i s _ _ hg st λv h' u A c kk=>?_;obtain⟨t,rfl⟩:=A;have B:Inv X pins σ H {s with heap:=h',toks:=u}:=I.turned (λb o a e=>kk b o (by simpa using a) e) f0 m p q r;refine⟨_,rfl,RG (s:={s with heap:=h',toks:=u}) (n:= "range_iterator") c rfl rfl (by decide) ⟨.int (lo+i),H,B,⟨t,?_⟩,⟨rfl,rfl⟩,c,λb a=>(d b a).1⟩⟩;rw[Int.mul_one]
 done:=by
  intro X f g j l i pins s σ H E I d st hg;subst f g j;obtain⟨f0,m,y,p,q,r⟩:=d it (by simp)
  exact wpAny_pyNext_range_end (I.ok.hd l) st (by have:n<=i:=hg;lia) λh' C=>⟨rfl,I.turned (t' :=s.toks) (λb o a e=>C b o a e) f0 m p q r⟩
 self:=λ_ _ _ _ _ st h=>wpAny_pyIter_rangeiter st h
section
variable {X:Cx}{tg:Expr}
theorem OR{R:It->Hp->Prop}{lo hi:Int}{t u v:Tok}{a:Nat}(I:Inv X pins σ H s)(d: -(2^62)<=lo)(f:lo<2^62)(g: -(2^62)<=hi)(h:hi<2^62)
  (q:R (Itr lo (hi-lo).toNat) H):wpAny (model X.prog X.w) X.A (pyIter (.ref s.heap.objs.size)) (PIE X pins σ tg R) E {s with heap:=s.heap.push {cls:= .type "range",data:= .fields #[.int lo t,.int hi u,.int 1 v]},toks:=a}:=by
 refine wpAny_pyIter_range (IsRange.new ..) (small_one d f g h) ?_;have c:Inv X pins σ H {s with heap:=s.heap.push {cls:= .type "range",data:= .fields #[.int lo t,.int hi u,.int 1 v]},toks:=a}:=I.kept λb o e=>aK4 _ e
 refine⟨(s.heap.push {cls:= .type "range",data:= .fields #[.int lo t,.int hi u,.int 1 v]}).objs.size,[(s.heap.push {cls:= .type "range",data:= .fields #[.int lo t,.int hi u,.int 1 v]}).objs.size],_,_,H,rfl,
  c.kept (t' :=a) λb o e=>aK4 _ e,GC _ lo (hi-lo).toNat,?_,λb i=>?_,q⟩
 ·have j:lo+((0:Nat):Int)*1=lo:=by simp
  have k:(((hi-lo).toNat:Nat):Int)-((0:Nat):Int)=Builtin.Range.rangeSize lo hi 1:=by rw[rangeSize_one];split <;> lia
  show IsRangeIter _ _ (lo+((0:Nat):Int)*1) ((((hi-lo).toNat:Nat):Int)-((0:Nat):Int)) 1;rw[j,k];exact aKa _ rfl
 ·have e:b=(s.heap.push {cls:= .type "range",data:= .fields #[.int lo t,.int hi u,.int 1 v]}).objs.size:=by simpa using i
  subst e;exact c.RM (aK6 _) (c.cI.fresh (aK6 _))
def aFw(a:TA):TI:=λσ H R=>a σ H λvs b=>∃j:Int,vs=[.int j]/\ -(2^62)<=j/\j<2^62/\R (Itr 0 j.toNat) b
theorem LR{a:Expr}{c:TA}{p pos:Pos}(hg:Gl X "range")(hm:X.mg "range"=none)(ha:PA X [a] c)(hs:starEach [a] X.env=[(false,eval a X.env)]:=by rfl):PI X tg (.Call (.Name "range" p) [a] [] pos) (aFw c):=by
 intro pins s σ H R I h;refine Call_ (pZ I hg hm boot_range (aLd (dJ (ha pos pins s σ H _ I h) λus s1 ⟨vs,k,d,f,b⟩=>?_) hs rfl));obtain⟨j,e,b,g,q⟩:=b;subst e
 cases f with
 | cons r i=>
  cases i;obtain⟨t,rfl⟩:=r;exact call_range_1 (OR d (by lia) (by lia) b g (by simpa using q))
def aHz(wi:TI)(g:TG)(tb:TS):TS:=λD σ H=>wi σ H λJ d=>∃W:Nat->Nat->St->Hp->Prop,(∃m,W 0 m σ d)/\∀i m σ H,W i m σ H->
 (J.stop i H/\D.nx σ H)\/(J.go i H/\∃N:St->Hp->Prop,(∀a H',N a H' ->∃c,c<m/\W (i+1) c a H')/\∀x H',J.yld i H x H' ->g x σ H' λb e=>tb {D with nx:=N,ct:=N,bk:=D.nx} b e)
def vZ(fp:List Addr)(h:Heap):List (Addr×Obj):=fp.filterMap λb=>(h.get? b).map λo=>(b,o)
variable{fp:List Addr}
theorem lJ(a:b∈fp)(e:h.get? b=some o):(b,o)∈vZ fp h:=List.mem_filterMap.mpr ⟨b,a,by rw[e];rfl⟩
theorem LX{p:Addr×Obj}(a:p∈vZ fp h):p.1∈fp/\h.get? p.1=some p.2:=by
 obtain⟨b,c,e⟩:=List.mem_filterMap.mp a
 cases q:h.get? b with
 | none=>rw[q]at e;cases e
 | some o=>
  rw[q]at e;have d :(b,o)=p:=aKn e;subst d;exact⟨c,q⟩
theorem Inv.pinned(I:Inv X pins σ H s)(f:∀b∈fp,xW X pins H b)(ho:∀b∈fp,∃o,s.heap.get? b=some o/\∀v,o.data≠ .cell v):Inv X (pins++vZ fp s.heap) σ H s:=
 I.JI λp g=>(aKi.mp g).elim (λz=>I.pin p (aKs _ z)) λz=>by
  obtain⟨a,e⟩:=LX z;obtain⟨f0,h,i,_⟩:=f p.1 a;obtain⟨o,c,d⟩:=ho p.1 a;rw[e]at c;cases c;exact⟨e,f0,h,i,d⟩
theorem Inv.qO{pins a:List (Addr×Obj)}(I:Inv X (pins++a) σ H s):Inv X pins σ H s:=I.JI λp b=>I.pin p (aKs _ (aLk _ b))
theorem Z4{iter:Expr}{body:List Stmt}{wi:TI}{g:TG}{tb:TS}{pos:Pos}(z:PassesOwn (model X.prog X.w) X.A X.env X.xe)(Y:X.calm=true)(hi:PI X tg iter wi)(hg:PG X tg g)(c:CW X body tb)
  (hs:∀x,foldedSetIterable iter X.env x=pure x:=by intro _;rfl):PS X (.For tg iter body [] pos) (aHz wi g tb):=by
 intro pins s σ H D I h;refine wpAny_For (dJ (hi pins s σ H _ I h) λv s1 h1=>dJ h1 λitv s2 h2=>?_) hs;obtain⟨it,fp,tn,J,H2,e,I2,T,P,Z,W,⟨m0,w0⟩,B⟩:=h2;subst e
 have j:∀{H' :Hp},(∀b∈fp,H' b=none)->∀b∈fp,xW X pins H' b:=λhn b c=>⟨hn b c,(Z b c).2⟩
 refine codeAny_forLoop_any (λn s' =>∃i k H',Inv X pins k H' s' /\tn i s'.heap/\(∀b∈fp,H' b=none)/\W i n k H') ?_ m0 ⟨0,σ,H2,I2,P,λb c=>(Z b c).1,w0⟩;rintro n s3 ⟨i,l,O,I3,C,E,w3⟩
 rcases B i n l O w3 with ⟨stop,qn⟩ | ⟨go,N,hN,step⟩
 ·refine aLv z (dJ (T.done X rfl rfl rfl Y i pins s3 l O X.xe I3 (j E) C stop) λr s4 F=>?_);obtain⟨Q,I4⟩:=F;subst Q;exact aN7 ⟨l,O,I4,qn⟩
 ·refine aLv z (dJ (T.item X rfl rfl rfl Y i pins s3 l O X.xe I3 (j E) C go) λr s4 G=>?_);obtain⟨u,Q,h4⟩:=G;subst Q;refine aLv z (dJ h4 λ_ s5 K=>?_);obtain⟨x,H5,I5,r5,y5,y,R⟩:=K;have S :=I5.pinned (j R) (T.obj _ _ y);refine aLv z (dJ (hg _ s5 l H5 x u _ S r5 (step x H5 y5)) λ_ s6 L=>?_);obtain⟨U,H6,I6,q6⟩:=L;refine aLv z (dJ (c _ s6 U H6 _ I6 q6) λf V t=>?_)
  have again:∀{a:St} {p:Hp},Inv X (pins++vZ fp s5.heap) a p V->N a p->∃m,m<n/\∃i k H',Inv X pins k H' V/\tn i V.heap/\(∀b∈fp,H' b=none)/\W i m k H' :=λ{a p} q M=>by
   obtain⟨m',hm,w7⟩:=hN a p M;refine⟨m',hm,i+1,a,p,q.qO,T.keep _ _ _ y λb c o e=>(q.pin (b,o) (aKs _ (aKs _ (lJ c e)))).1,λb c=>?_,w7⟩;obtain⟨o,e,d⟩:=T.obj _ _ y b c;exact(q.pin (b,o) (aKs _ (aKs _ (lJ c e)))).2.1
  cases f with
  | next=>obtain⟨a,p,q,M⟩:=t;exact again q M
  | cont=>obtain⟨a,p,q,M⟩:=t;exact again q M
  | brk=>obtain⟨a,p,q,t⟩:=t;exact⟨a,p,q.qO,t⟩
  | ret v=>obtain⟨x7,a,p,q,r7,t⟩:=t;exact⟨x7,a,p,q.qO,r7,t⟩
end
abbrev R2:=V->V->Hp->VK->Prop
def g7(X:Cx)(f:Value->Value->Sem Value)(r:R2):Prop:=
 ∀(pins:List (Addr×Obj)) (s:Shared) (σ:St) (H:Hp) (x y:V) (v u:Value) (Q:VK),Inv X pins σ H s->RelV x v->RelV y u->r x y H Q->
  wpAny (model X.prog X.w) X.A (f v u) (EP X pins σ Q) X.xe s
def UnR(X:Cx)(f:Value->Sem Value)(r:V->Hp->VK->Prop):Prop:=
 ∀(pins:List (Addr×Obj)) (s:Shared) (σ:St) (H:Hp) (x:V) (v:Value) (Q:VK),Inv X pins σ H s->RelV x v->r x H Q->
  wpAny (model X.prog X.w) X.A (f v) (EP X pins σ Q) X.xe s
def cD(X:Cx)(f:Value)(r:List V->Hp->VK->Prop):Prop:=
 ∀(pins:List (Addr×Obj)) (s:Shared) (σ:St) (H:Hp) (xs:List V) (us:List Value) (Q:VK),Inv X pins σ H s->Vals xs us->r xs H Q->
  wpAny (model X.prog X.w) X.A (call f us) (EP X pins σ Q) X.xe s
def aJu(X:Cx)(r:V->Hp->(Bool->Hp->Prop)->Prop):Prop:=
 ∀(pins:List (Addr×Obj)) (s:Shared) (σ:St) (H:Hp) (x:V) (v:Value) (Q:Bool->Hp->Prop),Inv X pins σ H s->RelV x v->r x H Q->
  wpAny (model X.prog X.w) X.A (truthy v) (TP X pins σ Q) X.xe s
def tOp(r:R2)(a tb:TE):TE:=λσ H Q=>a σ H λx b=>tb σ b λy c=>r x y c Q
def tUn(r:V->Hp->VK->Prop)(a:TE):TE:=λσ H Q=>a σ H λx b=>r x b Q
def rI(C:Int->Int->Prop)(g:Int->Int->V):R2:=λx y H Q=>∃i j,x= .int i/\y= .int j/\C i j/\Q (g i j) H
def ZV(g:Int->Int->V):R2:=λx y H Q=>∃i j,x= .int i/\y= .int j/\Q (g i j) H
def rU(g:Int->V):V->Hp->VK->Prop:=λx H Q=>∃i,x= .int i/\Q (g i) H
section
variable {X:Cx}{a b c:Expr}{ta tb tc:TE}{pos:Pos}
variable{f:Value->Value->Sem Value}
theorem aD4(ha:PE X a ta)(k:PE X b tb){R:V->V->Hp->Prop}(I:Inv X pins σ H s)
  (h:ta σ H λx j=>tb σ j λy c=>R x y c) {Q:aNr} 
  (l:∀v u s2 x y c,Inv X pins σ c s2->RelV x v->RelV y u->R x y c->wpAny (model X.prog X.w) X.A (f v u) Q X.xe s2):
  wpAny (model X.prog X.w) X.A (eval a X.env) (λv d=>wpAny (model X.prog X.w) X.A (eval b X.env) (λu e=>wpAny (model X.prog X.w) X.A (f v u) Q X.xe e) X.xe d) X.xe s:=by
 refine dJ (ha pins s σ H _ I h) λv s1 g=>?_;obtain⟨x,j,m,n,o⟩:=g;refine dJ (k pins s1 σ j _ m o) λu s2 i=>?_;obtain⟨y,c,p,q,r⟩:=i;exact l v u s2 x y c p n q r
theorem aEt{op:Operator}{r:R2}(ho:g7 X (binaryOp op) r)(ha:PE X a ta)(c:PE X b tb):PE X (.BinOp a op b pos) (tOp r ta tb):=by
 intro pins s σ H Q I h;exact wpAny_BinOp (aD4 ha c I h λv u s2 x y d e f g q=>ho pins s2 σ d x y v u Q e f g q)
theorem aEs{op:UnaryOp}{r:V->Hp->VK->Prop}(ho:UnR X (unaryOp op) r)(ha:PE X a ta):PE X (.UnaryOp op a pos) (tUn r ta):=by
 intro pins s σ H Q I h;exact UnaryOp_ (dJ (ha pins s σ H _ I h) λv s1 b=>by obtain⟨x,c,d,e,f⟩:=b;exact ho pins s1 σ c x v Q d e f)
variable{g:Int->Int->Int}
theorem opI{C:Int->Int->Prop}
  (rule:∀(i j:Int) (t u:Tok) (s:Shared) (Q:aNr) (E:aNr),C i j->Q (.int (g i j) s.toks) {s with toks:=s.toks+1}->wpAny (model X.prog X.w) X.A (f (.int i t) (.int j u)) Q E s):
  g7 X f (rI C λi j=>.int (g i j)):=by
 intro pins s σ H x y v u Q I a b h;obtain⟨i,j,rfl,rfl,c,q⟩:=h;obtain⟨t,rfl⟩:=a;obtain⟨t',rfl⟩:=b;exact rule i j t t' s _ _ c ⟨.int (g i j),H,I.tok _,⟨_,rfl⟩,q⟩
theorem aF1
  (rule:∀(i j:Int) (t u:Tok) (s:Shared) (Q:aNr) (E:aNr),Q (.int (g i j) s.toks) {s with toks:=s.toks+1}->wpAny (model X.prog X.w) X.A (f (.int i t) (.int j u)) Q E s):
  g7 X f (ZV λi j=>.int (g i j)):=by
 intro pins s σ H x y v u Q I a b h;obtain⟨i,j,rfl,rfl,q⟩:=h;obtain⟨t,rfl⟩:=a;obtain⟨t',rfl⟩:=b;exact rule i j t t' s _ _ ⟨.int (g i j),H,I.tok _,⟨_,rfl⟩,q⟩
theorem aF2{g:Int->Int->Bool}
  (rule:∀(i j:Int) (t u:Tok) (s:Shared) (Q:aNr) (E:aNr),Q (.bool (g i j)) s->wpAny (model X.prog X.w) X.A (f (.int i t) (.int j u)) Q E s):
  g7 X f (ZV λi j=>.bl (g i j)):=by
 intro pins s σ H x y v u Q I a b h;obtain⟨i,j,rfl,rfl,q⟩:=h;obtain⟨t,rfl⟩:=a;obtain⟨t',rfl⟩:=b;exact rule i j t t' s _ _ ⟨.bl (g i j),H,I,rfl,q⟩
def aGp(i j:Int):Prop:=0<j/\j<1073741824
def aDc(i j:Int):Prop:=0<=j/\j<=1000000/\i.natAbs<2^64
def NO(i j:Int):Prop:=(-(2^64)<i/\i<2^64)\/(-(2^64)<j/\j<2^64)
theorem NO.ok{i j:Int}(h:NO i j):IntMulOk i j:=by
 rcases h with ⟨a,b⟩ | ⟨a,b⟩
 ·exact .of_left (intBits_le_64 a b)
 ·exact .of_right (intBits_le_64 a b)
theorem aAd:g7 X (binaryOp .Add) (ZV λi j=>.int (i+j)):=aF1 λ_ _ _ _ _ _ _ q=>add_int q
theorem aA8:g7 X (binaryOp .Sub) (ZV λi j=>.int (i-j)):=aF1 λ_ _ _ _ _ _ _ q=>sub_int q
theorem aAa:g7 X (binaryOp .Mult) (rI NO λi j=>.int (i*j)):=opI λ_ _ _ _ _ _ _ a q=>mul_int q a.ok
theorem U7:g7 X (binaryOp .FloorDiv) (rI aGp λi j=>.int (i / j)):=opI λi j _ _ _ _ _ a q=>by
 have b:(0:Int)<j:=a.1;have c:j<1073741824:=a.2;exact floordiv_int (by lia) (by rw[Int.fdiv_eq_ediv_of_nonneg i (by lia)];exact q) (.inl (PyProof.noPylong_small (by lia)))
theorem aAb:g7 X (binaryOp .Mod) (rI (λ_ j=>0<j) λi j=>.int (i % j)):=opI λi j _ _ _ _ _ a q=>by
 have b:(0:Int)<j:=a;exact mod_int' (by lia) (by rw[Int.fmod_eq_emod_of_nonneg i (by lia)];exact q)
theorem aA9:g7 X (binaryOp .Pow) (rI aDc λi j=>.int (i^j.toNat)):=opI λ_ _ _ _ _ _ _ a q=>pow_int_small a.1 a.2.1 a.2.2 q
theorem unI{f:Value->Sem Value}{g:Int->Int}
  (rule:∀(i:Int) (t:Tok) (s:Shared) (Q:aNr) (E:aNr),Q (.int (g i) s.toks) {s with toks:=s.toks+1}->wpAny (model X.prog X.w) X.A (f (.int i t)) Q E s):
  UnR X f (rU λi=>.int (g i)):=by
 intro pins s σ H x v Q I a h;obtain⟨i,rfl,q⟩:=h;obtain⟨t,rfl⟩:=a;exact rule i t s _ _ ⟨.int (g i),H,I.tok _,⟨_,rfl⟩,q⟩
theorem Y1:UnR X (unaryOp .USub) (rU λi=>.int (-i)):=unI λ_ _ _ _ _ q=>neg_int q
end
section
variable {X:Cx}{a b c:Expr}{ta tb tc:TE}{pos:Pos}
theorem RN{Q:VK}{k a :Bool}(I:Inv X pins σ H s)(q:Q (.bl k) H)(e:k=a):EP X pins σ Q (.bool a) s:=by
 subst e;exact⟨.bl k,H,I,rfl,q⟩
theorem aEz:g7 X (compareOp .Lt) (ZV λi j=>.bl (decide (i<j))):=aF2 λ_ _ _ _ _ _ _ q=>lt_int q
theorem aF0:g7 X (compareOp .Gt) (ZV λi j=>.bl (decide (j<i))):=aF2 λ_ _ _ _ _ _ _ q=>gt_int q
theorem LV:g7 X (compareOp .Lt) (λx y H Q=>∃i j,x= .str i/\y= .str j/\Q (.bl (decide (i.cps.toList<j.cps.toList))) H):=by
 intro pins s σ H x y v u Q I a b h;obtain⟨i,j,rfl,rfl,q⟩:=h;obtain⟨t,rfl⟩:=a;obtain⟨t',rfl⟩:=b;exact lt_str (RN I q rfl)
theorem U6:g7 X (compareOp .IsNot) (λx y H Q=>y= .b8/\Q (.bl (!decide (x= .b8))) H):=by
 intro pins s σ H x y v u Q I a b h;obtain⟨rfl,q⟩:=h;cases b;refine isnot_none_gen (RN I q ?_)
 cases x <;> first
  | (cases a;rfl)
  | (obtain⟨t,rfl⟩:=a;rfl)
theorem U2{op:CmpOp}{r:R2}(ho:g7 X (compareOp op) r)(ha:PE X a ta)(c:PE X b tb)(hm:behindInMarks op b=false):PE X (.Compare a [op] [b] pos) (tOp r ta tb):=by
 intro pins s σ H Q I h;exact wpAny_Compare1 (aD4 ha c I h λv u s2 x y d e f g q=>ho pins s2 σ d x y v u Q e f g q) hm
def YA(t:TE):TT:=λσ H Q=>t σ H λx H' =>∃k,x= .bl k/\Q k H'
theorem UP{op:CmpOp}{r:R2}(ho:g7 X (compareOp op) r)(ha:PE X a ta)(d:PE X b tb)(hm:behindInMarks op b=false):PT X (.Compare a [op] [b] pos) (YA (tOp r ta tb)):=by
 intro pins s σ H Q I h
 refine wpAny_isTrue_Compare1 (dJ (ha pins s σ H _ I h) λv s1 ⟨x,f,g,i,j⟩=>dJ (d pins s1 σ f _ g j) λu s2 ⟨y,l,m,n,o⟩=>
  dJ (ho pins s2 σ l x y v u _ m i n o) λc A ⟨z,p,q,t,k,e,w⟩=>?_) hm
 subst e;cases t;exact aM8 ⟨p,q,w⟩
def aD8(K:aNq)(x:V)(H:Hp)(k:Bool):Prop:=
 match x with
 | .b8=>k=false
 | .bl b=>k=b
 | .int i=>k=(i !=0)
 | .str y=>y.length<=sizeLine/\k=((y.length:Int) !=0)
 | .byt y=>y.size<=sizeLine/\k=((y.size:Int) !=0)
 | .ref p=>(∃xs,qB K H p xs/\k= !xs.isEmpty)\/(∃xs,t9 K H p xs/\k= !xs.isEmpty)\/∃kvs,H p=some (.dK kvs)/\k= !kvs.isEmpty
 | _=>False
theorem HD{κ:Type}{kvs:List (κ×V)}{vs:List (κ×Value)}(r:KV kvs vs):(!vs.isEmpty)= !kvs.isEmpty:=by
 cases r <;> rfl
theorem wX{xs:List V}{aL:List Value}(r:Vals xs aL):(!aL.toArray.isEmpty)= !xs.isEmpty:=by
 cases r <;> simp
theorem nQ:(sizeLine:Nat)<2^63:=by rw[sizeLine_eq];decide
theorem Y8:aJu X (λx H Q=>∃k,aD8 X.K x H k/\Q k H):=by
 intro pins s σ H x v Q I d h;obtain⟨k,e,q⟩:=h;have l:=nQ;have hs:sizeLine=16777216:=aKc
 cases x with
 | b8=>
  cases d;have a :k=false:=e;subst a;exact truthy_none ⟨H,I,q⟩
 | bl b=>
  cases d;have a :k=b:=e;subst a;exact aM8 ⟨H,I,q⟩
 | int i=>
  obtain⟨t,rfl⟩:=d;have a :k=(i !=0):=e;subst a;exact PySem.P.truthy_int ⟨H,I,q⟩
 | str y=>
  obtain⟨t,rfl⟩:=d;obtain⟨g,a⟩:y.length<=sizeLine/\k=((y.length:Int) !=0):=e;subst a;exact PySem.P.truthy_str (by lia) ⟨H,I.tok _,q⟩
 | byt y=>
  obtain⟨t,rfl⟩:=d;obtain⟨g,a⟩:y.size<=sizeLine/\k=((y.size:Int) !=0):=e;subst a;exact PySem.W.truthy_bytes (by lia) ⟨H,I.tok _,q⟩
 | ref p=>
  cases d;have a :(∃xs,qB X.K H p xs/\k= !xs.isEmpty)\/(∃xs,t9 X.K H p xs/\k= !xs.isEmpty)\/∃kvs,H p=some (.dK kvs)/\k= !kvs.isEmpty:=e
  rcases a with ⟨xs,hx,a⟩ | ⟨xs,hx,a⟩ | ⟨kvs,hx,a⟩
  ·subst a;obtain⟨aL,r,f,hz⟩:=I.list hx;have c:=r.length;exact wpAny_truthy_list f.isList (by simp only[List.size_toArray];lia) ⟨H,I.tok _,by rw[wX r];exact q⟩
  ·subst a;obtain⟨aL,r,f,hz⟩:=I.tuple hx;have c:=r.length;exact truthy_tuple f (by simp only[List.size_toArray];lia) ⟨H,I.tok _,by rw[wX r];exact q⟩
  ·subst a;obtain⟨hz,j,vs,r,m⟩:kvs.length<=sizeLine/\(p==sysModules)=false/\∃vs,KV kvs vs/\s.heap.DictOf (aR X.prog X.w) p vs:=I.cI p _ hx;have c:kvs.length=vs.length:=Paired.length r;exact wpAny_truthy_dict j m (by lia) ⟨H,I.tok _,by rw[HD r];exact q⟩
 | _=>exact(show False from e).elim
theorem OU(ha:PE X a ta)(he:∀b,isTrue a X.env b=(do let v<-b;standAt a.pos;holding [v] (truthy v))):
  PT X a (λσ H Q=>ta σ H λx H' =>∃k,aD8 X.K x H' k/\Q k H'):=by
 intro pins s σ H Q I h;exact isTrue_plain (dJ (ha pins s σ H _ I h) λv s1 c=>by obtain⟨x,d,e,f,g⟩:=c;exact Y8 pins s1 σ d x v Q e f g) (he _)
theorem GQ:g7 X (binaryOp .Add) (λx y H Q=>∃i j,x= .str i/\y= .str j/\i.length+j.length<=sizeLine/\Q (.str (i++j)) H):=by
 intro pins s σ H x y v u Q I a b h;obtain⟨i,j,rfl,rfl,hz,q⟩:=h;obtain⟨t,rfl⟩:=a;obtain⟨t',rfl⟩:=b;exact add_str (λt' c=>⟨.str (i++j),H,I.tok _,⟨_,rfl⟩,q⟩) hz
theorem vals1{x:V}(r:Vals [x] us):∃u,us=[u]/\RelV x u:=by
 cases r with
 | cons a b=>cases b;exact⟨_,rfl,a⟩
theorem vals2{x y:V}(r:Vals [x,y] us):∃u a,us=[u,a]/\RelV x u/\RelV y a :=by
 cases r with
 | cons b c=>
  cases c with
  | cons d e=>cases e;exact⟨_,_,rfl,b,d⟩
theorem R8:cD X (.builtin "abs") (λxs H Q=>∃i,xs=[.int i]/\Q (.int (if i<0 then -i else i)) H):=by
 intro pins s σ H xs us Q I r h;obtain⟨i,rfl,q⟩:=h;obtain⟨u,rfl,t,rfl⟩:=vals1 r
 exact call_abs_int λu a=>⟨.int (if i<0 then -i else i),H,I.tok _,⟨_,rfl⟩,q⟩
theorem NI(b:X.calm=true):cD X (.builtin "max") (λxs H Q=>∃i j,xs=[.int i,.int j]/\Q (.int (if j > i then j else i)) H):=by
 intro pins s σ H xs us Q I r h;obtain⟨i,j,rfl,q⟩:=h;obtain⟨u,c,rfl,⟨t,rfl⟩,⟨t',rfl⟩⟩:=vals2 r
 refine max_two_ints (I.ok.hd b) λh' d k=>⟨_,H,I.kept k,?_,q⟩
 by_cases a:j > i
 ·rw[if_pos a,if_pos a];exact⟨_,rfl⟩
 ·rw[if_neg a,if_neg a];exact⟨_,rfl⟩
theorem NH(b:X.calm=true):cD X (.builtin "min") (λxs H Q=>∃i j,xs=[.int i,.int j]/\Q (.int (if j<i then j else i)) H):=by
 intro pins s σ H xs us Q I r h;obtain⟨i,j,rfl,q⟩:=h;obtain⟨u,c,rfl,⟨t,rfl⟩,⟨t',rfl⟩⟩:=vals2 r
 refine min_two_ints (I.ok.hd b) λh' d k=>⟨_,H,I.kept k,?_,q⟩
 by_cases a:j<i
 ·rw[if_pos a,if_pos a];exact⟨_,rfl⟩
 ·rw[if_neg a,if_neg a];exact⟨_,rfl⟩
theorem AH:cD X (.type "int") (λxs H Q=>(∃i,xs=[.int i]/\Q (.int i) H)\/∃k,xs=[.bl k]/\Q (.int (if k then 1 else 0)) H):=by
 intro pins s σ H xs us Q I r h
 rcases h with ⟨i,rfl,q⟩ | ⟨k,rfl,q⟩
 ·obtain⟨u,rfl,t,rfl⟩:=vals1 r;exact call_int_int ⟨.int i,H,I,⟨_,rfl⟩,q⟩
 ·obtain⟨u,rfl,a⟩:=vals1 r;cases a;exact call_int_bool ⟨.int (if k then 1 else 0),H,I.tok _,⟨_,rfl⟩,q⟩
end
theorem uI.some_of{v:V}{o:Option Value}(r:uI (some v) o):∃u,o=some u/\RelV v u:=by
 cases o with
 | none=>exact(show False from r).elim
 | some u=>exact⟨u,rfl,r⟩
structure hU(k:Nat)(A:Around):Prop where
 hd:A.handled=none
 dp:A.depth+3*k+5<recursionLimit
 un:A.units+16*k+200<cLine
theorem hU.mono{j k:Nat}(r:hU k A)(h:j<=k):hU j A:=⟨r.hd,by have:=r.dp;lia,by have:=r.un;lia⟩
theorem hU.deeper{k:Nat}(r:hU (k+1) A)(env:Env):hU k (A.deeper env):=
 ⟨r.hd,by have:=r.dp;show A.depth+1+3*k+5<_;lia,by have:=r.un;show A.units+3+16*k+200<_;lia⟩
theorem hU.depth{k:Nat}(r:hU k A):A.depth<recursionLimit:=by have:=r.dp;lia
theorem hU.units{k:Nat}(r:hU k A):A.units+64<cLine:=by have:=r.un;lia
def aHv:TA:=λ_ H Q=>Q [] H
def aE5(a:TE)(tr:TA):TA:=λσ H Q=>a σ H λx b=>tr σ b λxs c=>Q (x::xs) c
section
variable {X:Cx}{e:Expr}{es:List Expr}{te:TE}{t:TA}{pos:Pos}
theorem A5:PA X [] aHv:=λ_ _ _ _ H Q I h=>Calls.spliced_nil ⟨[],H,I,.nil,h⟩
theorem uN(ha:PE X e te)(c:PA X es t)(hs:starEach (e::es) X.env=(false,eval e X.env)::starEach es X.env:=by rfl):PA X (e::es) (aE5 te t):=by
 intro pos pins s σ H Q I h;rw[hs];show wpAny _ _ (spliced ((false,eval e X.env)::backTo pos (starEach es X.env))) _ _ s;refine aM2 (dJ (ha pins s σ H _ I h) λu s1 a=>?_);obtain⟨x,d,f,g,i⟩:=a;exact dJ (c pos pins s1 σ d _ f i) λus s2 b=>by obtain⟨xs,j,k,l,m⟩:=b;exact⟨x::xs,j,k,.cons g l,m⟩
def aHq(t:TA):TE:=λσ H Q=>t σ H λxs a=>xs.length<=sizeLine/\∀p,a p=none->Q (.ref p) (upd a p (.tup xs))
def aHw(t:TA):TE:=λσ H Q=>t σ H λxs a=>xs.length<=sizeLine/\∀p,a p=none->Q (.ref p) (upd a p (.lst xs))
theorem aA0{x1}(h:PA X es t):PE X (.Tuple es x1 pos) (aHq t):=by
 intro pins s σ H Q I d;refine wpAny_Tuple_spliced (dJ (h pos pins s σ H _ I d) λus s1 ⟨xs,a,c,r,z,q⟩=>⟨by rw[<-r.length];exact z,?_⟩);have f:a s1.heap.objs.size=none:=c.cI.fresh (aK6 _);refine⟨.ref s1.heap.objs.size,upd a s1.heap.objs.size (.tup xs),c.laid (t' :=s1.toks) (λb u e=>aK4 _ e) (aK6 _) ?_,rfl,q _ f⟩;exact⟨z,us,r,⟨_,aKa _ rfl,rfl,_,rfl⟩,AU _ _⟩
theorem aA5(h:PA X es t):PE X (.List es pos) (aHw t):=by
 intro pins s σ H Q I d;refine wpAny_List_spliced (dJ (h pos pins s σ H _ I d) λus s1 ⟨xs,a,c,r,z,q⟩=>⟨by rw[<-r.length];exact z,?_⟩);have f:a s1.heap.objs.size=none:=c.cI.fresh (aK6 _);refine⟨.ref s1.heap.objs.size,upd a s1.heap.objs.size (.lst xs),c.laid (t' :=s1.toks) (λb u e=>aK4 _ e) (aK6 _) ?_,rfl,q _ f⟩;exact⟨z,us,0,r,aKa _ rfl⟩
end
abbrev Sp:=List V->Hp->VK->XK->Prop
abbrev NT:=List Env->Hp->Shared->XK->aNr
structure X1(P:Program)(w:World)(K:aNq)(mg:aNt)(base:Heap)(A:Around)(outer:List Env)(s:Shared)(H:Hp):Prop where
 frames:A.frames=some outer
 mod:Mod K mg base
 bs:∀b o,base.get? b=some o->s.heap.get? b=some o/\H b=none
 XO:base.objs.size<=s.heap.objs.size
 wZ:s.heap.FunFrames base outer
 frf:∀b∈RK outer,H b=none
 cI:rS P w H s.heap
 bare:AllBare s.gens
def CE(outer:List Env)(P:Program)(w:World)(H:Hp)(s:Shared)(Q:VK)(u:Value)(a :Shared):Prop:=
 ∃v H',a.os=s.os/\AllBare a.gens/\Un (RK outer) [] H H' s.heap a.heap/\rS P w H' a.heap/\RelV v u/\Q v H'
def CR(CX:NT)(outer:List Env)(P:Program)(w:World)(H:Hp)(s:Shared)(Q:VK)(E:XK)(r:Result)(a :Shared):Prop:=
 match r with
 | .ok (.ret u)=>CE outer P w H s Q u a
 | .ok _=>False
 | .error e=>CX outer H s E e a
structure kZ(P:Program)(w:World)(K:aNq)(mg:aNt)(base:Heap)(CX:NT)(k:Nat)(f:Addr)(fd:FuncData)(ps:List Str)(sp:Sp):Prop where
 len:∀vs H Q E,sp vs H Q E->vs.length=ps.length
 run:∀(A:Around) (outer:List Env) (s:Shared) (H:Hp) (args:Args) (us:List Value) (vs:List V) (Q:VK) (E:XK),hU k A->X1 P w K mg base A outer s H->BindsTo s fd args (ps.zip us)->Vals vs us->sp vs H Q E->
  codeAny (model P w) A (.call (.ref f) args) (CR CX outer P w H s Q E) s
variable{mg:aNt}{base:Heap}{f:Addr}{fd:FuncData}{ps:List Str}
theorem kZ.mono{CX:NT}{j k:Nat}{sp:Sp}(F:kZ P w K mg base CX j f fd ps sp)(h:j<=k):
  kZ P w K mg base CX k f fd ps sp:=⟨F.len,λA outer s H args us vs Q E a=>F.run A outer s H args us vs Q E (a.mono h)⟩
theorem kZ.imp{CX:NT}{k:Nat}{sp a :Sp}(F:kZ P w K mg base CX k f fd ps sp)
  (h:∀vs H Q E,a vs H Q E->sp vs H Q E):kZ P w K mg base CX k f fd ps a :=
 ⟨λvs H Q E q=>F.len vs H Q E (h _ _ _ _ q),λA outer s H args us vs Q E b he c d hs=>F.run A outer s H args us vs Q E b he c d (h _ _ _ _ hs)⟩
section
variable {X:Cx}{pins:List (Addr×Obj)}{σ:St}{H:Hp}{s s' :Shared}
theorem Inv.aJl(I:Inv X pins σ H s):X1 X.prog X.w X.K X.mg X.base X.A X.stack s H:=
 ⟨I.ok.frames,I.ok.mod,I.bs,aKr I.ok.XO I.sz,I.stack,I.JC,I.cI,I.bare⟩
theorem Inv.after{Q:VK}(I:Inv X pins σ H s)(h:CE X.stack X.prog X.w H s Q u s'):EP X pins σ Q u s' :=by
 obtain⟨v,H',os,bare,un,cI,r,q⟩:=h;obtain⟨c,g,d,t,a⟩:=s';obtain rfl:a =s.os:=os;exact⟨v,H',I.call (h' :=c) (g' :=g) (d' :=d) (t' :=t) (ch:=[]) un cI bare (λb z=>absurd z (by simp)),r,q⟩
end
def aE6(sp:Sp)(a:List V)(E:XK)(t:TA):TE:=λσ H Q=>t σ H λvs b=>sp (vs++a) b Q E
def Binds(K:aNq)(fd:FuncData)(ps:List Str)(ds:List Value):Prop:=
 ∀(s:Shared) (us:List Value),K.In s.heap->(us++ds).length=ps.length->BindsTo s fd ⟨us,[]⟩ (ps.zip (us++ds))
theorem Binds.all(h:∀us:List Value,us.length=ps.length->bindArgs fd ⟨us,[]⟩=pure (ps.zip us)):Binds K fd ps []:=λs us _ a=>by
 rw[List.append_nil]at a⊢;exact .of_eq (h us a)
def Passes(CX:NT)(X:Cx)(E:XK):Prop:=∀(pins:List (Addr×Obj)) (σ:St) (H:Hp) (s:Shared) (e:Value) (a :Shared),Inv X pins σ H s->CX X.stack H s E e a ->X.xe e a
section
variable {X:Cx}{CX:NT}{k:Nat}{f C:Addr}{fd:FuncData}{ps:List Str}{sp:Sp}{dvs:List V}{ds:List Value}{E:XK}{x m:Str}{p pos apos:Pos}{e o:Expr}{es:List Expr}{ta:TE}{t:TA}
theorem ZQ{Q:VK}{vs:List V}(F:kZ X.prog X.w X.K X.mg X.base CX k f fd ps sp)(c:hU k X.A)(d:Binds X.K fd ps ds)(hd:Vals dvs ds)(hx:Passes CX X E)
  (I:Inv X pins σ H s) (r:Vals vs us) (h:sp (vs++dvs) H Q E):wpAny (model X.prog X.w) X.A (call (.ref f) us) (EP X pins σ Q) X.xe s:=by
 have b:Vals (vs++dvs) (us++ds):=r.append hd;have g:(us++ds).length=ps.length:=by rw[<-b.length];exact F.len _ _ _ _ h
 refine wpAny_call (aMr (F.run X.A X.stack s H ⟨us,[]⟩ (us++ds) (vs++dvs) Q E c I.aJl (d s us I.kIn g) b h) λr i a=>?_)
 cases r with
 | error e=>exact hx pins σ H s e i I a
 | ok fl=>
  cases fl with
  | ret u=>exact I.after a
  | next=>exact False.elim a
  | brk=>exact False.elim a
  | cont=>exact False.elim a
theorem U3(F:kZ X.prog X.w X.K X.mg X.base CX k f fd ps sp)(d:hU k X.A)(hg:Gl X x)(hm:X.mg x=some (.ref f))(g:PySem.W.keepIn X.K (.ref f)=true)(i:Binds X.K fd ps ds)(hd:Vals dvs ds)(hx:Passes CX X E)
  (ha:PA X (e::es) t) (a:(x==("__debug__":Str))=false:=by decide) (he:starEach (e::es) X.env=(false,eval e X.env)::starEach es X.env:=by rfl) (b:(backTo pos (starEach es X.env)).any (·.1)=false:=by rfl):
  PE X (.Call (.Name x p) (e::es) [] pos) (aE6 sp dvs E t):=by
 intro pins s σ H Q I h;refine aM3 (JV I hg hm ?_ a);refine PySem.W.callWith_K (h₀:=X.base) I.ok.mod.kin g (dJ (ha pos pins s σ H _ I h) λus s1 ⟨vs,j,c,r,q⟩=>⟨c.kIn,?_⟩) he b;exact ZQ F d i hd hx c r q
end
structure aP(N P:List Str)(sc:Scope):Prop where
 kind:sc.kind= .function
 co:sc.isCoroutine=false
 gen:sc.isGenerator=false
 nd:N.Nodup
 pre:N.take P.length=P
 par:∀x∈P,sc.names.lookup x=some .local\/sc.names.lookup x=some .cell
 aAp:∀y∈sc.names,y.2≠ .free
theorem AI{kindOf:Str->Option NameKind}{x:Str}:∀{binds:List (Str×Value)} {m:aNt},(∀v,(x,v)∉binds)->bindL kindOf binds m x=m x
 | [],_,_=>rfl
 | (n,v)::r,m,h=>by
  unfold bindL;rw[AI λw a=>h w (List.mem_cons_of_mem _ a)];split
  ·have:x≠n:=by rintro rfl;exact h v aK7
   simp[this]
  ·rfl
theorem AK{kindOf:Str->Option NameKind}{x:Str}:∀{binds:List (Str×Value)} {m:aNt},(∀v,(x,v)∉binds)->bindC kindOf binds m x=m x
 | [],_,_=>rfl
 | (n,v)::r,m,h=>by
  unfold bindC;rw[AK λw a=>h w (List.mem_cons_of_mem _ a)];split
  ·rfl
  ·have:x≠n:=by rintro rfl;exact h v aK7
   simp[this]
theorem AJ{kindOf:Str->Option NameKind}{x:Str}{v:Value}:∀{P:List Str} {vs:List Value} {i:Nat} {m:aNt},P.Nodup->P[i]? =some x->vs[i]? =some v->kindOf x=some .local->
  bindL kindOf (P.zip vs) m x=some v
 | [],_,_,_,_,h,_,_=>by simp at h
 | _::_,[],_,_,_,_,h,_=>by simp at h
 | p::P,w::vs,0,m,nd,h1,h2,hk=>by
  simp at h1 h2;subst h1;subst h2;show bindL kindOf ((p,w)::P.zip vs) m p=_;unfold bindL;rw[AI λv a=>(List.nodup_cons.mp nd).1 (List.of_mem_zip a).1,if_pos hk];simp
 | p::P,w::vs,i+1,m,nd,h1,h2,hk=>by
  show bindL kindOf ((p,w)::P.zip vs) m x=_;unfold bindL;exact AJ (i:=i) (aMl.mp nd).2 (by simpa using h1) (by simpa using h2) hk
theorem AL{kindOf:Str->Option NameKind}{x:Str}{v:Value}:∀{P:List Str} {vs:List Value} {i:Nat} {m:aNt},P.Nodup->P[i]? =some x->vs[i]? =some v->kindOf x≠some .local->
  bindC kindOf (P.zip vs) m x=some v
 | [],_,_,_,_,h,_,_=>by simp at h
 | _::_,[],_,_,_,_,h,_=>by simp at h
 | p::P,w::vs,0,m,nd,h1,h2,hk=>by
  simp at h1 h2;subst h1;subst h2;show bindC kindOf ((p,w)::P.zip vs) m p=_;unfold bindC;rw[AK λv a=>(List.nodup_cons.mp nd).1 (List.of_mem_zip a).1,if_neg hk];simp
 | p::P,w::vs,i+1,m,nd,h1,h2,hk=>by
  show bindC kindOf ((p,w)::P.zip vs) m x=_;unfold bindC;exact AL (i:=i) (aMl.mp nd).2 (by simpa using h1) (by simpa using h2) hk
def start(N:List Str)(vs:List V):St:=vs.map some++List.replicate (N.length-vs.length) none
def xF(CX:NT)(P:Program)(w:World)(K:aNq)(mg:aNt)(base:Heap)(N:List Str)(qual:Str)(scope:Scope)(f:Addr)(b:Value)(A:Around)(outer:List Env)(s:Shared)(H:Hp)(E:XK):Cx where
 prog:=P
 w:=w
 K:=K
 mg:=mg
 base:=base
 A:=A.deeper (envOfC qual scope s.heap.objs.size f b)
 N:=N
 s₀:=s
 H₀:=H
 env:=envOfC qual scope s.heap.objs.size f b
 outer:=outer
 stack:=envOfC qual scope s.heap.objs.size f b::outer
 ex:=[]
 calm:=true
 fn:=λ_=>true
 pn:=[]
 xe:=λe c =>wpAny (model P w) (A.deeper (envOfC qual scope s.heap.objs.size f b)) (leaving (envOfC qual scope s.heap.objs.size f b) e) (λ_ a =>CX outer H s E e a) (λd a =>CX outer H s E d a) c
theorem FG{sc:Scope}{n:Nat}{x:Str}(h:sc.names.lookup x=some .cell):∃c,(cellsFrom n sc.names []).lookup x=some c:=by
 have q:=PySem.W.cellsFrom_some sc.names n [] (.inl h);exact Option.isSome_iff_exists.mp q
theorem MJ{CX:NT}{N ps:List Str}{qual:Str}{scope:Scope}{o:Value}{outer:List Env}{s s1:Shared}{E:XK}{vs:List V}
  (S:aP N ps scope) (hd:A.handled=none) (g:X1 P w K mg base A outer s H) (G:vs.length=ps.length) (r:Vals vs us)
  (x:InCallC s s.heap.objs.size (bindL (envOfC qual scope s.heap.objs.size f o).kindOf (ps.zip us) λ_=>none) (cellsFrom (s.heap.objs.size+1) scope.names []) (bindC (envOfC qual scope s.heap.objs.size f o).kindOf (ps.zip us) λ_=>none) s1):
  Inv (xF CX P w K mg base N qual scope f o A outer s H E) [] (start N vs) H s1:=by
 have D:ps.length<=N.length:=by have:=aL4 List.length S.pre;rw[List.length_take]at this;lia
 obtain⟨t,I,rfl,B⟩:=x.done;have j:∀b:Addr,b∉(xF CX P w K mg base N qual scope f o A outer s H E).ex:=λb z=>absurd (show b∈([]:List Addr) from z) (by simp)
 refine⟨⟨g.mod,S.kind,rfl,rfl,aK6 _,λy z c t d=>?_,λy hy=>?_,λy c _ h=>?_,λ_=>hd,Around.frames_deeper g.frames,.inr ⟨rfl,rfl⟩,λb z=>absurd z (j b),g.bs,g.XO,λb _ _=>j b,λb z=>absurd z (j b),g.wZ,g.frf⟩,
  rfl,g.bare,Un.kept B,⟨_,x.toInCall.ns,λi y v t d J=>?_⟩,λy c h=>⟨_,x.cell y c h⟩,g.cI.fresh (aK6 _),λy c h=>?_,λp l=>absurd (show p∈([]:List (Addr×Obj)) from l) (by simp),g.cI.kept B,?_⟩
 ·exact name_of_addr x.apart (aKu t) (aKu d)
 ·have hy:scope.names.lookup y=some .cell\/scope.names.lookup y=some .free:=hy;rcases hy with hy | hy
  ·exact FG hy
  ·exact absurd rfl (S.aAp _ (aKu hy))
 ·exact aLy (x.above y c (aKu h))
 ·have hi:i<vs.length:=by
   unfold start at d;by_cases hi:i<vs.length
   ·exact hi
   ·rw[List.getElem?_append_right (by simpa using hi)]at d;rw[List.getElem?_replicate]at d;split at d <;> cases d
  have ha:vs[i]? =some v:=by
   unfold start at d;rw[List.getElem?_append_left (by simpa using hi),List.getElem?_map]at d
   cases e:vs[i]? with
   | none=>rw[e]at d;cases d
   | some a=>rw[e]at d;cases d;rfl
  obtain⟨u,C,F⟩:=r.get ha
  have l:ps[i]? =some y:=by
   rw[<-S.pre,List.getElem?_take_of_lt (by lia)];exact t
  have m:ps.Nodup:=by rw[<-S.pre];exact S.nd.sublist (aNh _ _)
  refine⟨u,F,?_⟩;rcases S.par y (aK9 l) with k | k
  ·exact .inl ⟨k,AJ m l C k⟩
  ·obtain⟨c,e⟩:=FG (n:=s.heap.objs.size+1) k;refine .inr ⟨.inl k,c,e,?_⟩;have q:=x.cell y c e;rw[AL m l C (by show scope.names.lookup y≠_;rw[k];decide)]at q;exact q
 ·exact g.cI.fresh (aLy (x.above y c (aKu h)))
 ·unfold start;show _=N.length;rw[List.length_append,List.length_map,List.length_replicate]
  lia
theorem aG9{CX:NT}{k:Nat}{name qual:Str}{a:Arguments}{body:List Stmt}{scope:Scope}{D kV doc pm cdv ct oc:Value}{an od:Option Addr}
  {osl:Array (Option Value)} {N ps:List Str} {sp:Sp} (F:K.lookup f=some ⟨oc,od,.func (PySem.W.fnOf name qual a body scope D kV doc pm an cdv ct),osl⟩) (m:PySem.W.codeIn K cdv qual=true) (S:aP N ps scope)
  (len:∀vs H Q E,sp vs H Q E->vs.length=ps.length)
  (d:∀(A:Around) (outer:List Env) (s:Shared) (H:Hp) (vs:List V) (Q:VK) (E:XK),hU k (A.deeper (envOfC qual scope s.heap.objs.size f cdv))->sp vs H Q E->
   ∃t,CW (xF CX P w K mg base N qual scope f cdv A outer s H E) body t/\t {nx:=λ_ H' =>Q .b8 H',rt:=Q} (start N vs) H):
  kZ P w K mg base CX (k+1) f (PySem.W.fnOf name qual a body scope D kV doc pm an cdv ct) ps sp:=by
 refine⟨len,λA outer s H args us vs Q E p h G r i=>?_⟩;have L:=len _ _ _ _ i;have KX:K.In s.heap:=h.mod.kin.keeps λb o e=>(h.bs b o e).1;have z:s.heap.NoLimit:=h.mod.nolimit.keeps λb o e=>(h.bs b o e).1
 have g:∀y∈ps.zip us,scope.names.lookup y.1=some .local\/(scope.names.lookup y.1=some .cell/\((cellsFrom (s.heap.objs.size+1) scope.names []).lookup y.1).isSome=true):=λj M=>by
  obtain⟨n,v⟩:=j;rcases S.par n (List.of_mem_zip M).1 with q | q
  ·exact .inl q
  ·exact .inr ⟨q,PySem.W.cellsFrom_some _ _ _ (.inl q)⟩
 refine codeAny_call_function p.depth (KX _ _ F) rfl S.co S.gen rfl (PySem.W.codeRec_of KX m) (G _ _ _ _ ?_);refine wpAny_newFunctionEnv_cells S.kind g λenv he s1 x=>?_;subst he;refine⟨z.keeps x.toInCall.keep,codeAny_func ?_⟩;obtain⟨t,ht,O⟩:=d A outer s H vs Q E (p.deeper _) i;have I:Inv (xF CX P w K mg base N qual scope f cdv A outer s H E) [] (start N vs) H s1:=MJ S p.hd h L r x;refine aLm (ht [] s1 (start N vs) H _ I O) (λfl B hs=>?_) λe B hs=>hs
 have l:∀{c :St} {H' :Hp} {v:V} {u:Value},Inv (xF CX P w K mg base N qual scope f cdv A outer s H E) [] c H' B ->RelV v u->Q v H' ->CE outer P w H s Q u B :=
  λ{c H' v u} J C q=>⟨v,H',J.os,J.bare,J.base,J.cI,C,q⟩
 cases fl with
 | ret u=>
  obtain⟨v,c,H',J,C,q⟩:=hs;exact l J C q
 | next=>
  obtain⟨c,H',J,q⟩:=hs;exact l (v:=V.b8) (u:=Value.none) J rfl q
 | brk=>
  obtain⟨_,_,_,q⟩:=hs;exact False.elim q
 | cont=>
  obtain⟨_,_,_,q⟩:=hs;exact False.elim q
section
variable {X:Cx}{x:Str}{p pos:Pos}{e:Expr}{es:List Expr}{t:TA}{id T:String}{r:List V->Hp->VK->Prop}
def tCB(r:List V->Hp->VK->Prop)(t:TA):TE:=λσ H Q=>t σ H λvs a=>r vs a Q
theorem D5(d:cD X (.builtin id) r)(hg:Gl X x)(hm:X.mg x=none)(f:bootBuiltins x=some (.builtin id))(ha:PA X (e::es) t)(g:x≠ "__name__":=by decide)(b:(x==("__debug__":Str))=false:=by decide)
  (he:starEach (e::es) X.env=(false,eval e X.env)::starEach es X.env:=by rfl) (c:(backTo pos (starEach es X.env)).any (·.1)=false:=by rfl):PE X (.Call (.Name x p) (e::es) [] pos) (tCB r t):=by
 intro pins s σ H Q I h;refine aM3 (pZ I hg hm f ?_ g b);exact PyProof.Rows.callWith_builtin1 (dJ (ha pos pins s σ H _ I h) λus s1 a=>by obtain⟨vs,i,j,k,l⟩:=a;exact d pins s1 σ i vs us Q j k l) he c
theorem sD(d:cD X (.type T) r)(hg:Gl X x)(hm:X.mg x=none)(f:bootBuiltins x=some (.type T))(ha:PA X (e::es) t)(g:x≠ "__name__":=by decide)(b:(x==("__debug__":Str))=false:=by decide)
  (he:starEach (e::es) X.env=(false,eval e X.env)::starEach es X.env:=by rfl) (c:(backTo pos (starEach es X.env)).any (·.1)=false:=by rfl):PE X (.Call (.Name x p) (e::es) [] pos) (tCB r t):=by
 intro pins s σ H Q I h;refine aM3 (pZ I hg hm f ?_ g b);exact aLd (dJ (ha pos pins s σ H _ I h) λus s1 a=>by obtain⟨vs,i,j,k,l⟩:=a;exact d pins s1 σ i vs us Q j k l) he c
end
end L2
namespace HT
open PySem PyProof.Rows
section
open PySem.SeqAt
open PySem.AutoSeq1 (wpAny_loadPart')
open PySem.MeetsSeq PySem.MeetsSeq2 PySem.MeetsSeq3
end
section
variable {prog:Program}{w:World}{A:Around}{E:aNr}{s:Shared}
theorem XJ{t b:Addr}{vs a:List Value}{Q:aNr}(ht:IsTup s.heap t vs.toArray)(p:IsTup s.heap b a.toArray)(j:vs≠[])
  (q:a=[]->Q (.ref t) s) (r:a≠[]->Q (.ref s.heap.objs.size) {s with heap:=s.heap.push {cls:= .type "tuple",data:= .seq (vs++a).toArray}})
  (hsz:vs.length+a.length<=sizeLine):wpAny (model prog w) A (binaryOp .Add (.ref t) (.ref b)) Q E s:=by
 obtain⟨⟨cls,k,data,sl⟩,ho,l,n,hd⟩:=id ht;obtain⟨⟨m,d,data2,f⟩,c,g,o,h⟩:=id p;simp only at l hd g h;subst l hd g h;have e:vs.toArray++a.toArray=(vs++a).toArray:=by simp
 by_cases i:a=[]
 ·exact concat_meets ⟨_,ho,rfl⟩ ⟨_,c,rfl⟩ noFill_tuple_add seq_tuple_add aMs aMq (aMk _ _)
   (tuple_addW1 t b vs.toArray a.toArray n o k d sl f (by simpa using j) (by simp[i])) ⟨ho,c,q i⟩
 ·refine concat_meets ⟨_,ho,rfl⟩ ⟨_,c,rfl⟩ noFill_tuple_add seq_tuple_add aMs aMq (aMk _ _)
   (tuple_addW2 t b vs.toArray a.toArray n o k d sl f (by simpa using j) (by simpa using i) (by rw[List.size_toArray,List.size_toArray];exact hsz)) ⟨ho,c,?_⟩
  rw[e];exact r i
def dM(n d:Nat):Option Int->Nat
 | none=>d
 | some v=>if v<0 then (v+(n:Int)).toNat else min v.toNat n
theorem UA(n d k:Nat):dM n d (some (k:Int))=min k n:=by
 show (if (k:Int)<0 then ((k:Int)+(n:Int)).toNat else min (k:Int).toNat n)=min k n;rw[if_neg (by lia),Int.toNat_natCast]
theorem ZO(n d:Nat)(hd:d<=n)(o:Option Int):dM n d o<=n:=by
 cases o with
 | none=>exact hd
 | some v=>
  show (if v<0 then (v+(n:Int)).toNat else min v.toNat n)<=n;by_cases a:v<0
  ·rw[if_pos a];lia
  ·rw[if_neg a];exact Nat.min_le_right _ _
theorem K5(v:Int)(n d:Nat):(if v<0 then max (v+(n:Int)) 0 else min v (n:Int))=((dM n d (some v):Nat):Int):=by
 show (if v<0 then max (v+(n:Int)) 0 else min v (n:Int))=(((if v<0 then (v+(n:Int)).toNat else min v.toNat n):Nat):Int);by_cases a:v<0
 ·simp only[if_pos a];lia
 ·simp only[if_neg a];lia
theorem IJ(lo hi:Option Int)(n:Nat):Builtin.Slice.sliceAdjust lo hi 1 (n:Int)=(((dM n 0 lo:Nat):Int),((dM n n hi:Nat):Int)):=by
 have a:¬((1:Int)<0):=by lia
 unfold Builtin.Slice.sliceAdjust;simp only[a,if_false];refine Prod.ext ?_ ?_
 ·cases lo with
  | none=>rfl
  | some v=>exact K5 v n 0
 ·cases hi with
  | none=>rfl
  | some v=>exact K5 v n n
theorem GP(i j:Nat):Builtin.Slice.slicePlaces (i:Int) (j:Int) 1=j-i:=by
 unfold Builtin.Slice.slicePlaces;have a:(1:Int) > 0:=by lia
 simp only[a,if_true,Int.ediv_one];split <;> lia
theorem vR{v:Value}{o:Option Int}{Q:Option Int->Shared->Prop}(p:IsPart v o)(h:Q o s):wpAny (model prog w) A (Builtin.Slice.slicePartIndex v) Q E s:=by
 cases p with
 | none=>exact slicePart_none h
 | int i t=>exact slicePart_int h
theorem kP{sl:Addr}{c d:Value}{lo hi:Option Int}{n:Nat}{Q:Int×Int×Nat->Shared->Prop}(hs:s.heap.IsSliceOf sl c d .none)(e:IsPart c lo)(f:IsPart d hi)
  (h:Q (((dM n 0 lo:Nat):Int),1,dM n n hi-dM n 0 lo) s):wpAny (model prog w) A (Builtin.Slice.sliceApplied (.ref sl) (pure (n:Int))) Q E s:=by
 obtain⟨os,a,g,b⟩:=id hs;unfold Builtin.Slice.sliceApplied Builtin.Slice.sliceFields;refine aK2 (aK2 (aKy a b (x:=c) rfl (aK2 (aKy a b (x:=d) rfl (aK2 (aKy a b (x:= .none) rfl (aK3 ?_)))))));refine aK2 (slicePart_none ?_);show wpAny _ _ (if ((1:Int)==0)=true then _ else _) _ _ s;rw[if_neg (by decide)];refine aK2 (vR e (aK2 (vR f (aK2 (aK3 ?_)))));show wpAny _ _ (match Builtin.Slice.sliceAdjust lo hi 1 (n:Int) with | (lo,hi)=>pure (lo,(1:Int),Builtin.Slice.slicePlaces lo hi 1)) _ _ s;rw[IJ lo hi n];show wpAny _ _ (pure (((dM n 0 lo:Nat):Int),(1:Int),Builtin.Slice.slicePlaces ((dM n 0 lo:Nat):Int) ((dM n n hi:Nat):Int) 1)) _ _ s;rw[GP];exact aK3 h
theorem O0(xs:Array Value)(i k:Nat):((List.range k).filterMap λ(m:Nat)=>xs[((i:Int)+(m:Int)*1).toNat]?).toArray=((xs.toList.drop i).take k).toArray:=by
 have e:(λ(m:Nat)=>xs[((i:Int)+(m:Int)*1).toNat]?)=λm=>xs[i+m]? :=by
  funext m;have:((i:Int)+(m:Int)*1).toNat=i+m:=by lia
  rw[this]
 rw[e];have:=pick_run xs i k;rw[List.filterMap_map]at this;have a:((λx=>xs[x]?) ∘ λx=>i+x)=λm=>xs[i+m]? :=rfl;rw[a]at this;rw[this]
theorem rG{t sl:Addr}{items:Array Value}{f g:Value}{lo hi:Option Int}{Q:aNr}(ht:IsTup s.heap t items)(hs:s.heap.IsSliceOf sl f g .none)(i:IsPart f lo)(j:IsPart g hi)
  (k:¬(dM items.size 0 lo=0/\dM items.size items.size hi=items.size))
  (h:Q (.ref s.heap.objs.size) {s with heap:=s.heap.push {cls:= .type "tuple",data:= .seq ((items.toList.drop (dM items.size 0 lo)).take (dM items.size items.size hi-dM items.size 0 lo)).toArray}})
  (hsz:items.size<=sizeLine):wpAny (model prog w) A (getItem (.ref t) (.ref sl)) Q E s:=by
 have a:sizeOk (.seq ((items.toList.drop (dM items.size 0 lo)).take (dM items.size items.size hi-dM items.size 0 lo)).toArray):=by
  show ((items.toList.drop (dM items.size 0 lo)).take (dM items.size items.size hi-dM items.size 0 lo)).toArray.size<=sizeLine;rw[List.size_toArray,List.length_take,List.length_drop,Array.length_toList]
  lia
 have n:dM items.size items.size hi<=items.size:=ZO _ _ (aK6 _) hi;obtain⟨os,b,c,l⟩:=id hs
 have d:s.TypeIs (.ref sl) "slice":=⟨os,b,c⟩
 unfold getItem
 try with_reducible refine aKq ?_
 first | refine aK2 (aK3 ?_) | skip
 refine aK2 (wpAny_sequenceKey ht.typeIs (by decide) ?_)
 refine aK2 (aKl (name:=Str.ofString "__getitem__") ht.typeIs aL1
  (aKk aL1 ht.typeIs entry_tuple_getitem ?_ (args_tuple_getitem _ _)))
 show wpAny _ _ (Builtin.Tuple.tupleItemsOf (.ref t) >>=_) _ _ s;refine aK2 (tupleItemsOf_ ht ?_);refine aK2 (aMt d ?_);rw[if_pos (by decide)];refine aK2 (kP hs i j ?_)
 have e:¬((((dM items.size 0 lo:Nat):Int)==0 && (1:Int)==1 && (dM items.size items.size hi-dM items.size 0 lo)==items.size)=true):=by
  intro q;rw[Bool.and_eq_true,Bool.and_eq_true]at q;have o:((dM items.size 0 lo:Nat):Int)=0:=eq_of_beq q.1.1;have p:dM items.size items.size hi-dM items.size 0 lo=items.size:=eq_of_beq q.2;exact k ⟨by lia,by lia⟩
 show wpAny _ _ (if (((dM items.size 0 lo:Nat):Int)==0 && (1:Int)==1 && (dM items.size items.size hi-dM items.size 0 lo)==items.size)=true then _ else _) _ _ s;rw[if_neg e,O0]
 first
  | exact aK2 (m:=Builtin.Tuple.tupleExact _) (aKt (aK3 ⟨_,rfl,aK3 h⟩) a)
  | exact aK2 (m:=Builtin.Tuple.tupleExact _) (aKt (aK2 (aK3 (aK3 ⟨_,rfl,aK3 h⟩))) a)
  | exact aK2 (aK2 (m:=Builtin.Tuple.tupleExact _) (aKt (aK3 (aK3 ⟨_,rfl,aK3 h⟩)) a))
  | exact aK2 (aK2 (m:=Builtin.Tuple.tupleExact _) (aKt (aK3 ⟨_,rfl,aK3 h⟩) a))
end
end HT
namespace L2
open PySem PySem.Spec PyProof.Rows
abbrev TO:=St->Hp->(Option Int->Hp->Prop)->Prop
def PO(X:Cx)(e:Option Expr)(t:TO):Prop:=
 ∀(pins:List (Addr×Obj)) (s:Shared) (σ:St) (H:Hp) (Q:Option Int->Hp->Prop),Inv X pins σ H s->t σ H Q->
  wpAny (model X.prog X.w) X.A (evalPart e X.env) (λu a =>∃o H',Inv X pins σ H' a /\IsPart u o/\Q o H') X.xe s
def TZ:TO:=λ_ H Q=>Q none H
def aDz(t:TE):TO:=λσ H Q=>t σ H λx a=>∃i,x= .int i/\Q (some i) a
section
variable {X:Cx}{e:Expr}{te:TE}{lo hi:Option Expr}{tl th:TO}{pos p2:Pos}
theorem UX:PO X none TZ:=by
 intro pins s σ H Q I h;rw[evalPart_none];exact aK3 ⟨none,H,I,.none,h⟩
theorem UW(h:PE X e te):PO X (some e) (aDz te):=by
 intro pins s σ H Q I b;rw[evalPart_some];refine dJ (h pins s σ H _ I b) λu s1 a=>?_;obtain⟨x,c,d,f,g⟩:=a;obtain⟨i,rfl,q⟩:=g;obtain⟨t,rfl⟩:=f;exact⟨some i,c,d,.int i t,q⟩
def SlR(X:Cx)(r:V->Option Int->Option Int->Hp->VK->Prop):Prop:=
 ∀(pins:List (Addr×Obj)) (s:Shared) (σ:St) (H:Hp) (x:V) (v a b:Value) (lo hi:Option Int) (sl:Addr) (Q:VK),Inv X pins σ H s->RelV x v->s.heap.IsSliceOf sl a b .none->IsPart a lo->IsPart b hi->r x lo hi H Q->
  ∃T id,typeLookup (.type T) "__getitem__"=pure (some (.builtin id))/\s.TypeIs v T/\wpAny (model X.prog X.w) X.A (getItem v (.ref sl)) (EP X pins σ Q) X.xe s
def tSl(r:V->Option Int->Option Int->Hp->VK->Prop)(te:TE)(tl th:TO):TE:=λσ H Q=>te σ H λx a=>tl σ a λl b=>th σ b λu c=>r x l u c Q
theorem O4{r:V->Option Int->Option Int->Hp->VK->Prop}(j:SlR X r)(he:PE X e te)(k:PO X lo tl)(m:PO X hi th):PE X (.Subscript e (.Slice lo hi none p2) pos) (tSl r te tl th):=by
 intro pins s σ H Q I h;refine Subscript_ (dJ (he pins s σ H _ I h) λv s1 c=>?_);obtain⟨x,n,o,p,t⟩:=c;refine wpAny_Slice (dJ (k pins s1 σ n _ o t) λf s2 ⟨l,y,z,B,C⟩=>dJ (m pins s2 σ y _ z C) λg a d=>?_);obtain⟨u,i,D,E,F⟩:=d;rw[evalPart_none];refine aK3 ?_;have G:Inv X pins σ i {a with heap:=a.heap.push {cls:= .type "slice",data:= .fields #[f,g,.none]}}:=D.kept (t' :=a.toks) λb ob q=>aK4 _ q;obtain⟨T,id,J,ht,hg⟩:=j pins {a with heap:=a.heap.push {cls:= .type "slice",data:= .fields #[f,g,.none]}} σ i x v f g l u a.heap.objs.size Q G p (Heap.IsSliceOf.new ..) B E F;show wpAny (model X.prog X.w) X.A (subscriptTail e (.Slice lo hi none p2) v (.ref a.heap.objs.size)) (EP X pins σ Q) X.xe {a with heap:=a.heap.push {cls:= .type "slice",data:= .fields #[f,g,.none]}};exact tail_any (ops:=[.ref a.heap.objs.size,v]) ht J hg (by with_unfolding_all rfl)
def CD(xs:List V)(lo hi:Option Int):List V:=(xs.drop (HT.dM xs.length 0 lo)).take (HT.dM xs.length xs.length hi-HT.dM xs.length 0 lo)
theorem t7(xs:List V)(lo hi:Option Int):(CD xs lo hi).length<=xs.length:=by
 unfold CD;rw[List.length_take,List.length_drop]
 lia
def aIv(K:aNq):V->Option Int->Option Int->Hp->VK->Prop:=λx lo hi H Q=>∃a xs,x= .ref a/\t9 K H a xs/\
 ¬(HT.dM xs.length 0 lo=0/\HT.dM xs.length xs.length hi=xs.length)/\∀p,H p=none->Q (.ref p) (upd H p (.tup (CD xs lo hi)))
theorem ZK:SlR X (aIv X.K):=by
 intro pins s σ H x v i j lo hi sl Q I d hs e f h;obtain⟨a,xs,rfl,hx,g,q⟩:=h;cases d;obtain⟨aL,r,ht,hz⟩:=I.tuple hx;have c:aL.toArray.size=xs.length:=by rw[List.size_toArray];exact r.length.symm
 refine⟨"tuple",_,aL1.lookup,ht.typeIs,?_⟩;refine HT.rG ht hs e f (by rw[c];exact g) ?_ (by rw[c];exact hz);rw[c];refine⟨.ref s.heap.objs.size,_,I.laid (t' :=s.toks) (o:= .tup (CD xs lo hi)) (λb ob q=>aK4 _ q) (aK6 _) ?_,rfl,q _ (I.cI.fresh (aK6 _))⟩;exact⟨aKr (t7 xs lo hi) hz,_,(r.drop (HT.dM xs.length 0 lo)).take (HT.dM xs.length xs.length hi-HT.dM xs.length 0 lo),IsTup.new _ _,AU _ _⟩
def aEm(K:aNq):R2:=λx y H Q=>∃a b xs c,x= .ref a/\y= .ref b/\t9 K H a xs/\t9 K H b c/\xs≠[]/\xs.length+c.length<=sizeLine/\
 (c=[]->Q (.ref a) H)/\(c≠[]->∀p,H p=none->Q (.ref p) (upd H p (.tup (xs++c))))
theorem Vals.A8{xs:List V}{us:List Value}(r:Vals xs us):us=[]↔xs=[]:=by
 cases r with
 | nil=>simp
 | cons _ _=>simp
theorem U8:g7 X (binaryOp .Add) (aEm X.K):=by
 intro pins s σ H x y v u Q I f g h;obtain⟨a,b,xs,i,rfl,rfl,ha,j,hx,hz,k,l⟩:=h;cases f;cases g;obtain⟨aL,d,m,_⟩:=I.tuple ha;obtain⟨e,c,p2,_⟩:=I.tuple j;refine HT.XJ m p2 (λz=>hx (d.A8.mp z)) (λz=>⟨.ref a,H,I,rfl,k (c.A8.mp z)⟩) (λz=>?_) (by rw[<-d.length,<-c.length];exact hz);refine⟨.ref s.heap.objs.size,_,I.laid (t' :=s.toks) (o:= .tup (xs++i)) (λb ob q=>aK4 _ q) (aK6 _) ?_,rfl,l (λw=>z (c.A8.mpr w)) _ (I.cI.fresh (aK6 _))⟩;exact⟨by rw[List.length_append];exact hz,_,d.append c,IsTup.new _ _,AU _ _⟩
end
def J9(n:Nat)(i:Int):Option Nat:=if 0<=i then (if i<n then some i.toNat else none) else if -(n:Int)<=i then some (i+n).toNat else none
variable{α:Type}
def fY(xs:List α)(i:Int):Option α:=(J9 xs.length i).bind λj=>xs[j]?
variable{n:Nat}
theorem J8{i:Int}{j:Nat}(h:J9 n i=some j):seqIndex? i n=some j/\j<n/\ -(n:Int)<=i/\i<n:=by
 unfold J9 at h;by_cases h0:0<=i
 ·rw[if_pos h0]at h;by_cases a:i<n
  ·rw[if_pos a]at h;have e:i.toNat=j:=aKn h;exact⟨by rw[seqIndex_of h0 a,e],by lia,by lia,a⟩
  ·rw[if_neg a]at h;cases h
 ·rw[if_neg h0]at h;by_cases a: -(n:Int)<=i
  ·rw[if_pos a]at h;have e:(i+n).toNat=j:=aKn h;exact⟨by rw[seqIndex_neg (by lia) a,e],by lia,a,by lia⟩
  ·rw[if_neg a]at h;cases h
theorem CQ{xs:List α}{i:Int}{v:α}(h:fY xs i=some v):∃j,seqIndex? i xs.length=some j/\xs[j]? =some v/\j<xs.length/\ -(xs.length:Int)<=i/\i<xs.length:=by
 unfold fY at h
 cases e:J9 xs.length i with
 | none=>rw[e]at h;cases h
 | some j=>
  rw[e]at h;obtain⟨a,b,c,d⟩:=J8 e;exact⟨j,a,h,b,c,d⟩
theorem bZ{xs:List α}{j:Nat}{v:α}(h:xs[j]? =some v):fY xs (j:Int)=some v:=by
 have a:j<xs.length:=(aK5.mp h).1
 have e:J9 xs.length (j:Int)=some j:=by
  unfold J9;rw[if_pos (by lia),if_pos (by lia)];simp
 unfold fY;rw[e];exact h
def LB(b:Expr):Prop:=∀o i,subscripted b false o i=operate [o,i] (getItem o i)
def YX(X:Cx)(r:R2):Prop:=
 ∀(b a:Expr) (pins:List (Addr×Obj)) (s:Shared) (σ:St) (H:Hp) (x y:V) (v u:Value) (Q:VK),Inv X pins σ H s->RelV x v->RelV y u->r x y H Q->
  subscripted a false v u=operate [v,u] (getItem v u)->wpAny (model X.prog X.w) X.A (subscriptTail b a v u) (EP X pins σ Q) X.xe s
def MtR(X:Cx)(id:String)(r:V->List V->Hp->VK->Prop):Prop:=
 ∀(pins:List (Addr×Obj)) (s:Shared) (σ:St) (H:Hp) (x:V) (xs:List V) (v:Value) (us:List Value) (Q:VK),Inv X pins σ H s->RelV x v->Vals xs us->r x xs H Q->
  wpAny (model X.prog X.w) X.A (call (.builtin id) (v::us)) (EP X pins σ Q) X.xe s
section
variable {X:Cx}{a b:Expr}{ta tb:TE}{pos:Pos}
theorem aEv{r:R2}(c:YX X r)(ha:PE X a ta)(d:PE X b tb)(hs:LB b):PE X (.Subscript a b pos) (tOp r ta tb):=by
 intro pins s σ H Q I h;exact Subscript_ (aD4 ha d I h λv u s2 x y e f g i q=>c a b pins s2 σ e x y v u Q f g i q (hs _ _))
def aJ0(K:aNq):R2:=λx y H Q=>∃p xs i v,x= .ref p/\y= .int i/\qB K H p xs/\fY xs i=some v/\Q v H
def aIy(K:aNq):R2:=λx y H Q=>∃p xs i v,x= .ref p/\y= .int i/\t9 K H p xs/\fY xs i=some v/\Q v H
def aIz:R2:=λx y H Q=>∃z i c,x= .str z/\y= .int i/\z.length<=sizeLine/\fY z.cps.toList i=some c/\Q (.str ⟨#[c]⟩) H
theorem WB:YX X (aJ0 X.K):=by
 intro c d pins s σ H x y v u Q I l m h hs;obtain⟨p,xs,i,z,rfl,rfl,n,he,q⟩:=h;cases l;obtain⟨t,rfl⟩:=m;obtain⟨aL,r,e,hz⟩:=I.list n;obtain⟨j,b,o,E,A,B⟩:=CQ he;obtain⟨w,k,f⟩:=r.get o;have C:=r.length;have F:=nQ
 have a:EP X pins σ Q w s:=⟨z,H,I,f,q⟩
 by_cases h0:0<=i
 ·have g:i.toNat=j:=by
   rw[seqIndex_of h0 B]at b;exact aKn b
  exact item_listR e.isList h0 (by lia) (by rw[g];simpa using k) a hs
 ·have g:(i+(aL.toArray.size:Int)).toNat=j:=by
   rw[seqIndex_neg (by lia) A]at b;rw[List.size_toArray,<-C];exact aKn b
  exact subscriptTail_builtinR (x:=w) e.isList.typeIs slot_list_getitem.lookup
   (wpAny_getItem_list_neg (Q:=λr D =>r=w/\EP X pins σ Q r D) e.isList (by lia) (by rw[List.size_toArray] <;> lia) (by lia) (by rw[g];simpa using k) ⟨rfl,a⟩) hs
theorem aBw:YX X (aIy X.K):=by
 intro a b pins s σ H x y v u Q I f g h hs;obtain⟨p,xs,i,z,rfl,rfl,k,he,q⟩:=h;cases f;obtain⟨t,rfl⟩:=g;obtain⟨aL,r,e,hz⟩:=I.tuple k;obtain⟨j,l,m,B,C,D⟩:=CQ he;obtain⟨w,n,c⟩:=r.get m;have o:=r.length;have E:=nQ
 have d:EP X pins σ Q w s:=⟨z,H,I,c,q⟩
 exact subscriptTail_builtinR (x:=w) e.typeIs slot_tuple_getitem.lookup
  (getItem_tuple (j:=j) (Q:=λr A =>r=w/\EP X pins σ Q r A) e (by lia) (by lia) (by rw[List.size_toArray,<-o];exact l) (by simpa using n) ⟨rfl,d⟩) hs
theorem aBx:YX X aIz:=by
 intro a b pins s σ H x y v u Q I e f h hs;obtain⟨z,i,c,rfl,rfl,hz,he,q⟩:=h;obtain⟨t,rfl⟩:=e;obtain⟨t',rfl⟩:=f;obtain⟨j,d,g,p,k,l⟩:=CQ he;have m:z.cps.toList.length=z.length:=by simp[Str.length]
 rw[m]at d k l;have r:=nQ
 exact tail_any (typeIs_str s z t) slot_str_getitem.lookup (getItem_str (c:=c) (by
  have n:decide (i < -(2^63:Int))=false:=aLg (by lia);have o:decide (i>=2^63)=false:=aLg (by lia)
  rw[n,o,Bool.or_false]) (by rw[d];simpa using g) ⟨.str ⟨#[c]⟩,H,I.tok _,⟨_,rfl⟩,q⟩) hs
theorem G0(aL:List Value)(n j:Nat)(u:Value):Obj.mapSeq (·.setIfInBounds j u) {cls:= .type "list",data:= .seq aL.toArray n}={cls:= .type "list",data:= .seq (aL.set j u).toArray n}:=by
 simp[Obj.mapSeq]
variable{pins:List (Addr×Obj)}{s:Shared}
theorem Inv.lst{σ:St}{H:Hp}{p:Addr}{xs:List V}(I:Inv X pins σ H s)(h:H p=some (.lst xs)):
  ∃(aL:List Value) (n:Nat),Vals xs aL/\s.heap.get? p=some {cls:= .type "list",data:= .seq aL.toArray n}/\xs.length<=sizeLine:=by
 obtain⟨z,aL,n,r,e⟩:=I.cI p _ h;exact⟨aL,n,r,e,z⟩
theorem Inv.aAz{σ:St}{H:Hp}{p:Addr}{xs a:List V}{aL its' :List Value}{n c :Nat}{f:Obj->Obj}(I:Inv X pins σ H s)(h:H p=some (.lst xs))
  (ho:s.heap.get? p=some {cls:= .type "list",data:= .seq aL.toArray n}) (d:f {cls:= .type "list",data:= .seq aL.toArray n}={cls:= .type "list",data:= .seq its'.toArray c}) (r:Vals a its') (hz:a.length<=sizeLine) (t:Nat):
  Inv X pins σ (upd H p (.lst a)) {s with heap:=s.heap.update p f,toks:=t}:=by
 have e:(s.heap.update p f).get? p=some {cls:= .type "list",data:= .seq its'.toArray c}:=by
  rw[Heap.get?_update_self f ho (by rw[d] <;> rfl),d]
 refine I.write (x:=p) (e:=p) (by rw[h];trivial) (.inl rfl) (λb u g q=>(aLf _ _ (aLh g)).trans q) ⟨_,e⟩ ?_;exact⟨hz,its',c,r,e⟩
def aEj:V->V->V->Hp->(Hp->Prop)->Prop:=λo i v H Q=>∃p xs k j,o= .ref p/\i= .int k/\H p=some (.lst xs)/\J9 xs.length k=some j/\Q (upd H p (.lst (xs.set j v)))
theorem set_list:aGn X aEj:=by
 intro pins s σ H o i v y z u Q I l m w h;obtain⟨p,xs,k,j,rfl,rfl,d,x,q⟩:=h;cases l;obtain⟨t,rfl⟩:=m;obtain⟨aL,n,r,ho,hz⟩:=I.lst d;obtain⟨a,A,e,f⟩:=J8 x;have b:=r.length;have B:=nQ
 have g :Inv X pins σ (upd H p (.lst (xs.set j v))) {s with heap:=s.heap.update p (Obj.mapSeq (·.setIfInBounds j u))}:=
  I.aAz d ho (G0 aL n j u) (r.set w j) (by rw[List.length_set];exact hz) s.toks
 by_cases h0:0<=k
 ·have c:k.toNat=j:=by
   rw[seqIndex_of h0 f]at a;exact aKn a
  exact PySem.W.ki_setAt ho h0 (by lia) (by rw[List.size_toArray,<-b];exact f) (by rw[c];exact⟨_,g,q⟩)
 ·have c:(k+(aL.toArray.size:Int)).toNat=j:=by
   rw[seqIndex_neg (by lia) e]at a;rw[List.size_toArray,<-b];exact aKn a
  exact PySem.W.ki_setBack ho (by lia) (by rw[List.size_toArray,<-b];exact e) (by lia) (by rw[c];exact⟨_,g,q⟩)
theorem AV(lo hi:Option Int)(n:Nat):(sliceBounds lo hi none n).1=((HT.dM n 0 lo:Nat):Int)/\(sliceBounds lo hi none n).2.1=((HT.dM n n hi:Nat):Int)/\(sliceBounds lo hi none n).2.2=1:=by
 refine⟨?_,?_,rfl⟩
 ·cases lo with
  | none=>simp[sliceBounds,HT.dM]
  | some i=>
   simp only[sliceBounds,HT.dM,Option.getD_none,show (1:Int) > 0 by decide,if_true];by_cases h:i<0
   ·simp only[h,if_true] <;> lia
   ·simp only[h,if_false] <;> lia
 ·cases hi with
  | none=>simp[sliceBounds,HT.dM]
  | some i=>
   simp only[sliceBounds,HT.dM,Option.getD_none,show (1:Int) > 0 by decide,if_true];by_cases h:i<0
   ·simp only[h,if_true] <;> lia
   ·simp only[h,if_false] <;> lia
theorem xZ(aL:List Value)(lo hi:Option Int):slicePick aL.toArray lo hi none=((aL.drop (HT.dM aL.length 0 lo)).take (HT.dM aL.length aL.length hi-HT.dM aL.length 0 lo)).toArray:=by
 obtain⟨a,b,c⟩:=AV lo hi aL.toArray.size;unfold slicePick;rw[a,b,c];simp only[sliceRange_one,pick_run,List.size_toArray] <;> rfl
def aIw(K:aNq):V->Option Int->Option Int->Hp->VK->Prop:=λx lo hi H Q=>∃a xs,x= .ref a/\qB K H a xs/\∀p,H p=none->Q (.ref p) (upd H p (.lst (CD xs lo hi)))
theorem T5:SlR X (aIw X.K):=by
 intro pins s σ H x v g i lo hi sl Q I d hs e f h;obtain⟨a,xs,rfl,hx,q⟩:=h;cases d;obtain⟨aL,r,ht,hz⟩:=I.list hx;have c:=r.length;refine⟨"list",_,slot_list_getitem.lookup,ht.isList.typeIs,?_⟩;refine wpAny_getItem_list_slice ht.isList hs e f .none (by simp) ?_ (by rw[List.size_toArray] <;> lia);rw[xZ,<-c];refine⟨.ref s.heap.objs.size,_,I.laid (t' :=s.toks) (o:= .lst (CD xs lo hi)) (λb ob q=>aK4 _ q) (aK6 _) ?_,rfl,q _ (I.cI.fresh (aK6 _))⟩;exact⟨aKr (t7 xs lo hi) hz,_,0,(r.drop (HT.dM xs.length 0 lo)).take (HT.dM xs.length xs.length hi-HT.dM xs.length 0 lo),aKa _ rfl⟩
theorem CK:cD X (.builtin "len") (λxs H Q=>∃p b,xs=[.ref p]/\(qB X.K H p b\/t9 X.K H p b)/\Q (.int b.length) H):=by
 intro pins s σ H xs us Q I r h;obtain⟨p,b,rfl,hq,q⟩:=h;obtain⟨u,rfl,e⟩:=vals1 r;cases e;have f:=nQ;rcases hq with hq | hq
 ·obtain⟨aL,c,d,hz⟩:=I.list hq;have a:=c.length;exact Calls.call_len_list d.isList (by simp only[List.size_toArray] <;> lia) ⟨.int b.length,H,I.tok _,⟨s.toks+1,by rw[List.size_toArray,a]⟩,q⟩
 ·obtain⟨aL,c,d,hz⟩:=I.tuple hq;have a:=c.length;exact len_tuple d (by simp only[List.size_toArray] <;> lia) ⟨.int b.length,H,I.tok _,⟨s.toks+1,by rw[List.size_toArray,a]⟩,q⟩
theorem CJ:cD X (.builtin "len") (λxs H Q=>∃z,xs=[.str z]/\z.length<=sizeLine/\Q (.int z.length) H):=by
 intro pins s σ H xs us Q I r h;obtain⟨z,rfl,hz,q⟩:=h;obtain⟨u,rfl,t,rfl⟩:=vals1 r;have a:=nQ;exact len_str (by lia) ⟨.int z.length,H,I.tok _,⟨_,rfl⟩,q⟩
theorem CH:cD X (.type "list") (λxs H Q=>∃p a,xs=[.ref p]/\(qB X.K H p a\/t9 X.K H p a)/\∀l,H l=none->Q (.ref l) (upd H l (.lst a))):=by
 intro pins s σ H xs us Q I r h;obtain⟨p,a,rfl,hq,q⟩:=h;obtain⟨u,rfl,k⟩:=vals1 r;cases k
 have f:∀(aL:List Value),Vals a aL->a.length<=sizeLine->∀(h' :Heap) (c :Nat),(∀b o',s.heap.get? b=some o' ->h'.get? b=some o')->
   h'.get? s.heap.objs.size=some {cls:= .type "list",dict:=none,data:= .seq aL.toArray c,slots:= #[]}->EP X pins σ Q (.ref s.heap.objs.size) {s with heap:=h'}:=λaL d hz h' c kp e=>
  ⟨.ref s.heap.objs.size,_,I.laid (t' :=s.toks) kp (aK6 _) (show cT X.prog X.w _ h' _ (.lst a) from ⟨hz,aL,c,d,e⟩),rfl,q _ (I.cI.fresh (aK6 _))⟩
 rcases hq with hq | hq
 ·obtain⟨aL,d,i,hz⟩:=I.list hq;have g:=d.length;obtain⟨o,ho,j,n,hd⟩:=i.isList;exact call_list_seq p (.inl rfl) ho j hd (λh' c kp e=>f aL d hz h' c kp e) (by simp only[List.size_toArray] <;> lia)
 ·obtain⟨aL,d,i,hz⟩:=I.tuple hq;have g:=d.length;obtain⟨o,ho,j,n,hd⟩:=i;exact call_list_seq p (.inr rfl) ho j hd (λh' c kp e=>f aL d hz h' c kp e) (by simp only[List.size_toArray] <;> lia)
theorem j6:cD X (.type "tuple") (λxs H Q=>∃p a,xs=[.ref p]/\((qB X.K H p a/\∀l,H l=none->Q (.ref l) (upd H l (.tup a)))\/(t9 X.K H p a/\Q (.ref p) H))):=by
 intro pins s σ H xs us Q I r h;obtain⟨p,a,rfl,h⟩:=h;obtain⟨u,rfl,j⟩:=vals1 r;cases j
 rcases h with ⟨c,q⟩ | ⟨c,q⟩
 ·obtain⟨aL,d,f,hz⟩:=I.list c;have g:=d.length;refine call_tuple_list f.isList (λh' kp=>?_) (by simp only[List.size_toArray] <;> lia);have i:Inv X pins σ H {s with heap:=h'}:=I.kept (t' :=s.toks) kp
  have k:Inv X pins σ (upd H h'.objs.size (.tup a)) {s with heap:=h'.push {cls:= .type "tuple",data:= .seq aL.toArray}}:=
   i.laid (t' :=s.toks) (λb o e=>aK4 _ e) (aK6 _) (show cT X.prog X.w _ _ _ (.tup a) from ⟨hz,aL,d,IsTup.new _ _,AU _ _⟩)
  exact⟨.ref h'.objs.size,_,k,rfl,q _ (i.cI.fresh (aK6 _))⟩
 ·obtain⟨aL,d,f,hz⟩:=I.tuple c;exact call_tuple_same f ⟨.ref p,H,I,rfl,q⟩
def tyV(K:aNq)(T:String)(x:V)(H:Hp):Prop:=match x with
 | .str _=>T= "str"
 | .int _=>T= "int"
 | .ref p=>(T= "list"/\∃xs,qB K H p xs)\/(T= "tuple"/\∃xs,t9 K H p xs)\/
   (T= "dict"/\((∃kvs,H p=some (.dK kvs))\/∃kvs,H p=some (.dT kvs)))\/(T= "set"/\∃S n,H p=some (.set S n))
 | _=>False
theorem Y3{σ:St}{H:Hp}{T:String}{x:V}{v:Value}(I:Inv X pins σ H s)(r:RelV x v)(ty:tyV X.K T x H):
  s.TypeIs v T/\∀a,v= .ref a->∃ob,s.heap.get? a=some ob/\ob.dict=none:=by
 cases x with
 | str z=>
  obtain⟨t,rfl⟩:=r;cases (show T= "str" from ty);exact⟨typeIs_str s z t,λ_ e=>nomatch e⟩
 | int i=>
  obtain⟨t,rfl⟩:=r;cases (show T= "int" from ty);exact⟨typeIs_int s i t,λ_ e=>nomatch e⟩
 | ref p=>
  cases r
  rcases ty with ⟨rfl,xs,f⟩ | ⟨rfl,xs,f⟩ | ⟨rfl,b⟩ | ⟨rfl,S,n,b⟩
  ·obtain⟨aL,_,g,_⟩:=I.list f;refine⟨g.isList.typeIs,λa e=>?_⟩;cases e;obtain⟨o,n,e,c,hd,_⟩:=g;exact⟨o,e,hd⟩
  ·obtain⟨o,h,d,j⟩:=I.Y6 f;refine⟨⟨o,h,d⟩,λa e=>?_⟩;cases e;exact⟨o,h,j⟩
  ·have z:∃o,s.heap.get? p=some o/\o.ExactDict:=by
    rcases b with ⟨kvs,b⟩ | ⟨kvs,b⟩
    ·obtain⟨_,_,_,_,o,_,_,e,ex,_⟩:=I.cI p _ b;exact⟨o,e,ex⟩
    ·obtain⟨_,_,_,_,o,_,_,e,ex,_⟩:=I.cI p _ b;exact⟨o,e,ex⟩
   obtain⟨o,e,ex⟩:=z;refine⟨⟨o,e,ex.1⟩,λa d=>?_⟩;cases d;exact⟨o,e,ex.2.1⟩
  ·obtain⟨o,_,_,_,e,ex,_⟩:=I.cI p _ b;refine⟨⟨o,e,ex.1⟩,λa d=>?_⟩;cases d;exact⟨o,e,ex.2.1⟩
 | _=>exact False.elim ty
def tBM(K:aNq)(T:String)(r:V->List V->Hp->VK->Prop)(to:TE)(t:TA):TE:=λσ H Q=>to σ H λx a=>tyV K T x a/\t σ a λxs b=>r x xs b Q
variable {o e:Expr}{es:List Expr}{to:TE}{t:TA}{name:Str}{apos c8:Pos}{T id:String}{r:V->List V->Hp->VK->Prop}
theorem aEw(m:PlainAttrs T)(slot:Slot T name id)(i:typeOf (.builtin id)=pure (.type "method_descriptor"))(hm:MtR X id r)(ho:PE X o to)(ha:PA X (e::es) t)
  (b:attributeBase o name X.env (eval o X.env)=eval o X.env:=by rfl)
  (d:((backTo c8 (starEach (e::es) X.env)).all (λx=>!x.1) && (backToKw c8 (keywordEach [] X.env)).all (λx=>x.1.isSome)
   && decide ((e::es).length+([]:List Keyword).length+(if ([]:List Keyword).isEmpty then 0 else 1)<30))=true:=by rfl)
  (c:(apos.endLine==c8.line)=true:=by rfl) (hs:starEach (e::es) X.env=(false,eval e X.env)::starEach es X.env:=by rfl) (a:(backTo c8 (starEach es X.env)).any (·.1)=false:=by rfl):
  PE X (.Call (.Attribute o name apos) (e::es) [] c8) (tBM X.K T r to t):=by
 intro pins s σ H Q I h;refine wpAny_Call_method_late b d c rfl (dJ (ho pins s σ H _ I h) λv s1 f=>?_);obtain⟨x,n,j,k,ty,p⟩:=f;obtain⟨q,u⟩:=Y3 j k ty;refine⟨T,id,m,slot,i,q,u,?_⟩;have l:=ha c8 pins s1 σ n _ j p;rw[hs]at l⊢;refine aMu (by show (false || (backTo c8 (starEach es X.env)).any (·.1))=false;rw[a] <;> rfl) (aN5 ?_);exact dJ l λus s2 g=>by obtain⟨vs,w,y,z,A⟩:=g;exact hm pins s2 σ w x vs v us Q y k z A
end
def MtM(X:Cx)(id:String)(r:V->List V->Hp->VK->Prop):Prop:=
 ∀(pins:List (Addr×Obj)) (s:Shared) (σ:St) (H:Hp) (x:V) (xs:List V) (v:Value) (us:List Value) (Q:VK),Inv X pins σ H s->RelV x v->Vals xs us->r x xs H Q->
  wpAny (model X.prog X.w) X.A (call (.builtin id) (v::us)) (EP X pins σ Q) X.xe s
theorem Vals.one:∀{x:V} {us:List Value},Vals [x] us->∃u,us=[u]/\RelV x u
 | _,_,.cons r .nil=>⟨_,rfl,r⟩
theorem Vals.zero:∀{us:List Value},Vals [] us->us=[]
 | _,.nil=>rfl
theorem Vals.dropLast{xs:List V}{us:List Value}(h:Vals xs us):Vals xs.dropLast us.dropLast:=by
 induction h with
 | nil=>exact .nil
 | cons r t ih=>
  cases t with
  | nil=>exact .nil
  | cons q t' =>exact .cons r ih
theorem Vals.eraseIdx:∀{xs:List V} {us:List Value} (i:Nat),Vals xs us->Vals (xs.eraseIdx i) (us.eraseIdx i)
 | _,_,_,.nil=>.nil
 | _,_,0,.cons _ t=>t
 | _,_,i+1,.cons r t=>.cons r (Vals.eraseIdx i t)
theorem HN(l:List α):l.eraseIdx (l.length-1)=l.dropLast:=by
 induction l with
 | nil=>rfl
 | cons a r ih=>
  cases r with
  | nil=>rfl
  | cons b r=>
   have e:(a::b::r).length-1=((b::r).length-1)+1:=by
    have c:(a::b::r).length=r.length+2:=rfl;have d:(b::r).length=r.length+1:=rfl
    lia
   rw[e,List.eraseIdx_cons_succ,ih]
   all_goals rfl
theorem zK{α:Type}:∀(l:List α) (i:Nat),(l.eraseIdx i).length<=l.length
 | [],_=>aK6 _
 | _::_,0=>aN6 _
 | _::r,i+1=>Nat.succ_le_succ (zK r i)
section
variable {X:Cx}{pins:List (Addr×Obj)}{σ:St}{H:Hp}{s:Shared}{l b:Addr}{xs ys zs:List V}
theorem Inv.VP{aL its' :List Value}{f:Array Value->Array Value}{t' :Nat}(I:Inv X pins σ H s)(a:H l=some (.lst xs))
  (e:s.heap.get? l=some {cls:= .type "list",data:= .seq aL.toArray n}) (b:f aL.toArray=its'.toArray) (c:Vals ys its') (hz:ys.length<=sizeLine):
  Inv X pins σ (upd H l (.lst ys)) {s with heap:=s.heap.update l (Obj.mapSeq f),toks:=t'}:=by
 have q:=PySem.IsL.update e f;rw[b]at q;refine I.write (x:=l) (e:=l) (by rw[a];exact trivial) (.inl rfl) (λh u d g=>(aLf s.heap (Obj.mapSeq f) (aLh d)).trans g) ⟨_,q⟩ ?_;exact⟨hz,its',_,c,q⟩
theorem Inv.aJb{aL:List Value}{t' :Nat}(I:Inv X pins σ H s)(a:Vals ys aL)(hz:ys.length<=sizeLine):
  Inv X pins σ (upd H s.heap.objs.size (.lst ys)) {s with heap:=s.heap.push {cls:= .type "list",data:= .seq aL.toArray},toks:=t'}:=
 I.laid (λ_ _ q=>aK4 _ q) (aK6 _) ⟨hz,aL,0,a,aKa _ rfl⟩
theorem Inv.fresh(I:Inv X pins σ H s):H s.heap.objs.size=none:=I.cI.fresh (aK6 _)
theorem Inv.G3(I:Inv X pins σ H s)(a:H l=some (.lst xs)):xs.length<=sizeLine/\∃(aL:List Value) (n:Nat),Vals xs aL/\xs.length=aL.length/\s.heap.get? l=some {cls:= .type "list",data:= .seq aL.toArray n}:=by
 obtain⟨z,aL,n,r,e⟩:=I.cI l _ a;exact⟨z,aL,n,r,r.length,e⟩
theorem PJ(h:n<=sizeLine):Builtin.List.listTooLong n=false:=by
 unfold Builtin.List.listTooLong;exact aLg (by lia)
end
section
variable {X:Cx}
def UH:V->List V->Hp->VK->Prop:=λx vs H Q=>∃l xs y,x= .ref l/\vs=[y]/\H l=some (.lst xs)/\xs.length<sizeLine/\Q .b8 (upd H l (.lst (xs++[y])))
theorem zH:MtM X "list.append" UH:=by
 intro pins s σ H x vs v us Q I b c h;obtain⟨l,xs,y,rfl,rfl,a,hz,q⟩:=h;cases b;obtain⟨u,rfl,d⟩:=c.one;obtain⟨z,aL,n,r,f,e⟩:=I.G3 a;refine call_meets F.slot_list_append ⟨_,e,rfl⟩ F.entry_list_append (F.args_list_append_2 _ _) (PySem.list_append l aL.toArray n u (by rw[List.size_toArray];lia)) ⟨e,?_⟩;refine⟨.b8,_,I.VP (its' :=aL++[u]) a e (by simp) (r.append (.cons d .nil)) ?_,rfl,q⟩;rw[List.length_append,List.length_singleton]
 lia
def UG:V->List V->Hp->VK->Prop:=λx vs H Q=>∃l b xs a,x= .ref l/\vs=[.ref b]/\H l=some (.lst xs)/\H b=some (.lst a)/\xs.length+a.length<=sizeLine/\Q .b8 (upd H l (.lst (xs++a)))
theorem aDh:MtM X "list.extend" UG:=by
 intro pins s σ H x vs v us Q I f g h;obtain⟨l,b,xs,t,rfl,rfl,d,i,hz,q⟩:=h;cases f;obtain⟨u,rfl,j⟩:=g.one;cases j;obtain⟨z,aL,n,r,w,e⟩:=I.G3 d;obtain⟨y,a,k,m,o,p⟩:=I.G3 i;have hsz:aL.toArray.size+a.toArray.size<=sizeLine:=by rw[List.size_toArray,List.size_toArray];lia
 have c:¬(!aL.toArray.isEmpty && Builtin.List.listTooLong (aL.toArray.size+a.toArray.size))=true:=by
  rw[PJ hsz,Bool.and_false];exact aLa
 refine call_meets F.slot_list_extend ⟨_,e,rfl⟩ F.entry_list_extend (F.args_list_extend_2 _ _)
  (AutoSeq1.list_extend_list_list_0 l aL.toArray n b a.toArray k c (by rw[List.size_toArray];lia) (by lia)) ⟨e,p,?_⟩
 refine⟨.b8,_,I.VP (its' :=aL++a) d e (by simp) (r.append m) ?_,rfl,q⟩;rw[List.length_append]
 lia
def aIx:V->List V->Hp->VK->Prop:=λx vs H Q=>∃l xs y,x= .ref l/\vs=[]/\H l=some (.lst xs)/\xs[xs.length-1]? =some y/\Q y (upd H l (.lst xs.dropLast))
theorem aJ6:MtM X "list.pop" aIx:=by
 intro pins s σ H x vs v us Q I d f h;obtain⟨l,xs,y,rfl,rfl,c,g,q⟩:=h;cases d;have a:=f.zero;subst a;obtain⟨z,aL,n,r,i,e⟩:=I.G3 c;obtain⟨u,j,k⟩:=r.get g
 have b :aL.toArray[aL.toArray.size-1]? =some u:=by
  show aL.toArray[aL.length-1]? =some u;rw[<-Array.getElem?_toList,<-i];exact j
 refine call_meets F.slot_list_pop ⟨_,e,rfl⟩ F.entry_list_pop (F.args_list_pop_1 _) (MeetsSeq.list_pop_last l aL.toArray n u b (by rw[List.size_toArray];lia)) ⟨e,?_⟩;refine⟨y,_,I.VP (its' :=aL.dropLast) c e ?_ r.dropLast ?_,k,q⟩
 ·show aL.toArray.eraseIdxIfInBounds (aL.toArray.size-1)=aL.dropLast.toArray;rw[List.size_toArray,List.eraseIdxIfInBounds_toArray,HN]
 ·rw[List.length_dropLast]
  lia
def ZU:V->List V->Hp->VK->Prop:=λx vs H Q=>∃l xs i k y,x= .ref l/\vs=[.int i]/\H l=some (.lst xs)/\ -(2^63)<=i/\i<2^63/\seqIndex? i xs.length=some k/\xs[k]? =some y/\Q y (upd H l (.lst (xs.eraseIdx k)))
theorem PZ:MtM X "list.pop" ZU:=by
 intro pins s σ H x vs v us Q I c d h;obtain⟨l,xs,i,k,y,rfl,rfl,b,f,g,j,m,q⟩:=h;cases c;obtain⟨u,rfl,o⟩:=d.one;obtain⟨t,rfl⟩:=o;obtain⟨z,aL,n,r,p,e⟩:=I.G3 b;obtain⟨w,A,a⟩:=r.get m
 refine call_meets F.slot_list_pop ⟨_,e,rfl⟩ F.entry_list_pop (F.args_list_pop_2 _ _)
  (MeetsSeq.list_pop_at l aL.toArray n i t k w (fitsIndex_both f g) (by rw[List.size_toArray,<-p];exact j) (by rw[<-Array.getElem?_toList];exact A) (by rw[List.size_toArray];lia)) ⟨e,?_⟩
 refine⟨y,_,I.VP (its' :=aL.eraseIdx k) b e ?_ (r.eraseIdx k) ?_,a,q⟩
 ·show aL.toArray.eraseIdxIfInBounds k=(aL.eraseIdx k).toArray;rw[List.eraseIdxIfInBounds_toArray]
 ·have:=zK xs k
  lia
def aJ1:R2:=λx y H Q=>∃l b xs a,x= .ref l/\y= .ref b/\H l=some (.lst xs)/\H b=some (.lst a)/\xs.length+a.length<=sizeLine/\∀p,H p=none->Q (.ref p) (upd H p (.lst (xs++a)))
theorem aAc:g7 X (binaryOp .Add) aJ1:=by
 intro pins s σ H x y v u Q I c d h;obtain⟨l,b,xs,o,rfl,rfl,f,g,hz,q⟩:=h;cases c;cases d;obtain⟨z,aL,n,r,p,e⟩:=I.G3 f;obtain⟨t,a,w,i,j,k⟩:=I.G3 g;refine PySem.P.add_list e k ?_ (by rw[List.size_toArray,List.size_toArray];lia);have m:aL.toArray++a.toArray=(aL++a).toArray:=by simp
 rw[m];exact⟨.ref _,_,I.aJb (t' :=s.toks) (r.append i) (by rw[List.length_append];lia),rfl,q _ I.fresh⟩
end
end L2
namespace Att
open PySem PySem.W PySem.Calls PyProof.Rows
theorem uD{P:Params}{h:Heap}:∀(ns:List Int) (vs:List Value),WellAll P h vs (ns.map WData.int)->IntsAre vs ns:=by
 intro ns
 induction ns with
 | nil=>
  intro vs w;rw[List.map_nil]at w;cases w;exact .nil
 | cons n ns ih=>
  intro vs w;rw[List.map_cons]at w
  cases w with
  | cons a b=>
   cases a;exact .cons _ _ (ih _ b)
theorem LN{l:OpenLaw}{n:Nat}(m:l.most=some n){P:Params}{h:Heap}{args:List WData}{vals:List Value}
  (b:l.row.toRowW.claim.pre args=true) (i:WellAll P h vals args):
  ∃a vs ns,vals=[Value.ref a]/\args=[WData.list (ns.map WData.int)]/\h.get? a=some {cls:= .type "list",data:= .seq vs.toArray}/\IntsAre vs ns/\ns.length<=n:=by
 have j:WShape.hasAll [] args [.list .int]=true:=(pre_splitW b).1;have k:l.pre.holds [] {args:=args}=true:=(pre_splitW b).2;obtain⟨d,r,rfl,o,p⟩:=hasAllW_cons j;obtain rfl:=hasAllW_nil p;obtain⟨xs,rfl,s⟩:=hasW_list o;obtain⟨ns,rfl⟩:=items_int s
 have c:ns.length<=n:=by
  unfold OpenLaw.pre at k
  have f:(WTm.not (.lt (.lit (.int (n:Int))) (.len (.arg 0)))).holds [] {args:=[.list (ns.map .int)]}=true:=by
   have f:=(holds_andW k).1;rw[m]at f;exact f
  have g:=condW_of f (w_not (w_lt w_lit (w_len_list (w_arg rfl))));rw[List.length_map]at g;refine aMe λq=>?_;have q' :(n:Int)<((ns.length:Nat):Int):=by lia
  first
   | (rw[decide_eq_true q']at g;exact absurd g (by decide))
   | (simp at g;lia)
 cases i with
 | cons t u=>
  cases u
  cases t with
  | list ho e=>exact⟨_,_,ns,rfl,rfl,ho,uD ns _ e,c⟩
theorem LQ(l:OpenLaw)(args:List WData):l.row.toRowW.claim.post args (.bool true) args=true:=
 postW_of (r:=l.row.toRowW) (X:=(true==true))
  (show WShape.has [] (.bool true) .bool=true by first | rfl | decide | simp[WShape.has,WShape.arms,WShape.armsAll])
  (show (WTm.eq .res (.lit (.bool true))).value [] {args:=args,res:=some (.bool true),after:=args}=some (.bool (true==true)) from w_eq_bool (w_res rfl) w_lit) rfl
theorem FR{l:OpenLaw}{n:Nat}{q:Program}{loose:List Str}{XP:(aNt)->Heap->Prop}{u:World->Heap->Prop}{d:DefRec}
  (y:l.most=some n) (m:d.params.defaults=[])
  (call:∀(w:World) (s₀ b:Shared) (mg mb:aNt) (e:Addr) (o:Obj) (pm j doc:Value) (a:Addr) (vs:List Value) (ns:List Int),
   Ground q loose [] XP w s₀ mg mb b.heap->u w b.heap->
   b.heap.get? e=some o->o.data= .func (docDef d.name d.params d.body d.scope pm j doc)->b.heap.CodeRec j d.name->mg d.name=some (.ref e)->
   b.heap.get? a=some {cls:= .type "list",data:= .seq vs.toArray}->IntsAre vs ns->ns.length<=n->b.gens= #[]->
   codeAny (model l.prog w) callerA (.call (.ref e) ⟨[.ref a],[]⟩) (λr k =>r= .ok (.ret (.bool true))/\OldK b.heap k.heap/\k.os=b.os/\AllBare k.gens) b):
  WalkO q loose XP u l.row.toRowW d [] (λf vs=>PySem.call f vs):=by
 intro w s₀ b mg mb G Y e o pm j doc z kV ho hd p v s hg args vals as g x A t B;obtain rfl:z= .none:=Dflts.none v m;obtain rfl:kV= .none:=Dflts.noKw v;obtain⟨a,vs,ns,rfl,rfl,h,c,i⟩:=LN y g t;refine enter_call (aMr (call w s₀ b mg mb e o pm j doc a vs ns G Y ho (fd_plain hd) p s h c i hg) λr k C=>?_);obtain⟨rfl,D,E,F⟩:=C;exact⟨.inl ⟨.bool true,.bool true,[],rfl,λ_=>rfl,.bool true,LQ l _,λ_=>⟨List.Pairwise.nil,λ_ hm=>(nomatch hm)⟩⟩,D,E,F⟩
end Att
namespace L2
open PySem PySem.Spec PyProof.Rows
theorem y3:∀{vs:List Value} {ns:List Int},IntsAre vs ns->Vals (ns.map V.int) vs
 | _,_,.nil=>.nil
 | _,_,.cons n t h=>.cons ⟨t,rfl⟩ (y3 h)
def XY(H:Hp):Prop:=∀b,H b=none\/∃o xs,H b=some (.frz o (.lst xs))
variable{fd:FuncData}{x:Str}
theorem QT{P:Program}{w:World}{K:aNq}{mg mb:aNt}{CX:NT}{k:Nat}{E a:Addr}{sp:Sp}{c:Shared}{vs:List Value}{ns:List Int}
  (KX:K.In c.heap) (t:c.heap.Ns mainGlobals mg) (g:c.heap.Ns builtinsNs mb) (G:∀x:Str,x≠ "__name__"->mb x=bootBuiltins x) (y:c.heap.NoLimit) (hg:c.gens= #[])
  (ha:c.heap.get? a=some {cls:= .type "list",data:= .seq vs.toArray}) (hi:IntsAre vs ns) (N:ns.length<=sizeLine) (T:hU k callerA)
  (F:∀base:Heap,K.In base->base.Ns mainGlobals mg->kZ P w K mg base CX k E fd [x] sp) (p:∀(s:Shared) (u:Value),BindsTo s fd ⟨[u],[]⟩ [(x,u)])
  (I:∀H:Hp,XY H->qB K H a (ns.map V.int)->sp [.ref a] H (λv _=>v= .bl true) λ_ _ _=>False)
  (J:∀H e i,CX [] H c (λ_ _ _=>False) e i ->False):
  codeAny (model P w) callerA (.call (.ref E) ⟨[.ref a],[]⟩) (λr i =>r= .ok (.ret (.bool true))/\OldK c.heap i.heap/\i.os=c.os/\AllBare i.gens) c:=by
 have O:=y3 hi;have A:=hi.length
 have l:∀H:Hp,XY H->qB K H a (ns.map V.int)->rS P w H c.heap->(∀b,H b≠none->b=a)->(H a≠none->K.lookup a=none)->
   codeAny (model P w) callerA (.call (.ref E) ⟨[.ref a],[]⟩) (λr i =>r= .ok (.ret (.bool true))/\OldK c.heap i.heap/\i.os=c.os/\AllBare i.gens) c:=by
  intro H Q U cI R W;have f:∀{b:Addr} {o:Obj},c.heap.get? b=some o->H b=none->(BW c.heap H).get? b=some o:=λe n=>Q8 e n
  have L:∀{b:Addr} {o:Obj} {es:Array DictEntry} {ep:Nat},c.heap.get? b=some o->o.data= .dict es ep->H b=none:=λ{b o es ep} e d=>by
   cases q:H b with
   | none=>rfl
   | some u=>
    have M :b=a:=R b (by rw[q];simp);subst M;rw[ha]at e;cases e;have d' :Data.seq vs.toArray _=Data.dict es ep:=d;cases d'
  have j:∀{b:Addr} {m:aNt},c.heap.Ns b m->(BW c.heap H).Ns b m:=λ{b m} ⟨o,es,ep,e,d,r⟩=>⟨o,es,ep,f e (L e d),d,r⟩
  have B:K.In (BW c.heap H):=λb o e=>f (KX b o e) (by
   cases q:H b with
   | none=>rfl
   | some u=>
    have M :b=a:=R b (by rw[q];simp);subst M
    rw[W (by rw[q];simp)]at e;cases e)
  have X:Mod K mg (BW c.heap H):=⟨B,j t,⟨mb,j g,G⟩,let ⟨mc,h1,h2⟩:=y;⟨mc,j h1,h2⟩⟩
  have Y:X1 P w K mg (BW c.heap H) callerA [] c H:=⟨rfl,X,λb o e=>VB e,Nat.le_of_eq (MK _ _),trivial,λb g=>absurd (show b∈([]:List Addr) from g) (by simp),cI,.of_eq hg⟩
  refine aMr ((F _ B (j t)).run callerA [] c H ⟨[.ref a],[]⟩ [.ref a] [.ref a] _ _ T Y (p c (.ref a)) (.cons rfl .nil) (I H Q U)) λr i h=>?_
  cases r with
  | error e=>exact(J H e i h).elim
  | ok fl=>
   cases fl with
   | next=>exact False.elim h
   | brk=>exact False.elim h
   | cont=>exact False.elim h
   | ret u=>
    obtain⟨v,H',os,bare,un,C,Z,q⟩:=h;have q' :v= .bl true:=q;subst q';obtain rfl:u=Value.bool true:=Z;refine⟨rfl,OldK.of_keep λb o e=>?_,os,bare⟩
    cases q:H b with
    | none=>exact un.keep b o e q (by intro z;exact absurd (show b∈([]:List Addr) from z) (by simp)) (by simp)
    | some u=>
     rcases Q b with z | ⟨ob,xs,z⟩
     ·rw[q]at z;cases z
     ·have z2:=un.B3 b ob _ z;obtain⟨S,_⟩:=cI b _ z;obtain⟨e2,_⟩:=C b _ z2;rw[e]at S;cases S;exact e2
 cases hk:K.lookup a with
 | some o=>
  have e:=KX a o hk;rw[ha]at e;cases e;refine l (λ_=>none) (λ_=>.inl rfl) (.inr ⟨_,vs.toArray,_,hk,rfl,rfl,rfl,by rw[List.size_toArray,A];exact N,by simpa using O⟩) (λb u z=>by have D :(none:Option HO)=some u:=z;cases D) (λb z=>absurd rfl z) λz=>absurd rfl z
 | none=>
  refine l (λb=>if b=a then some (.frz {cls:= .type "list",data:= .seq vs.toArray} (.lst (ns.map V.int))) else none) (λb=>?_) (.inl (.inr ⟨{cls:= .type "list",data:= .seq vs.toArray},if_pos rfl⟩)) (λb u z=>?_) (λb z=>?_) λ_=>hk
  ·by_cases g:b=a
   ·exact .inr ⟨_,_,if_pos g⟩
   ·exact .inl (if_neg g)
  ·by_cases g:b=a
   ·have D :=(if_pos g).symm.trans z;cases D;subst g;exact⟨ha,by rw[List.length_map];exact N,vs,_,O,ha⟩
   ·have D :=(if_neg g).symm.trans z;cases D
  ·by_cases g:b=a
   ·exact g
   ·exact absurd (if_neg g) z
theorem TK{l:PySem.W.OpenLaw}{n k:Nat}{q:Program}{loose:List Str}{XP:(aNt)->Heap->Prop}{C:World->Heap->Prop}{d:DefRec}{K:Params->aNq}{CX:World->NT}{sp:World->Sp}
  (D:l.most=some n) (r:n<=sizeLine) (t:d.params.defaults=[]) (E:hU k callerA)
  (I:∀(w:World) (h:Heap),C w h->(K w.params).In h)
  (F:∀(w:World) (mg:aNt) (p:Addr) (h:Heap),(K w.params).In h->h.Ns mainGlobals mg->mg d.name=some (.ref p)->
   ∃fd:FuncData,(∀(s:Shared) (u:Value),BindsTo s fd ⟨[u],[]⟩ [(x,u)])/\
    ∀base:Heap,(K w.params).In base->base.Ns mainGlobals mg->kZ l.prog w (K w.params) mg base (CX w) k p fd [x] (sp w))
  (y:∀(w:World) (H:Hp) (a:Addr) (ns:List Int),ns.length<=n->XY H->qB (K w.params) H a (ns.map V.int)->sp w [.ref a] H (λv _=>v= .bl true) λ_ _ _=>False)
  (z:∀(w:World) (H:Hp) (s:Shared) (e:Value) (A :Shared),CX w [] H s (λ_ _ _=>False) e A ->False):
  PySem.W.WalkO q loose XP C l.row.toRowW d [] (λf vs=>PySem.call f vs):=by
 refine Att.FR D t λw s₀ j mg mb p o pm P doc a vs ns G Y ho hd J B m i c hg=>?_;have KX:=I w _ Y;obtain⟨fd,L,M⟩:=F w mg p _ KX G.T.g B;exact QT KX G.T.g G.T.b G.T.builtins G.T.nolimit hg m i (aKr c r) E M L (λH N O=>y w H a ns c N O) λH e A =>z w H j e A
def e8(s:Stmt):Arguments:=match s with
 | .FunctionDef _ a _ _ _ _ _ _ _ _=>a
 | _=>{posonlyargs:=[],args:=[],vararg:=none,kwonlyargs:=[],kw_defaults:=[],kwarg:=none,defaults:=[]}
def cR(s:Stmt):List Stmt:=match s with
 | .FunctionDef _ _ b _ _ _ _ _ _ _=>b
 | _=>[]
def aF(s:Stmt):Scope:=match s with
 | .FunctionDef _ _ _ _ _ _ sc _ _ _=>sc
 | _=>{kind:= .function,names:=[],isGenerator:=false,isCoroutine:=false}
abbrev F2:NT:=λ_ _ _ _ _ _=>False
abbrev E0:XK:=λ_ _ _=>False
theorem aEy{X:Cx}:Passes F2 X E0:=λ_ _ _ _ _ _ _ h=>h.elim
structure Fun(K:aNq)(x qual:Str)(st:Stmt)(f:Addr)(fd:FuncData):Prop where
 ex:∃(oc:Value) (od:Option Addr) (kV doc pm:Value) (an:Option Addr) (cdv ct:Value) (osl:Array (Option Value)),
  fd=PySem.W.fnOf x qual (e8 st) (cR st) (aF st) .none kV doc pm an cdv ct/\K.lookup f=some ⟨oc,od,.func fd,osl⟩/\PySem.W.codeIn K cdv qual=true
 kp:PySem.W.keepIn K (.ref f)=true
section
variable {P:Program}{w:World}{K:aNq}{mg:aNt}{base:Heap}
theorem Fun.ok{x qual:Str}{st:Stmt}{f:Addr}{N ps:List Str}{k:Nat}{sp:Sp}(F:Fun K x qual st f fd)(S:aP N ps (aF st))(len:∀vs H Q E,sp vs H Q E->vs.length=ps.length)
  (a:∀(cdv:Value) (A:Around) (outer:List Env) (s:Shared) (H:Hp) (vs:List V) (Q:VK) (E:XK),hU k (A.deeper (envOfC qual (aF st) s.heap.objs.size f cdv))->sp vs H Q E->
   ∃t,CW (xF F2 P w K mg base N qual (aF st) f cdv A outer s H E).VD (cR st) t/\t {nx:=λ_ H' =>Q .b8 H',rt:=Q} (start N vs) H):kZ P w K mg base F2 (k+1) f fd ps sp:=by
 obtain⟨oc,od,kV,doc,pm,an,cdv,ct,osl,rfl,d,b⟩:=F.ex;refine aG9 d b S len λA outer s H vs Q E e c=>?_;obtain⟨t,h,q⟩:=a cdv A outer s H vs Q E e c;exact⟨t,h.VD,q⟩
theorem Fun.binds{x qual:Str}{st:Stmt}{f:Addr}{ps:List Str}(F:Fun K x qual st f fd)
  (h:∀(kV doc pm:Value) (an:Option Addr) (cdv ct:Value) (us:List Value),us.length=ps.length->bindArgs (PySem.W.fnOf x qual (e8 st) (cR st) (aF st) .none kV doc pm an cdv ct) ⟨us,[]⟩=pure (ps.zip us)):Binds K fd ps []:=by
 obtain⟨oc,od,kV,doc,pm,an,cdv,ct,osl,rfl,b,a⟩:=F.ex;exact .all (h kV doc pm an cdv ct)
theorem HK{x qual:Str}{st:Stmt}{f:Addr}{oc:Value}{od an:Option Addr}{osl:Array (Option Value)}{kV doc pm cdv ct:Value}(l:K.lookup f=some ⟨oc,od,.func (PySem.W.fnOf x qual (e8 st) (cR st) (aF st) .none kV doc pm an cdv ct),osl⟩)
  (c:PySem.W.codeIn K cdv qual=true) (k:PySem.W.keepIn K (.ref f)=true):Fun K x qual st f (PySem.W.fnOf x qual (e8 st) (cR st) (aF st) .none kV doc pm an cdv ct):=⟨⟨oc,od,kV,doc,pm,an,cdv,ct,osl,rfl,l,c⟩,k⟩
end
theorem LM{n:Nat}(h:n<=1000):n<sizeLine:=Nat.lt_of_le_of_lt h (by decide)
end L2
namespace D3
open PySem PySem.Spec PyProof.Rows L2 PySem.Calls
noncomputable def kE(P:Params)(x:Str)(t:Tok)(v:Value):DictEntry:=⟨PyData.keyHash P x,.str x t,v⟩
noncomputable def kF(x:Str)(st:Stmt)(m:Value)(c:Addr)(d:Value:= .none):Obj:=⟨.type "function",none,.func (PySem.W.fnOf x x (e8 st) (cR st) (aF st) d .none .none m none (.ref c) .none),#[]⟩
noncomputable def kC(x:Str)(t:Nat)(l n:Int)(T c:Nat)(u v:Value:= .none)(k:Nat:=3):Obj:=
 ⟨.type "code",none,.fields #[.str x t,.str x (t+1),.str "/claim/cut.py" (t+2),.int l 0,.int n 0,.int 0 0,.int 0 0,.int 3 0,.ref (c-k),.bool true,.int 181 0,.ref (c-k+1),.none,u,v,.ref (c-1),.int T 0,.int l 0,.str "/claim/cut.py" (T+1)],#[]⟩
noncomputable def kD(x:Str)(t:Nat)(l n:Int)(T c:Nat):Obj:=kC x t l n T c (.ref (c-3)) (.ref (c-2)) 5
noncomputable def kQ(p:Program)(ks:List Nat):Program:={p with main:={p.main with body:=ks.filterMap λi=>p.main.body[i]?}}
end D3
namespace K45
open PySem PySem.Spec PyProof.Rows L2 D3
def top(i:Nat):Stmt:=PySem.Challenge.pw_maskwright_k45_whole_never_both.main.body.getD i (.Pass ⟨0,0,0,0⟩)
abbrev gS:Stmt:=top 7
abbrev dA:Stmt:=top 8
abbrev dB:Stmt:=top 9
abbrev iZ:Stmt:=top 10
abbrev dQ:Stmt:=top 11
abbrev eN:Stmt:=top 12
abbrev gR:Stmt:=top 13
abbrev eQ:Stmt:=top 14
abbrev gU:Stmt:=top 15
abbrev fK:Stmt:=top 16
abbrev eO:Stmt:=top 17
abbrev cO:Stmt:=top 18
abbrev dP:Stmt:=top 19
abbrev iY:Stmt:=top 20
abbrev nC:Stmt:=top 21
abbrev qS:Stmt:=top 22
abbrev gV:Stmt:=top 24
abbrev dN:Stmt:=top 25
abbrev nD:Stmt:=top 27
abbrev dO:Stmt:=top 28
abbrev gX:Stmt:=top 29
abbrev gW:Stmt:=top 30
abbrev kO:Stmt:=top 31
abbrev eP:Stmt:=top 32
abbrev kN:Stmt:=top 33
abbrev gY:Stmt:=top 35
abbrev fL:Stmt:=top 36
abbrev eT:Stmt:=top 37
abbrev dR:Stmt:=top 38
abbrev fM:Stmt:=top 39
abbrev dC:Stmt:=top 40
abbrev eR:Stmt:=top 41
abbrev eS:Stmt:=top 42
abbrev fN:Stmt:=top 43
abbrev vN:Stmt:=top 44
noncomputable def m0:Value:= .str "maskwright.alike" 223
noncomputable def m1:Value:= .str "maskwright.kinds" 360
noncomputable def m2:Value:= .str "maskwright.papers" 377
noncomputable def m3:Value:= .str "law_maskwright_k45_whole_never_both" 446
noncomputable def kk:Params->W.Frag:=λP=>(nat_lit 3,⟨.type "dict",none,.dict #[kE P "__name__" 165 (.str "law_maskwright_k45_whole_never_both" 446),kE P "__doc__" 166 .none,kE P "__package__" 167 .none,kE P "__loader__" 168 (.builtin "__main__.__loader__#opaque"),kE P "__spec__" 169 .none,kE P "__annotations__" 170 (.ref 6),kE P "__builtins__" 171 (.ref 4),kE P "__file__" 173 (.str "/claim/cut.py" 172),kE P "__cached__" 174 .none,kE P "MaskError" 206 (.ref 24),kE P "TooMuch" 222 (.ref 37),kE P "AT_GATE" 226 (.int 0 225),kE P "AT_END" 228 (.int 1 227),kE P "MOST_ALIKE" 230 (.int 8 229),kE P "numbered" 236 (.ref 44),kE P "names_by_net" 242 (.ref 49),kE P "hooks_by_net" 248 (.ref 54),kE P "telling" 261 (.ref 61),kE P "first_marks" 269 (.ref 68),kE P "next_marks" 275 (.ref 73),kE P "sides_of" 283 (.ref 80),kE P "are_parted" 290 (.ref 87),kE P "marks_on" 300 (.ref 94),kE P "with_name" 306 (.ref 99),kE P "nets_alike" 312 (.ref 104),kE P "rounds_to_part" 323 (.ref 111),kE P "is_as_great" 331 (.ref 118),kE P "weighed" 337 (.ref 123),kE P "tried" 348 (.ref 130),kE P "held" 359 (.ref 137),kE P "is_whole" 368 (.ref 144),kE P "is_tuple_of" 376 (.ref 151),kE P "leads" 384 (.ref 156),kE P "is_renaming" 390 (.ref 161),kE P "is_marks" 398 (.ref 168),kE P "is_tries" 407 (.ref 175),kE P "is_try" 420 (.ref 182),kE P "is_parting" 433 (.ref 189),kE P "looked" 445 (.ref 196),kE P "_law_bag" 458 (.ref 203),kE P "_law_take" 469 (.ref 210),kE P "_law_order" 479 (.ref 217),kE P "_law_switch" 491 (.ref 224),kE P "_law_some" 497 (.ref 229),kE P "_law_renamed" 503 (.ref 234),kE P "_law_rings" 516 (.ref 241),kE P "_law_parts" 526 (.ref 248),kE P "_law_next" 536 (.ref 255),kE P "law" 542 (.ref 260)] 49,#[]⟩)::(nat_lit 43,kC "numbered" 231 10 1 234 43)::(nat_lit 44,kF "numbered" gS m0 43)::(nat_lit 48,kC "names_by_net" 237 13 1 240 48)::(nat_lit 49,kF "names_by_net" dA m0 48)::(nat_lit 53,kC "hooks_by_net" 243 18 1 246 53)::(nat_lit 54,kF "hooks_by_net" dB m0 53)::(nat_lit 60,kD "telling" 249 25 2 259 60)::(nat_lit 61,kF "telling" iZ m0 60)::(nat_lit 67,kD "first_marks" 262 31 2 267 67)::(nat_lit 68,kF "first_marks" dQ m0 67)::(nat_lit 72,kC "next_marks" 270 33 2 273 72)::(nat_lit 73,kF "next_marks" eN m0 72)::(nat_lit 79,kD "sides_of" 276 38 2 281 79)::(nat_lit 80,kF "sides_of" gR m0 79)::(nat_lit 86,kD "are_parted" 284 40 1 288 86)::(nat_lit 87,kF "are_parted" eQ m0 86)::(nat_lit 93,kD "marks_on" 291 42 2 298 93)::(nat_lit 94,kF "marks_on" gU m0 93)::(nat_lit 98,kC "with_name" 301 50 3 304 98)::(nat_lit 99,kF "with_name" fK m0 98)::(nat_lit 103,kC "nets_alike" 307 55 1 310 103)::(nat_lit 104,kF "nets_alike" eO m0 103)::(nat_lit 110,kD "rounds_to_part" 313 60 3 321 110)::(nat_lit 111,kF "rounds_to_part" cO m0 110)::(nat_lit 117,kD "is_as_great" 324 65 2 329 117)::(nat_lit 118,kF "is_as_great" dP m0 117)::(nat_lit 122,kC "weighed" 332 67 2 335 122)::(nat_lit 123,kF "weighed" iY m0 122)::(nat_lit 129,kD "tried" 338 81 4 346 129)::(nat_lit 130,kF "tried" nC m0 129)::(nat_lit 136,kD "held" 349 86 2 357 136)::(nat_lit 137,kF "held" qS m0 136)::(nat_lit 143,kD "is_whole" 362 96 1 366 143)::(nat_lit 144,kF "is_whole" gV m1 143)::(nat_lit 150,kD "is_tuple_of" 369 98 2 374 150)::(nat_lit 151,kF "is_tuple_of" dN m1 150)::(nat_lit 155,kC "leads" 379 101 3 382 155)::(nat_lit 156,kF "leads" nD m2 155)::(nat_lit 160,kC "is_renaming" 385 108 3 388 160)::(nat_lit 161,kF "is_renaming" dO m2 160)::(nat_lit 167,kD "is_marks" 391 112 2 396 167)::(nat_lit 168,kF "is_marks" gX m2 167)::(nat_lit 174,kD "is_tries" 399 114 3 405 174)::(nat_lit 175,kF "is_tries" gW m2 174)::(nat_lit 181,kD "is_try" 408 118 4 418 181)::(nat_lit 182,kF "is_try" kO m2 181)::(nat_lit 188,kD "is_parting" 421 124 3 431 188)::(nat_lit 189,kF "is_parting" eP m2 188)::(nat_lit 195,kD "looked" 434 135 3 443 195)::(nat_lit 196,kF "looked" kN m2 195)::(nat_lit 202,kD "_law_bag" 448 148 2 456 202)::(nat_lit 203,kF "_law_bag" gY m3 202)::(nat_lit 209,kD "_law_take" 459 158 2 467 209)::(nat_lit 210,kF "_law_take" fL m3 209)::(nat_lit 216,kD "_law_order" 470 170 2 477 216)::(nat_lit 217,kF "_law_order" eT m3 216)::(nat_lit 223,kD "_law_switch" 480 176 3 489 223)::(nat_lit 224,kF "_law_switch" dR m3 223)::(nat_lit 228,kC "_law_some" 492 181 3 495 228)::(nat_lit 229,kF "_law_some" fM m3 228)::(nat_lit 233,kC "_law_renamed" 498 195 2 501 233)::(nat_lit 234,kF "_law_renamed" dC m3 233)::(nat_lit 240,kD "_law_rings" 504 202 2 514 240)::(nat_lit 241,kF "_law_rings" eR m3 240)::(nat_lit 247,kD "_law_parts" 517 211 2 524 247)::(nat_lit 248,kF "_law_parts" eS m3 247)::(nat_lit 254,kD "_law_next" 527 222 2 534 254)::(nat_lit 255,kF "_law_next" fN m3 254)::(nat_lit 259,kC "law" 537 228 1 540 259)::(nat_lit 260,kF "law" vN m3 259)::[]
theorem kl:PySem.W.LeftO PySem.Challenge.rw_maskwright_k45_whole_never_both.prog (D3.kQ PySem.Challenge.pw_maskwright_k45_whole_never_both [1,2,4,5,6,7,8,9,10,11,12,13,14,15,16,17,18,19,20,21,22,24,25,27,28,29,30,31,32,33,35,36,37,38,39,40,41,42,43,44]) [] (λ_=>true) (λs=>List.map s.heap.get? [3,43,44,48,49,53,54,60,61,67,68,72,73,79,80,86,87,93,94,98,99,103,104,110,111,117,118,122,123,129,130,136,137,143,144,150,151,155,156,160,161,167,168,174,175,181,182,188,189,195,196,202,203,209,210,216,217,223,224,228,229,233,234,240,241,247,248,254,255,259,260]) (λw=>(kk w.params).map λp=>some p.2) 3172:=λ_=>by kernel_rfl
end K45
namespace L2
open PySem PySem.Spec PyProof.Rows
section
variable {κ:Type}[DecidableEq κ]
def rZ(kvs:List (κ×V))(k:κ):Option V:=(kvs.find? λa=>decide (a.1=k)).map (·.2)
def putK(kvs:List (κ×V))(k:κ)(v:V):List (κ×V):=
 if (kvs.any λa=>decide (a.1=k))=true then kvs.map (λa=>if a.1=k then (a.1,v) else a) else kvs++[(k,v)]
variable{r:List (κ×V)}
theorem qM{p:κ×V}{k:κ}(e:p.1=k):rZ (p::r) k=some p.2:=by simp[rZ,List.find?_cons,e]
theorem qN{p:κ×V}{k:κ}(e:¬p.1=k):rZ (p::r) k=rZ r k:=by simp[rZ,List.find?_cons,e]
theorem DE(k:κ):∀kvs:List (κ×V),(kvs.any λa=>decide (a.1=k))=(rZ kvs k).isSome
 | []=>rfl
 | p::r=>by
  rw[List.any_cons];by_cases e:p.1=k
  ·simp only[qM e,decide_eq_true e,Bool.true_or,Option.isSome_some]
  ·rw[qN e,decide_eq_false e,Bool.false_or];exact DE k r
theorem tT(kvs:List (κ×V))(k:κ)(v:V):(putK kvs k v).length<=kvs.length+1:=by
 unfold putK;split
 ·rw[List.length_map];lia
 ·rw[List.length_append,List.length_cons,List.length_nil];lia
variable{u:Option Value}
theorem uI.MI{o:Option V}(r:uI o u):o.isSome=u.isSome:=by
 cases o with
 | none=>cases u with
  | none=>rfl
  | some _=>exact(show False from r).elim
 | some _=>cases u with
  | none=>exact(show False from r).elim
  | some _=>rfl
theorem uI.getD{o:Option V}{d:V}{d' :Value}(r:uI o u)(a:RelV d d'):RelV (o.getD d) (u.getD d'):=by
 cases o with
 | none=>cases u with
  | none=>exact a
  | some _=>exact(show False from r).elim
 | some _=>cases u with
  | none=>exact(show False from r).elim
  | some _=>exact r
variable{kvs:List (κ×V)}{vs:List (κ×Value)}
theorem KV.val(r:KV kvs vs)(k:κ):uI (rZ kvs k) (valueAt vs k):=by
 unfold KV at r
 induction r with
 | nil=>exact True.intro
 | @cons p q ps qs h t ih=>
  obtain⟨c,d⟩:=h;by_cases e:p.1=k
  ·have a :q.1=k:=c.symm.trans e;have b:valueAt (q::qs) k=some q.2:=by simp[valueAt,List.find?_cons,a]
   rw[qM e,b];exact d
  ·have a :¬q.1=k:=λz=>e (c.trans z);have b:valueAt (q::qs) k=valueAt qs k:=by simp[valueAt,List.find?_cons,a]
   rw[qN e,b];exact ih
theorem KV.any(r:KV kvs vs)(k:κ):(kvs.any λa=>decide (a.1=k))=vs.any λa=>decide (a.1=k):=by
 unfold KV at r
 induction r with
 | nil=>rfl
 | cons h t ih=>rw[List.any_cons,List.any_cons,ih,h.1]
theorem KV.ZR(r:KV kvs vs)(k:κ){y:V}{u:Value}(c:RelV y u):
  KV (kvs.map λa=>if a.1=k then (a.1,y) else a) (vs.map λa=>if a.1=k then (a.1,u) else a):=by
 unfold KV at r⊢
 induction r with
 | nil=>exact .nil
 | @cons p q ps qs h t ih=>
  rw[List.map_cons,List.map_cons];refine .cons ?_ ih;obtain⟨b,d⟩:=h;by_cases e:p.1=k
  ·rw[if_pos e,if_pos (b.symm.trans e)];exact⟨b,c⟩
  ·rw[if_neg e,if_neg (λz=>e (b.trans z))];exact⟨b,d⟩
theorem KV.put(r:KV kvs vs)(k:κ){y:V}{u:Value}(a:RelV y u):KV (putK kvs k y) (stored vs k u):=by
 unfold putK stored;rw[r.any k];by_cases e:(vs.any λb=>decide (b.1=k))=true
 ·rw[if_pos e,if_pos e];exact r.ZR k a
 ·rw[if_neg e,if_neg e];exact Paired.snoc r ⟨rfl,a⟩
theorem KV.length(r:KV kvs vs):kvs.length=vs.length:=Paired.length r
end
variable{P:Program}{w:World}{u:Value}
theorem pG{k:Key}(r:RelV (kV k) u):(aR P w).is k u=true:=by
 cases k with
 | inl i=>obtain⟨t,e⟩:=(show ∃t,u=Value.int i t from r);subst e;exact EF P w i t
 | inr x=>obtain⟨t,e⟩:=(show ∃t,u=Value.str x t from r);subst e;exact EE P w x t
theorem sJ{P:Program}{w:World}:∀{ks:List Key} {us:List Value},Vals (ks.map kV) us->ItemsAre (aR P w) ks us
 | [],_,r=>by rw[List.map_nil]at r;cases r;exact .nil
 | k::ks,_,r=>by
  rw[List.map_cons]at r
  cases r with
  | cons h t=>exact .cons (pG h) (sJ t)
abbrev KT(H:Hp):List (List Key×V)->List (List Key×Addr×Value)->Prop:=Paired λp q=>p.1=q.1/\H q.2.1=some (.tup (p.1.map kV))/\RelV p.2 q.2.2
variable{H:Hp}{kvs:List (List Key×V)}{xs:List (List Key×Addr×Value)}
theorem KT.val(r:KT H kvs xs)(k:List Key):uI (rZ kvs k) ((atKey xs k).map (·.2)):=by
 induction r with
 | nil=>exact True.intro
 | @cons p q ps qs h t ih=>
  obtain⟨c,_,d⟩:=h;by_cases e:p.1=k
  ·have a :q.1=k:=c.symm.trans e;have b:atKey (q::qs) k=some q.2:=by simp[atKey,List.find?_cons,a]
   rw[qM e,b];exact d
  ·have a :¬q.1=k:=λz=>e (c.trans z);have b:atKey (q::qs) k=atKey qs k:=by simp[atKey,List.find?_cons,a]
   rw[qN e,b];exact ih
theorem KT.ZR(r:KT H kvs xs)(k:List Key){y:V}(d:RelV y u):
  KT H (kvs.map λb=>if b.1=k then (b.1,y) else b) (xs.map (putAt k u)):=by
 induction r with
 | nil=>exact .nil
 | @cons p q ps qs h t ih=>
  rw[List.map_cons,List.map_cons];refine .cons ?_ ih;obtain⟨a,c,f⟩:=h;unfold putAt;by_cases e:p.1=k
  ·rw[if_pos e,if_pos (a.symm.trans e)];exact⟨a,c,d⟩
  ·rw[if_neg e,if_neg (λz=>e (a.trans z))];exact⟨a,c,f⟩
theorem KT.put(r:KT H kvs xs)(k:List Key){b:Addr}{y:V}(c:H b=some (.tup (k.map kV)))(a:RelV y u):
  KT H (putK kvs k y) (storedH xs k b u):=by
 have e:(kvs.any λd=>decide (d.1=k))=(atKey xs k).isSome:=by
  rw[DE,(r.val k).MI,Option.isSome_map]
 unfold putK storedH;rw[e];by_cases q:(atKey xs k).isSome=true
 ·rw[if_pos q,if_pos q];exact r.ZR k a
 ·rw[if_neg q,if_neg q];exact Paired.snoc r ⟨rfl,c,a⟩
theorem KT.keeps{H H' :Hp}(r:KT H kvs xs)(ht:∀b a,H b=some (.tup a)->H' b=some (.tup a)):KT H' kvs xs:=
 Paired.aAt r λ_ _ z=>⟨z.1,ht _ _ z.2.1,z.2.2⟩
section
variable {P:Program}{w:World}{H:Hp}{h:Heap}{a:Addr}
theorem YE{u:HO}(ok:rS P w H h)(e:Rd H a u):cT P w H h a u:=e.ok ok
variable{kvs:List (Key×V)}
theorem E6(ok:rS P w H h)(e:Rd H a (.dK kvs)):kvs.length<=sizeLine/\(a==sysModules)=false/\∃vs,KV kvs vs/\h.DictOf (aR P w) a vs:=
 show cT P w H h a (.dK kvs) from YE ok e
theorem aGc(ok:rS P w H h)(e:H a=some (.dK kvs)):kvs.length<=sizeLine/\(a==sysModules)=false/\∃vs,KV kvs vs/\h.DictOf (aR P w) a vs:=E6 ok (.inl e)
theorem nR{ks:List Key}(ok:rS P w H h)(e:H a=some (.tup (ks.map kV))):(tupleKind (aR P w)).is h ks a:=by
 obtain⟨_,aL,r,⟨o,b,c,n,d⟩,_⟩:=(show cT P w H h a (.tup (ks.map kV)) from ok a _ e)
 exact⟨o,aL.toArray,n,b,c,d,by simpa using sJ r⟩
variable{kvs:List (List Key×V)}
theorem E5(ok:rS P w H h)(e:Rd H a (.dT kvs)):kvs.length<=sizeLine/\(a==sysModules)=false/\
  ∃xs,KT H kvs xs/\h.DictOfH (tupleKind (aR P w)) a xs:=by
 obtain⟨z,y,xs,r,o,es,ep,b,c,d,f,g⟩:=(show cT P w H h a (.dT kvs) from YE ok e)
 refine⟨z,y,xs,r,o,es,ep,b,c,d,f,λx hx=>?_,g⟩
 have all:∀{l:List (List Key×V)} {m:List (List Key×Addr×Value)},KT H l m->∀x∈m,(tupleKind (aR P w)).is h x.1 x.2.1:=by
  intro l m q
  induction q with
  | nil=>intro x hx;exact nomatch hx
  | @cons p q ps qs hq t ih=>
   intro x hx;rcases aKd.mp hx with e | hx
   ·subst e;exact nR ok (by rw[<-hq.1];exact hq.2.1)
   ·exact ih x hx
 exact all r x hx
theorem aGb(ok:rS P w H h)(e:H a=some (.dT kvs)):kvs.length<=sizeLine/\(a==sysModules)=false/\
  ∃xs,KT H kvs xs/\h.DictOfH (tupleKind (aR P w)) a xs:=E5 ok (.inl e)
end
def IM(H:Hp)(a:Addr)(y:V)(r:Option V):Prop:=
 (∃kvs k,Rd H a (.dK kvs)/\y=kV k/\r=rZ kvs k)\/∃kvs k b,Rd H a (.dT kvs)/\y= .ref b/\H b=some (.tup (k.map kV))/\r=rZ kvs k
def X3(H:Hp)(a:Addr)(y v:V)(H' :Hp):Prop:=
 (∃kvs k,H a=some (.dK kvs)/\y=kV k/\kvs.length<sizeLine/\H' =upd H a (.dK (putK kvs k v)))\/
 ∃kvs k b,H a=some (.dT kvs)/\y= .ref b/\H b=some (.tup (k.map kV))/\kvs.length<sizeLine/\H' =upd H a (.dT (putK kvs k v))
variable{a:Addr}{kvs:List (Key×V)}
theorem IM.k{k:Key}(e:H a=some (.dK kvs)):IM H a (kV k) (rZ kvs k):= .inl ⟨kvs,k,.inl e,rfl,rfl⟩
theorem X3.k{k:Key}{v:V}(e:H a=some (.dK kvs))(b:kvs.length<sizeLine):X3 H a (kV k) v (upd H a (.dK (putK kvs k v))):= .inl ⟨kvs,k,e,rfl,b,rfl⟩
section
variable {X:Cx}{pins:List (Addr×Obj)}{σ:St}{H:Hp}{s:Shared}{a:Addr}{y v:V}{u r:Value}{o:Option V}{A:Around}{E:aNr}
theorem Inv.big(I:Inv X pins σ H s):sysModules<s.heap.objs.size:=by
 have h:mainGlobals<s.heap.objs.size:=(I.mod.glob.keeps I.bk).lt;exact aNn (by decide) h
theorem M9{Q:aNr}(t:A.units+1<cLine)(I:Inv X pins σ H s)(g:IM H a y (some v))(q:RelV y u)(h:∀f r,Inv X pins σ H r ->RelV v f ->Q f r):
  wpAny (model X.prog X.w) A (getItem (.ref a) u) Q E s:=by
 rcases g with ⟨kvs,k,e,i,l⟩ | ⟨kvs,k,b,e,i,x,l⟩
 ·subst i;obtain⟨z,hd,vs,c,j⟩:=E6 I.cI e;obtain⟨f,m,d⟩:=uI.some_of (v:=v) (o:=valueAt vs k) (by rw[l];exact c.val k);exact wpAny_getItem_of (pG q) j.mapOf m (h f _ (I.tok _) d)
 ·subst i;cases (show u=Value.ref b from q);obtain⟨z,hd,xs,c,j⟩:=E5 I.cI e;obtain⟨f,m,d⟩:=uI.some_of (v:=v) (o:=(atKey xs k).map (·.2)) (by rw[l];exact c.val k);obtain⟨p,B,n⟩:=aL0.mp m;refine wpAny_getItem_heap (aNb t) (nR I.cI x) j B ?_;rw[n];exact h f _ (I.tok _) d
theorem B6{h' :Heap}{t' :Nat}{ob:HO}(I:Inv X pins σ H s)(c:SK (H a))(hs:Heap.SameBut a s.heap h')(he:∃q,h'.get? a=some q)(new:cT X.prog X.w (upd H a ob) h' a ob):
  Inv X pins σ (upd H a ob) {s with heap:=h',toks:=t'}:=
 I.write (x:=a) (e:=a) c (.inl rfl) (λb q d z=>(hs.2 b d).trans z) he new
theorem aCn{H' :Hp}{h' :Heap}{vs:List (Key×Value)}(z:kvs.length<=sizeLine)(hd:(a==sysModules)=false)(b:KV kvs vs)(c:h'.DictOf (aR P w) a vs):
  cT P w H' h' a (.dK kvs):=⟨z,hd,vs,b,c⟩
theorem M8{H' :Hp}{Q:Unit->Shared->Prop}(D:A.units+1<cLine)(I:Inv X pins σ H s)(g:X3 H a y v H')(p:RelV y u)(t:RelV v r)(h:∀x,Inv X pins σ H' x ->Q () x):
  wpAny (model X.prog X.w) A (setItem (.ref a) u r) Q E s:=by
 rcases g with ⟨kvs,k,e,j,l,m⟩ | ⟨kvs,k,b,e,j,B,l,m⟩
 ·subst j m;obtain⟨z,hd,vs,d,n⟩:=aGc I.cI e;have hz:vs.length<=sizeLine:=by rw[<-d.length];exact z
  have o:(putK kvs k v).length<=sizeLine:=by have:=tT kvs k v;lia
  refine wpAny_setItem_pairs (hsz:=hz) (pG p) n λh' f hs=>h _ ?_;have he:∃q,h'.get? a=some q:=let ⟨q,_,_,i,_⟩:=f;⟨q,i⟩;exact B6 I (by rw[e];exact True.intro) hs he (aCn o hd (d.put k t) f)
 ·subst j m;cases (show u=Value.ref b from p);obtain⟨z,hd,xs,d,n⟩:=aGb I.cI e;have hz:xs.length<=sizeLine:=by rw[<-Paired.length d];exact z
  have o:(putK kvs k v).length<=sizeLine:=by have:=tT kvs k v;lia
  refine wpAny_setItem_heap (hsz:=hz) (aNb D) (nR I.cI B) n λh' f hs=>h _ ?_;obtain⟨q,es,ep,i,F,G,J,_,K⟩:=f;refine B6 I (by rw[e];exact True.intro) hs ⟨q,i⟩ ⟨o,hd,_,(d.put k B t).keeps λc L C=>?_,q,es,ep,i,F,G,J,K⟩;rw[aW (aFc C e (λz=>nomatch z))];exact C
end
variable{pins:List (Addr×Obj)}
theorem E8{X:Cx}{σ:St}{s:Shared}{y:V}{o:Option V}(I:Inv X pins σ H s)(g:IM H a y o):s.TypeIs (.ref a) "dict":=by
 rcases g with ⟨kvs,k,e,_,_⟩ | ⟨kvs,k,b,e,_,_,_⟩
 ·obtain⟨_,_,vs,_,c⟩:=E6 I.cI e;exact c.typeIs
 ·obtain⟨_,_,xs,_,c⟩:=E5 I.cI e;exact c.typeIs
def aEi(c ty d:TE):TS:=λD σ H=>d σ H λv e=>c σ e λx f=>ty σ f λy g=>∃a b,x= .ref a/\X3 g a y v b/\D.nx σ b
section
variable {X:Cx}{o i e value:Expr}{pos pos' tpos:Pos}{td ty tv:TE}
theorem UT(b:X.A.units+1<cLine)(ho:PE X o td)(hi:PE X i ty)(c:PE X value tv)(hs:swapsWith value (some (.Subscript o i pos')) pos.line X.env=pure false):
  PS X (.Assign [.Subscript o i pos'] value pos) (aEi td ty tv):=by
 intro pins s σ H D I h;refine wpAny_Assign_Subscript (dJ (c pins s σ H _ I h) λr s1 ⟨v,d,e,f,j⟩=>dJ (ho pins s1 σ d _ e j) λu s2 ⟨x,k,l,m,n⟩=>dJ (hi pins s2 σ k _ l n) λB C ⟨y,E,p,q,a,t,ex,g,w⟩=>?_) hs;subst ex;obtain rfl:u=Value.ref a:=m
 exact M8 b p g q f λF z=>⟨σ,t,z,w⟩
end
theorem E7(h:Heap)(a:sysModules<h.objs.size):cT P w H (h.push {cls:= .type "dict",data:= .dict #[]}) h.objs.size (.dK []):=
 ⟨aLb _,beq_eq_false_iff_ne.mpr (aLh (aKg a)),[],.nil,Heap.DictOf.new h⟩
def ZE:TE:=λ_ H Q=>∀p,H p=none->Q (.ref p) (upd H p (.dK []))
section
variable {X:Cx}{pos:Pos}
theorem O8:PE X (.Dict [] [] pos) ZE:=λpins s σ H Q I h=>
 wpAny_Dict_empty ⟨.ref s.heap.objs.size,_,I.laid (a:=s.heap.objs.size) (o:= .dK []) (t' :=s.toks) (λ_ _ q=>aK4 _ q) (aK6 _) (E7 s.heap I.big),rfl,h _ (I.cI.fresh (aK6 _))⟩
end
structure M2(X:Cx)(o:Expr)(m:Str)(apos:Pos)(e f:Expr)(c8:Pos):Prop where
 base:attributeBase o m X.env (eval o X.env)=eval o X.env
 F4:((backTo c8 (starEach [e,f] X.env)).all (λx=>!x.1) && (backToKw c8 (keywordEach [] X.env)).all (λx=>x.1.isSome)
  && decide (([e,f]:List Expr).length+([]:List Keyword).length+(if ([]:List Keyword).isEmpty then 0 else 1)<30))=true
 line:(apos.endLine==c8.line)=true
 trees:backTo c8 (starEach [e,f] X.env)=[(false,eval e X.env),(false,eval f X.env)]
def IsD(H:Hp)(a:Addr):Prop:=(∃kvs,Rd H a (.dK kvs))\/∃kvs,Rd H a (.dT kvs)
theorem aC5{X:Cx}{σ:St}{s:Shared}(I:Inv X pins σ H s)(d:IsD H a):
  s.TypeIs (.ref a) "dict"/\(∀b,Value.ref a= .ref b->∃ob,s.heap.get? b=some ob/\ob.dict=none)/\(a==sysModules)=false:=by
 rcases d with ⟨kvs,e⟩ | ⟨kvs,e⟩
 ·obtain⟨_,hd,vs,_,c⟩:=E6 I.cI e;refine⟨c.typeIs,λb q=>?_,hd⟩;cases q;obtain⟨ob,_,_,f,g,_⟩:=c;exact⟨ob,f,g.2.1⟩
 ·obtain⟨_,hd,xs,_,c⟩:=E5 I.cI e;refine⟨c.typeIs,λb q=>?_,hd⟩;cases q;obtain⟨ob,_,_,f,g,_⟩:=c;exact⟨ob,f,g.2.1⟩
section
variable {X:Cx}{pins:List (Addr×Obj)}{σ:St}{H:Hp}{s:Shared}{a:Addr}{y d:V}{u r:Value}{o:Option V}{A:Around}{E:aNr}
theorem aCp{Q:aNr}(q:A.units+1<cLine)(I:Inv X pins σ H s)(g:IM H a y o)(j:RelV y u)(m:RelV d r)(h:∀n p,Inv X pins σ H p ->RelV (o.getD d) n ->Q n p):
  wpAny (model X.prog X.w) A (call (.builtin "dict.get") [.ref a,u,r]) Q E s:=by
 rcases g with ⟨kvs,k,e,i,l⟩ | ⟨kvs,k,b,e,i,t,l⟩
 ·subst i;obtain⟨z,hd,vs,c,f⟩:=E6 I.cI e;refine call_meetsIn aN0 f.typeIs PySem.F.entry_dict_get (PySem.F.args_dict_get_3 _ _ _) (meets_dict_get_default (aR X.prog X.w) a (pG j) hd r) ⟨_,f.mapOf,h _ _ (I.tok _) ?_⟩;rw[l];exact(c.val k).getD m
 ·subst i;cases (show u=Value.ref b from j);obtain⟨z,hd,xs,c,f⟩:=E5 I.cI e;refine call_meetsIn aN0 f.typeIs PySem.F.entry_dict_get (PySem.F.args_dict_get_3 _ _ _) (meetsH_dict_get_default (tupleKind (aR X.prog X.w)) a b hd r) ⟨aNb q,k,xs,nR I.cI t,f,h _ _ (I.tok _) ?_⟩;rw[l];exact(c.val k).getD m
end
def ZF(d ty e:TE):TE:=λσ H Q=>d σ H λx b=>∃a,x= .ref a/\IsD b a/\ty σ b λy f=>e σ f λz c=>∃o,IM c a y o/\Q (o.getD z) c
section
variable {X:Cx}{o e f:Expr}{apos c8:Pos}{td ty tx:TE}
theorem O9(j:X.A.units+1<cLine)(ho:PE X o td)(he:PE X e ty)(k:PE X f tx)(m:M2 X o "get" apos e f c8):PE X (.Call (.Attribute o "get" apos) [e,f] [] c8) (ZF td ty tx):=by
 intro pins s σ H Q I h;refine wpAny_Call_method m.base m.F4 m.line PySem.F.plainAttrs_dict aN0 PySem.F.type_dict_get (dJ (ho pins s σ H _ I h) λu s1 b=>?_);obtain⟨x,l,i,n,a,ex,d,p⟩:=b;subst ex;obtain rfl:u=Value.ref a:=n;obtain⟨q,r,_⟩:=aC5 i d;refine⟨q,r,?_⟩;rw[m.trees]
 refine aMu rfl (aN5 (aM2 (dJ (he pins s1 σ l _ i p) λK s2 ⟨y,t,v,w,B⟩=>
  aM2 (dJ (k pins s2 σ t _ v B) λL M ⟨z,C,D,E,N,g,G⟩=>Calls.spliced_nil ?_))))
 exact aCp j D g w E λO P J c =>⟨_,C,J,c,G⟩
end
end L2
namespace ST
open PySem PySem.SetTable
def K9(xs:Array Nat):Prop:=xs.toList.Pairwise (· < ·)
variable{xs:Array Nat}{i j:Nat}
theorem vY(h:K9 xs)(hi:i<j)(a:j<xs.size):xs[i]'(by lia)<xs[j]:=by
 have:=aMf.mp h i j (by simp;lia) (by simpa using a) hi;simpa using this
theorem ON(h:K9 xs)(hi:i<=j)(a:j<xs.size):xs[i]'(by lia)<=xs[j]:=by
 rcases aMo hi with z | z
 ·exact aLy (vY h z a)
 ·subst z;exact aK6 _
theorem B1(xs:Array Nat)(j:Nat)(h:K9 xs):∀(fuel lo hi:Nat),hi-lo<=fuel->lo<=hi->hi<=xs.size->(∀k (c:k<xs.size),k<lo->xs[k]<j)->(∀k (c:k<xs.size),hi<=k->j<=xs[k])->
  (below.go xs j fuel lo hi<=xs.size)/\(∀k (c:k<xs.size),k<below.go xs j fuel lo hi->xs[k]<j)/\(∀k (c:k<xs.size),below.go xs j fuel lo hi<=k->j<=xs[k])
 | 0,lo,hi,h1,h2,h3,a,b=>by
  have:lo=hi:=by lia
  subst this;exact⟨h3,a,b⟩
 | fuel+1,lo,hi,h1,h2,h3,a,b=>by
  unfold below.go;by_cases e:lo<hi
  ·rw[if_pos e];have hm:(lo+hi) / 2<xs.size:=by lia
   have f:xs.getD ((lo+hi) / 2) j=xs[(lo+hi) / 2]:=by simp[Array.getD,hm]
   simp only[f];by_cases hx:xs[(lo+hi) / 2]<j
   ·rw[if_pos hx];exact B1 xs j h fuel _ _ (by lia) (by lia) h3 (λk c d=>Nat.lt_of_le_of_lt (ON h (by lia) hm) hx) b
   ·rw[if_neg hx];exact B1 xs j h fuel _ _ (by lia) (by lia) (by lia) a (λk c d=>aKr (aMe hx) (ON h d c))
  ·rw[if_neg e];have:lo=hi:=by lia
   subst this;exact⟨h3,a,b⟩
theorem i7(j:Nat)(h:K9 xs):(below xs j<=xs.size)/\(∀k (a:k<xs.size),k<below xs j->xs[k]<j)/\(∀k (a:k<xs.size),below xs j<=k->j<=xs[k]):=
 B1 xs j h xs.size 0 xs.size (by lia) (by lia) (aK6 _) (λk a z=>by lia) (λk a z=>by lia)
theorem IC(h:K9 xs):below xs 0=0:=by
 obtain⟨a,b,_⟩:=i7 0 h;apply aKf;intro z;have:=b 0 (by lia) (by lia)
 lia
theorem IE(h:K9 xs)(hi:i<xs.size):below xs (xs[i]+1)=i+1:=by
 obtain⟨a,b,c⟩:=i7 (xs[i]+1) h
 have e:i<below xs (xs[i]+1):=by
  apply aKf;intro z;have:=c i hi (by lia)
  lia
 apply aKf;intro z;have d:i+1<below xs (xs[i]+1):=by lia
 have f:=b (i+1) (by lia) d;have g:=vY (i:=i) (j:=i+1) h (by lia) (by lia)
 lia
theorem VE(h:K9 xs)(f:xs[below xs j]? ≠some j):j∉xs.toList:=by
 intro hm;obtain⟨k,g,e⟩:=aMa.mp hm;have d :k<xs.size:=by simpa using g
 have i :xs[k]=j:=by simpa using e
 obtain⟨a,b,c⟩:=i7 j h
 have l:below xs j<=k:=by
  apply aKf;intro z;have:=b k d (by lia)
  lia
 rcases aMo l with z | z
 ·have:=vY h z d;have:=c _ (by lia) (aK6 _)
  lia
 ·apply f;rw[z];simp[d,i]
theorem nU{a:Type}(xs:Array a)(p:Nat)(x:a)(b:p<=xs.size):(insertAt xs p x).toList=xs.toList.take p++x::xs.toList.drop p:=by
 unfold insertAt;simp[Array.toList_extract];rw[List.take_of_length_le (by simp)]
theorem GK(h:K9 xs)(l:j∉xs.toList):K9 (insertAt xs (below xs j) j):=by
 obtain⟨a,b,c⟩:=i7 j h;unfold K9;rw[nU _ _ _ a,List.pairwise_append];refine⟨h.sublist (aNh _ _),?_,?_⟩
 ·rw[List.pairwise_cons];refine⟨λy f=>?_,h.sublist (List.drop_sublist _ _)⟩;obtain⟨k,g,e⟩:=aMa.mp f;have d:below xs j+k<xs.size:=by simp at g;lia
  have n:xs[below xs j+k]=y:=by simpa using e
  have:=c _ d (by lia);rcases aMo this with z | z
  ·lia
  ·exfalso;apply l;rw[z];simp
 ·intro x hx y f;obtain⟨k,g,e⟩:=aMa.mp hx;have d:k<below xs j/\k<xs.size:=by simp at g;lia
  have n:xs[k]=x:=by simpa using e
  have p:=b k d.2 d.1;rcases aKd.mp f with z | z
  ·lia
  ·obtain⟨m,hm,o⟩:=aMa.mp z;have i:below xs j+m<xs.size:=by simp at hm;lia
   have q:xs[below xs j+m]=y:=by simpa using o
   have:=c _ i (by lia)
   lia
structure TOk(l:Bool)(t:SetTable):Prop where
 S4:K9 t.place
 dum:t.dummies= #[]
 led:t.led=l
theorem TOk.fresh(f m:Nat)(l:Bool):TOk l (.fresh f m l):=⟨by unfold K9 SetTable.fresh;simp,rfl,rfl⟩
section
variable {prog:Program}{w:World}{K:Type}[DecidableEq K](knd:KeyKind prog w K)
def Es(es:Array (Int×Value))(ks:List K):Prop:=
 ∃ps:List (K×(Int×Value)),ps.map (·.2)=es.toList/\(ps.map (·.1)).Perm ks/\∀p∈ps,knd.is p.1 p.2.2=true/\p.2.1=knd.hash p.1/\p.2.2.scannable=true
def NL(l:Bool)(h:Heap)(a:Addr)(ks:List K):Prop:=
 ∃o es ep t,h.get? a=some o/\o.ExactSet/\o.data= .set es ep t/\Es knd es ks/\ks.Nodup/\es.size<scanBound/\t.fits es.size=true/\TOk l t
variable {knd}
theorem NL.keep{h h' :Heap}{l:Bool}{a:Addr}{ks:List K}(x:NL knd l h a ks)(k:∀o,h.get? a=some o->h'.get? a=some o):NL knd l h' a ks:=let ⟨o,es,ep,t,ho,r⟩:=x;⟨o,es,ep,t,k o ho,r⟩
variable {A:Around}{E:aNr}{s:Shared}
def aJs(ks:List K)(k:K):List K:=if k∈ks then ks else ks++[k]
end
open PySem.Spec
def eV(w:World):Bool:= !(w.params.followText "set-order")
section
variable {prog:Program}{w:World}{K:Type}[DecidableEq K]{knd:KeyKind prog w K}{A:Around}{E:aNr}{s:Shared}
theorem HL{h:Heap}{a:Addr}(ho:h.get? a=some {cls:= .type "set",dict:=none,data:= .set #[] 0 (.fresh 0 0 (eV w))}):NL knd (eV w) h a []:=
 ⟨_,#[],0,_,ho,⟨rfl,rfl,rfl⟩,rfl,⟨[],rfl,by simp,λp b=>by cases b⟩,by simp,by decide,by rfl,.fresh 0 0 _⟩
def aD6(ks:List K)(xs:List K):List K:=xs.foldl aJs ks
theorem PU(a:Value){Q₁:aNr}
  (h:Q₁ (.ref s.heap.objs.size) {s with heap:=s.heap.push {cls:= .type "set",dict:=none,data:= .set #[] 0 (.fresh 0 0 (eV w))}}):
  codeAny (model prog w) A (.call (.builtin "set.__new__") ⟨[.type "set",a],[]⟩) (wants Q₁ E) s:=by
 refine codeAny_of_tree ?_;show wpAny _ A.in1 (do checkBuiltinCall "set.__new__" ⟨[.type "set",a],[]⟩;again (.builtin "set.__new__" ⟨[.type "set",a],[]⟩)) _ _ s;refine aK2 (aNi (F.newCall_set_1 a) (aK3 ⟨aN4 F.plain_set_new _,aM5 F.entry_set_new ?_⟩));rw[Around.under_plainId F.plain_set_new _];unfold Builtin.«set.__new__» Builtin.Frozenset.newClass;have b:=sub_set_self;obtain⟨c,g,d,e,os⟩:=s;dsimp only
 wp_walk
 refine aN2 (aK3 ?_);dsimp only;simp only[newObj];refine aK2 (wpAny_alloc (aK3 ?_));exact aK3 h
end
section
variable {prog:Program}{w:World}{K:Type}[DecidableEq K]{knd:KeyKind prog w K}{A:Around}{R:Result->Shared->Prop}{I:Addr}{fp wr:List Addr}{G:Array GenState->Array GenState->Prop}{n:Nat}{P:Nat->Value->Prop}{St:Nat->Shared->Prop}
theorem tG(W:WalksS prog w A.in1 I fp wr G n P St)(S:Addr)(l:S∉fp)(V:Nat->Heap->Prop)(a:∀i h h',V i h->(∀b o,b∉wr->h.get? b=some o->h'.get? b=some o)->V i h')
  (m:∀i v (s:Shared) (J :aNr) (H :Bool->Shared->Prop),i<n->P i v->V i s.heap->(∀r y h',s.toks<=y->Heap.SameBut S s.heap h' ->V (i+1) h' ->H r {s with heap:=h',toks:=y})->wpAny (model prog w) A.in1 (setAdd S v) H J s):
  ∀(k i:Nat) (s:Shared),n-i=k->i<=n->St i s->V i s.heap->
   (∀c,Moved (S::wr) G s c ->V n c.heap->R (.ok (.ret .none)) c)->
   codeAny (model prog w) A (.builtin "set.update.loop" ⟨[.ref S,.ref I],[]⟩) R s:=by
 have K:S∉wr:=λh=>l (W.sub _ h);have f:∀b∈wr,b∈S::wr:=λb d=>aK8 _ d;intro k
 induction k with
 | zero=>
  intro i s L hi g z B;have C:i=n:=by lia
  subst C;refine aM5 aMh ?_;rw[Around.under_plainId PyProof.Rows.F.plain_set_update_loop _];show wpAny _ A.in1 (pyNext (.ref I) >>=_) _ _ s;refine aK2 (W.done s _ _ g λc hm=>?_);show wpAny _ A.in1 (ret Value.none) _ _ c;exact aK3 (B c (hm.mono f) (a _ _ _ z λb o d e=>hm.heap b o d e))
 | succ k ih=>
  intro i s L hi g z B;have j:i<n:=by lia
  refine aM5 aMh ?_;rw[Around.under_plainId PyProof.Rows.F.plain_set_update_loop _];show wpAny _ A.in1 (pyNext (.ref I) >>=_) _ _ s;refine aK2 (W.item i s _ _ j g λv c M p hm=>?_);show wpAny _ A.in1 (holding [v] (setAdd S v) >>=_) _ _ c;refine aK2 (aKq ?_);refine m i v c _ _ j M (a _ _ _ z λb o d e=>hm.heap b o d e) λr y h' q t D=>?_;refine aK3 ⟨aN4 PyProof.Rows.F.plain_set_update_loop _,ih (i+1) _ (by lia) j (W.frame _ c _ _ p q λb d o e=>?_) D λE u x =>?_⟩
  ·rw[t.2 b (λh:b=S=>l (by rw[<-h];exact d))];exact e
  ·refine B E (Moved.trans W.gtrans ((hm.mono f).then_heap q λb o d e=>?_) u) x;rw[t.2 b (λh:b=S=>d (by rw[h];exact List.mem_cons_self))];exact e
end
section
variable {prog:Program}{w:World}{K:Type}[DecidableEq K]{knd:KeyKind prog w K}{A:Around}{E:aNr}{s:Shared}
theorem ZL{l:Addr}{items:Array Value}{Q:aNr}
  (hh:A.handled=none) (hl:s.heap.IsList l items\/s.heap.IsTuple l items) (V:Nat->Heap->Prop) (m:∀i h h',V i h->(∀b o,b≠s.heap.objs.size+1->h.get? b=some o->h'.get? b=some o)->V i h')
  (B:∀i v (f :Shared) (N :aNr) (L :Bool->Shared->Prop),items[i]? =some v->V i f.heap->(∀r y h',f.toks<=y->Heap.SameBut s.heap.objs.size f.heap h' ->V (i+1) h' ->L r {f with heap:=h',toks:=y})->wpAny (model prog w) A.in1.in1.in1 (setAdd s.heap.objs.size v) L N f)
  (h0:∀h',h'.get? s.heap.objs.size=some {cls:= .type "set",dict:=none,data:= .set #[] 0 (.fresh 0 0 (eV w))}->(∀b o,s.heap.get? b=some o->h'.get? b=some o)->V 0 h')
  (h:∀(h' :Heap) (y:Nat),V items.size h' ->
   (∀b o,b<s.heap.objs.size->s.heap.get? b=some o->h'.get? b=some o)->Q (.ref s.heap.objs.size) {s with heap:=h',toks:=y}):
  wpAny (model prog w) A (call (.type "set") [.ref l]) Q E s:=by
 obtain⟨c,tl,hmro⟩:=aM4.mro;have Z:=aM4.made;have hsub:=aM4.sub;refine wpAny_call (codeAny_of_tree ?_);show wpAny _ _ (callAny (.type "set") _) _ _ _;refine aK3 ⟨Code.quiet_builtin _ (by decide+kernel),aM5 F.entry_type_call ?_⟩;rw[Around.under_plain (weight_type_call_type "set" [.ref l] []) rfl];have h1:=aM4.notType;have h2:=aM4.canCreate;have hct:=F.typeCall_set_1 (.ref l)
 repeat (any_goals (first | assumption | wp_step))
 refine aMr (PU (.ref l) (E:=E) (Q₁:=λobj C=>obj= .ref s.heap.objs.size/\C={s with heap:=s.heap.push {cls:= .type "set",dict:=none,data:= .set #[] 0 (.fresh 0 0 (eV w))}}) ⟨rfl,rfl⟩) λr C hr=>?_
 cases r with
 | error e=>exact hr
 | ok fl=>
  cases fl with
  | ret obj=>
   obtain⟨rfl,rfl⟩:=hr;generalize hled:eV w=led at*;have hS:(s.heap.push {cls:= .type "set",dict:=none,data:= .set #[] 0 (.fresh 0 0 led)}).get? s.heap.objs.size=some {cls:= .type "set",dict:=none,data:= .set #[] 0 (.fresh 0 0 led)}:=aKa _ rfl
   have hT:Shared.TypeIs {s with heap:=s.heap.push {cls:= .type "set",dict:=none,data:= .set #[] 0 (.fresh 0 0 led)}} (.ref s.heap.objs.size) "set":=⟨_,hS,rfl⟩
   have hli:=aM4.init.lookup;have hbi:=aM4.init.bind (.ref s.heap.objs.size)
   repeat (any_goals (first | assumption | wp_step))
   refine aMr (codeAny_call_builtin (R:=wants (λr D=>r= .none/\∃h' y,D={s with heap:=h',toks:=y}/\
     V items.size h' /\
     (∀b o,b<s.heap.objs.size->s.heap.get? b=some o->h'.get? b=some o)) E) aM4.init.plain F.entry_set_init (check_set_init_1 hT ?_)) λO D g=>?_
   ·have P:l<s.heap.objs.size:=by rcases hl with ⟨o,e,_⟩ | ⟨o,e,_⟩ <;> exact aKb e
    have S:A.in1.in1.in1.handled=none:=by simp[hh]
    have G:l≠(s.heap.push {cls:= .type "set",dict:=none,data:= .set #[] 0 (.fresh 0 0 led)}).objs.size:=by
     rw[Heap.size_push];exact aKg (aL7 P)
    have T:s.heap.objs.size∉[(s.heap.push {cls:= .type "set",dict:=none,data:= .set #[] 0 (.fresh 0 0 led)}).objs.size,l]:=by
     rw[Heap.size_push];simp only[List.mem_cons,List.mem_singleton,List.not_mem_nil,or_false,not_or];exact⟨aKg (aL2 _),aLe P⟩
    have hw:∀b,b∉[(s.heap.push {cls:= .type "set",dict:=none,data:= .set #[] 0 (.fresh 0 0 led)}).objs.size]↔b≠s.heap.objs.size+1:=λb=>by rw[Heap.size_push];simp
    have hR:∀(io:Obj) (f :Shared),Moved [s.heap.objs.size,(s.heap.push {cls:= .type "set",dict:=none,data:= .set #[] 0 (.fresh 0 0 led)}).objs.size] (λa b=>b=a) {s with heap:=(s.heap.push {cls:= .type "set",dict:=none,data:= .set #[] 0 (.fresh 0 0 led)}).push io} f ->V items.size f.heap->
      ∃h' y,f ={s with heap:=h',toks:=y}/\V items.size h' /\∀b o,b<s.heap.objs.size->s.heap.get? b=some o->h'.get? b=some o:=λio f hm z=>by
     obtain⟨h',g',d',n,os'⟩:=f;have eg:g' =s.gens:=hm.gens;have ed:d' =s.drawn:=hm.drawn;have eo:os' =s.os:=hm.os;subst eg;subst ed;subst eo;refine⟨h',n,rfl,z,λb o M e=>?_⟩;have hb1:b≠s.heap.objs.size:=aKg M
     have hb2:b≠(s.heap.push {cls:= .type "set",dict:=none,data:= .set #[] 0 (.fresh 0 0 led)}).objs.size:=by
      rw[Heap.size_push];exact aKg (aL7 M)
     exact hm.heap b o (by simp only[List.mem_cons,List.mem_singleton,List.not_mem_nil,or_false,not_or];exact⟨hb1,hb2⟩) (aK4 _ (aK4 _ e))
    rcases hl with hl | hl
    ·obtain⟨ol,H,p,U,q⟩:=hl;obtain⟨W,j,I,d⟩:=ol;simp only at p q;subst p;subst q;have t :(s.heap.push {cls:= .type "set",dict:=none,data:= .set #[] 0 (.fresh 0 0 led)}).get? l=some {cls:= .type "list",dict:=j,data:= .seq items U,slots:=d}:=aK4 _ H;have X:=F.sub_list_set;have Y:=F.sub_list_frozenset;have hne:(Value.type "list"==Value.type "dict")=false:=by decide
     have u:(s.heap.push {cls:= .type "set",dict:=none,data:= .set #[] 0 (.fresh 0 0 led)}).IsList l items:=⟨_,t,rfl,U,rfl⟩
     unfold Builtin.«set.__init__» noKeywords Builtin.Frozenset.updateFrom;generalize J:pyIter=PI
     wp_walk
     subst J;refine aMv u ?_;refine aK2 (wpAny_runValue ?_)
     exact tG ((Walks.list S _ l G items).toS) s.heap.objs.size T V (λi h h' v k=>m i h h' v λb o M e=>k b o ((hw b).mpr M) e) (λi v f N L _ hP z hq=>B i v f N L hP z hq) (items.size-0) 0 _ (by lia) (aLb _)
      ⟨⟨_,aKa _ rfl,rfl,rfl⟩,(u.push _)⟩ (h0 _ (aK4 _ hS) λb o e=>aK4 _ (aK4 _ e)) λf hm z=>by
       obtain⟨h',n,rfl,K,x⟩:=hR _ _ hm z;exact aK3 (aK3 ⟨rfl,h',n,rfl,K,x⟩)
    ·obtain⟨ol,H,p,U,q⟩:=hl;obtain⟨W,j,I,d⟩:=ol;simp only at p q;subst p;subst q;have t :(s.heap.push {cls:= .type "set",dict:=none,data:= .set #[] 0 (.fresh 0 0 led)}).get? l=some {cls:= .type "tuple",dict:=j,data:= .seq items U,slots:=d}:=aK4 _ H;have X:isSubtype (.type "tuple") (.type "set")=pure false:=by rw[isSubtype_type];kernel_rfl
     have Y:isSubtype (.type "tuple") (.type "frozenset")=pure false:=by rw[isSubtype_type];kernel_rfl
     have hne:(Value.type "tuple"==Value.type "dict")=false:=by decide
     have u:(s.heap.push {cls:= .type "set",dict:=none,data:= .set #[] 0 (.fresh 0 0 led)}).IsTuple l items:=⟨_,t,rfl,U,rfl⟩
     unfold Builtin.«set.__init__» noKeywords Builtin.Frozenset.updateFrom;generalize J:pyIter=PI
     wp_walk
     subst J;refine aNc u ?_;refine aK2 (wpAny_runValue ?_)
     exact tG ((Walks.tuple S _ l G items).toS) s.heap.objs.size T V (λi h h' v k=>m i h h' v λb o M e=>k b o ((hw b).mpr M) e) (λi v f N L _ hP z hq=>B i v f N L hP z hq) (items.size-0) 0 _ (by lia) (aLb _)
      ⟨⟨_,aKa _ rfl,rfl,rfl⟩,(u.push _)⟩ (h0 _ (aK4 _ hS) λb o e=>aK4 _ (aK4 _ e)) λf hm z=>by
       obtain⟨h',n,rfl,K,x⟩:=hR _ _ hm z;exact aK3 (aK3 ⟨rfl,h',n,rfl,K,x⟩)
   ·cases O with
    | error e=>exact g
    | ok fl₂=>
     cases fl₂ with
     | ret r=>
      obtain⟨rfl,h',y,rfl,hS',x⟩:=g
      repeat (any_goals (first | assumption | wp_step))
      exact h _ _ hS' x
     | _=>exact g.elim
  | _=>exact hr.elim
end
theorem slot_next:Slot "set_iterator" "__next__" "set_iterator.__next__":=
 .of (owner:= "set_iterator") (n:= "__next__") (by rw[typeLookup_type,builtinLookup_eq_fast];kernel_rfl) (by decide+kernel) (by decide+kernel) (by decide+kernel)
  (by first | exact .inl (by decide+kernel) | exact .inr (by decide+kernel)) (by rw[isSubtype_type];kernel_rfl)
theorem y9:Slot "set_iterator" "__iter__" "set_iterator.__iter__":=
 .of (owner:= "set_iterator") (n:= "__iter__") (by rw[typeLookup_type,builtinLookup_eq_fast];kernel_rfl) (by decide+kernel) (by decide+kernel) (by decide+kernel)
  (by first | exact .inl (by decide+kernel) | exact .inr (by decide+kernel)) (by rw[isSubtype_type];kernel_rfl)
theorem entry_next:entryFor table "set_iterator.__next__"=some Builtin.«set_iterator.__next__»:=entryFor_of_tree (by kernel_rfl)
theorem D6:Manifest.owners.lookup (String.ofList "rotareti_tes".toList.reverse)=some Manifest.sig_set_iterator:=by kernel_rfl
theorem args_next(a:Value):argsOk "set_iterator.__next__" ⟨[a],[]⟩:=by
 unfold argsOk;rw[signature?_of (id:= "set_iterator.__next__") (n:= "__txen__".toList) (o:= "rotareti_tes".toList) (by kernel_rfl) D6];kernel_rfl
theorem w8:entryFor table "set.__iter__"=some Builtin.«frozenset.__iter__»:=
 entryFor_alias (id' := "frozenset.__iter__") (by kernel_rfl) rfl (by decide+kernel) (by kernel_rfl)
def nS(first:Value)(i:Nat)(a:Addr)(n ep:Nat):Obj:={cls:= .type "set_iterator",dict:=none,data:= .fields #[first,.int i 0,.ref a,.int n 0,.int ep 0],slots:= #[]}
section
variable {prog:Program}{w:World}{A:Around}{E:aNr}{s:Shared}{it a:Addr}{first:Value}{i ep n:Nat}{o:Obj}{es:Array (Int×Value)}{t:SetTable}
variable{Q:Option Value->Shared->Prop}
theorem PR{slot nx:Nat}{x:Value}(b:s.heap.get? it=some (nS (.int slot 0) i a es.size ep))(ho:s.heap.get? a=some o)(hd:o.data= .set es ep t)(c:t.fits es.size=true)
  (hN:∀(A:Around) (E:aNr) (Q:Option (Value×Nat)->Shared->Prop),Q (some (x,nx)) s->wpAny (model prog w) A (setNext a slot i ep) Q E s)
  (q:∀h',h'.get? it=some (nS (.int nx 0) (i+1) a es.size ep)->Heap.SameBut it s.heap h' ->Q (some x) {s with heap:=h'}):wpAny (model prog w) A (pyNext (.ref it)) Q E s:=by
 have ht:s.TypeIs (.ref it) "set_iterator":=⟨_,b,rfl⟩
 unfold pyNext;refine aK2 (aLn (aKl (name:=Str.ofString "__next__") ht slot_next (aKk slot_next ht entry_next ?_ (args_next _))));unfold Builtin.«set_iterator.__next__»;refine aK2 (m:=slotArgs "__next__" 0 _) (aK3 ?_);refine aK2 (aNd b rfl ?_);dsimp only;refine aK2 (aLz ho hd c ?_);rw[if_neg (show ¬(((es.size:Int) !=(es.size:Int))=true) by simp)];simp only[Int.toNat_natCast];refine aK2 (hN _ _ _ ?_);dsimp only;refine aK2 (aKm b (by simp) λg d k1=>?_);refine aK2 (aKm d (by simp) λe f k2=>?_);refine aK3 ⟨x,rfl,aK3 (q e ?_ (k1.trans k2))⟩;rw[f];simp[nS,rawInt]
theorem y8{B:Around}(f:B.handled=none)(h:∀h',(∀b u,s.heap.get? b=some u->h'.get? b=some u)->Q none {s with heap:=h'}):
  wpAny (model prog w) B (do let e<-newExc (.type "StopIteration") [];raiseNew e) (λ(c:Fin) d =>∃v,c=Fin.done (Flow.ret v)/\wpAny (model prog w) A (pure (some v)) Q E d)
   (λe d =>wpAny (model prog w) A (do let b<-isInstance e (Value.type "StopIteration");if b=true then pure none else throw e) Q E d) s:=by
 refine aK2 ?_;simp only[newExc,newTuple];refine aK2 (aKt ?_ (by size_fits));refine aK2 (m:=firstArgMember _ _) (aNi (a:=Value.none) (by first | rfl | (simp only[firstArgMember];rfl)) ?_);refine aKt ?_ (by size_fits);simp only[raiseNew];refine aK2 (wpAny_handled ?_);rw[f];refine aK2 (aK3 (wpAny_throw ?_));refine aK2 (aM0 (T:= "StopIteration") (b:=true) ⟨_,aKa _ rfl,rfl⟩ isSubtype_stop ?_);exact aK3 (h _ λb u e=>aK4 _ (aK4 _ e))
theorem BB{slot:Nat}(d:A.handled=none)(c:s.heap.get? it=some (nS (.int slot 0) i a es.size ep))(ho:s.heap.get? a=some o)(hd:o.data= .set es ep t)(f:t.fits es.size=true)
  (hN:∀(A:Around) (E:aNr) (Q:Option (Value×Nat)->Shared->Prop),Q none s->wpAny (model prog w) A (setNext a slot i ep) Q E s)
  (q:∀h',Heap.ExtBut it s.heap h' ->Q none {s with heap:=h'}):wpAny (model prog w) A (pyNext (.ref it)) Q E s:=by
 have ht:s.TypeIs (.ref it) "set_iterator":=⟨_,c,rfl⟩
 unfold pyNext;refine aK2 (aLn (aKl (name:=Str.ofString "__next__") ht slot_next (aKk slot_next ht entry_next ?_ (args_next _))));unfold Builtin.«set_iterator.__next__»;refine aK2 (m:=slotArgs "__next__" 0 _) (aK3 ?_);refine aK2 (aNd c rfl ?_);dsimp only;refine aK2 (aLz ho hd f ?_);rw[if_neg (show ¬(((es.size:Int) !=(es.size:Int))=true) by simp)];simp only[Int.toNat_natCast];refine aK2 (hN _ _ _ ?_);dsimp only;refine aK2 (aKm c (by simp) λg j k1=>?_);exact y8 (B:=A.in1) (s:={s with heap:=g}) (show A.in1.handled=none from d) λh' k=>q h' λb u h e=>k b u ((k1.2 b h).trans e)
theorem PQ{tp:Addr}{d:Nat}{ns:List Nat}{x:Value}(b:s.heap.get? it=some (nS (.ref tp) i a es.size ep))(ho:s.heap.get? a=some o)(hd:o.data= .set es ep t)(l:t.fits es.size=true)
  (e:s.heap.IsTuple tp (ns.map λ(k:Nat)=>rawInt k).toArray) (f:ns[i]? =some d) (hx:(es[d]?).map (·.2)=some x)
  (q:∀h',h'.get? it=some (nS (.ref tp) (i+1) a es.size ep)->Heap.SameBut it s.heap h' ->Q (some x) {s with heap:=h'}):wpAny (model prog w) A (pyNext (.ref it)) Q E s:=by
 have ht:s.TypeIs (.ref it) "set_iterator":=⟨_,b,rfl⟩
 obtain⟨y,g,_,z,h⟩:=e;obtain⟨⟨n,p⟩,j,c⟩:=aL0.mp hx;simp only at c;subst c;unfold pyNext;refine aK2 (aLn (aKl (name:=Str.ofString "__next__") ht slot_next (aKk slot_next ht entry_next ?_ (args_next _))));unfold Builtin.«set_iterator.__next__»;refine aK2 (m:=slotArgs "__next__" 0 _) (aK3 ?_);refine aK2 (aNd b rfl ?_);dsimp only;refine aK2 (aLz ho hd l ?_);rw[if_neg (show ¬(((es.size:Int) !=(es.size:Int))=true) by simp)];refine aK2 (aL5 g h ?_);dsimp only;have r:(ns.map λ(k:Nat)=>rawInt k).toArray[(i:Int).toNat]? =some (Value.int d 0):=by simp[f,rawInt]
 rw[r];dsimp only;simp only[Int.toNat_natCast];refine aK2 (m:=setNextDrawn a d ep) ?_;unfold setNextDrawn;refine aK2 (aL3 ho hd l ?_);dsimp only;rw[if_neg (by simp)];rw[j];dsimp only;refine aK3 ?_;refine aK2 (aKm b (by simp) λu v k2=>?_);refine aK3 ⟨p,rfl,aK3 (q u ?_ k2)⟩;rw[v];simp[nS,rawInt]
theorem BA{tp:Addr}{ns:List Nat}(j:A.handled=none)(c:s.heap.get? it=some (nS (.ref tp) i a es.size ep))(ho:s.heap.get? a=some o)(hd:o.data= .set es ep t)(l:t.fits es.size=true)
  (d:s.heap.IsTuple tp (ns.map λ(k:Nat)=>rawInt k).toArray) (f:ns[i]? =none)
  (q:∀h',Heap.ExtBut it s.heap h' ->Q none {s with heap:=h'}):wpAny (model prog w) A (pyNext (.ref it)) Q E s:=by
 have ht:s.TypeIs (.ref it) "set_iterator":=⟨_,c,rfl⟩
 obtain⟨x,g,_,y,h⟩:=d;unfold pyNext;refine aK2 (aLn (aKl (name:=Str.ofString "__next__") ht slot_next (aKk slot_next ht entry_next ?_ (args_next _))));unfold Builtin.«set_iterator.__next__»;refine aK2 (m:=slotArgs "__next__" 0 _) (aK3 ?_);refine aK2 (aNd c rfl ?_);dsimp only;refine aK2 (aLz ho hd l ?_);rw[if_neg (show ¬(((es.size:Int) !=(es.size:Int))=true) by simp)];refine aK2 (aL5 g h ?_);dsimp only;have n:(ns.map λ(k:Nat)=>rawInt k).toArray[(i:Int).toNat]? =none:=by simpa using f
 rw[n];dsimp only;refine aK2 (aKm c (by simp) λz p k1=>?_);refine aK2 (aKm p (by simp) λr C k2=>?_);exact y8 (B:=A.in1) (s:={s with heap:=r}) (show A.in1.handled=none from j) λh' k=>q h' λb u v e=>k b u (((k1.trans k2).2 b v).trans e)
end
theorem gE{a:Type}:∀{xs:List a} {i:Nat} (h:i<xs.length),(xs[i]::xs.eraseIdx i).Perm xs
 | x::xs,0,h=>.refl _
 | x::xs,i+1,h=>by
  simp only[List.getElem_cons_succ,List.eraseIdx_cons_succ];exact(List.Perm.swap x _ _).trans ((gE (by simpa using h)).cons x)
section
variable {M:Model}{A:Around}{E:aNr}
theorem zZ{e:Type}:∀(n:Nat) (xs:List e) (s:Shared) (Q:List e->Shared->Prop),xs.length<=n->(∀b d,b.Perm xs->Q b {s with drawn:=d})->wpAny M A (drawOrder n xs) Q E s
 | 0,[],s,Q,_,h=>by unfold drawOrder;exact aK3 (h [] s.drawn (.refl _))
 | 0,x::xs,s,Q,hl,h=>by simp at hl
 | n+1,[],s,Q,_,h=>by unfold drawOrder;exact aK3 (h [] s.drawn (.refl _))
 | n+1,x::xs,s,Q,hl,h=>by
  unfold drawOrder;refine aK2 ?_;have a:0<(x::xs).length:=by simp
  refine(λf p c=>⟨by simp,?_⟩:wpAny M A (choose .order (x::xs).length) _ E s);have hi:M.w.draws .order (s.drawn.get .order) % (x::xs).length<(x::xs).length:=aNo _ a;generalize M.w.draws .order (s.drawn.get .order) % (x::xs).length=i at hi;revert f p c;show wpAny M A _ _ E _;refine aK3 ?_;rw[List.getElem?_eq_getElem hi];dsimp only;refine aK2 (zZ n ((x::xs).eraseIdx i) _ _ (by rw[List.length_eraseIdx_of_lt hi];simp at hl⊢;lia) λb d g=>aK3 (h _ d ?_));exact(g.cons _).trans (gE hi)
end
theorem zF{a:Type}(next:Nat->Nat):∀(fuel k:Nat) (left:List a) (out:Array a),left.length<=fuel->(pickOrder.go next fuel k left out).toList.Perm (out.toList++left)
 | 0,k,left,out,h=>by
  have:left=[]:=List.length_eq_zero_iff.mp (by lia);subst this;simp[pickOrder.go]
 | fuel+1,k,[],out,h=>by simp[pickOrder.go]
 | fuel+1,k,x::xs,out,h=>by
  unfold pickOrder.go
  have hi:next k % (x::xs).length<(x::xs).length:=aNo _ (by simp)
  rw[List.getElem?_eq_getElem hi];dsimp only
  generalize next k % (x::xs).length=i at hi
  have:=zF next fuel (k+1) ((x::xs).eraseIdx i) (out.push (x::xs)[i]) (by rw[List.length_eraseIdx_of_lt hi];simp at h⊢;lia)
  refine this.trans ?_;simp only[Array.toList_push,List.append_assoc,List.singleton_append];exact(gE hi).append_left _
theorem v3{a:Type}(next:Nat->Nat)(xs:Array a):(pickOrder next xs).toList.Perm xs.toList:=by
 unfold pickOrder
 have:=zF next xs.size 0 xs.toList #[] (by simp)
 simpa using this
section
variable {prog:Program}{w:World}{A:Around}{E:aNr}{s:Shared}{a:Addr}{ep:Nat}{o:Obj}{es:Array (Int×Value)}{t:SetTable}
theorem kU{Q:Bool->Shared->Prop}(h:Q (w.params.followText "set-order") s):wpAny (model prog w) A setsByText Q E s:=by
 unfold setsByText;exact aK2 (aN2 (aK3 h))
def vQ(t:SetTable):Nat->Nat
 | 0=>0
 | i+1=>t.place.getD i 0+1
theorem ID{l:Bool}(ht:TOk l t)(hi:i<=t.place.size):below t.place (vQ t i)=i:=by
 cases i with
 | zero=>exact IC ht.S4
 | succ i=>
  have:t.place.getD i 0=t.place[i]'(by lia):=by simp[Array.getD,show i<t.place.size by lia]
  show below t.place (t.place.getD i 0+1)=i+1;rw[this];exact IE ht.S4 (by lia)
theorem MW(a:t.fits es.size=true):t.place.size=es.size:=by
 simp only[SetTable.fits,Bool.and_eq_true,beq_iff_eq]at a;exact a.1
variable{Q:Option (Value×Nat)->Shared->Prop}
theorem GX{l:Bool}(ho:s.heap.get? a=some o)(hd:o.data= .set es ep t)(d:t.fits es.size=true)(ht:TOk l t)(g:w.params.followText "set-order"=false)(j:l=true)
  (f:(!t.plain && decide (es.size > 1))=false) (hi:i<=es.size) (q:Q ((es[i]?).map λe=>(e.2,vQ t (i+1))) s):wpAny (model prog w) A (setNext a (vQ t i) i ep) Q E s:=by
 have hs:=MW d;unfold setNext;refine aK2 (aL3 ho hd d ?_);dsimp only;refine aK2 (kU ?_);rw[g,if_neg Bool.false_ne_true];have n:(if (!t.plain && decide (es.size > 1))=true then (unsupported "set_iterator.__next__:the-table-is-plain-no-more":Sem Unit) else pure ())=pure ():=by rw[f];rfl
 show wpAny _ _ (if (!t.plain && decide (es.size > 1))=true then _ else _) Q E s;rw[f,if_neg Bool.false_ne_true];have b:t.led=true:=by rw[ht.led,j]
 refine aK2 ?_;show wpAny _ _ (if (!t.led && !es.isEmpty)=true then _ else _) _ E s;rw[b];simp only[Bool.not_true,Bool.false_and,Bool.false_eq_true,if_false];refine aK3 ?_;rw[ID ht (by lia)];by_cases h:i<es.size
 ·have c:es[i]? =some es[i]:=by simp[h]
  have k:t.place[i]? =some (t.place[i]'(by lia)):=by simp[show i<t.place.size by lia]
  rw[c]at q⊢;rw[k];have m:t.place.getD i 0=t.place[i]'(by lia):=by simp[Array.getD,show i<t.place.size by lia]
  simp only[vQ,m,Option.map_some]at q;exact aK3 q
 ·have c:es[i]? =none:=by simp;lia
  rw[c]at q⊢;exact aK3 q
theorem L1(ho:s.heap.get? a=some o)(hd:o.data= .set es ep t)(b:t.fits es.size=true)(c:w.params.followText "set-order"=true)
  (q:Q (((pickOrder (w.params.setOrder a ep) es)[i]?).map λe=>(e.2,0)) s):wpAny (model prog w) A (setNext a 0 i ep) Q E s:=by
 unfold setNext;refine aK2 (aL3 ho hd b ?_);dsimp only;refine aK2 (kU ?_);rw[c,if_pos rfl];rw[if_neg (by simp)];refine aK2 ?_;unfold setWalk;refine aK2 (aL3 ho hd b ?_);dsimp only;refine aK2 (kU ?_);rw[c,if_pos rfl];refine aK2 (aN2 ?_);exact aK3 (aK3 q)
end
theorem yG:entryFor table "set_iterator.__iter__"=some Builtin.«dict_keyiterator.__iter__»:=
 entryFor_alias (id' := "dict_keyiterator.__iter__") (by kernel_rfl) rfl (by decide+kernel) (by kernel_rfl)
theorem CS(a:Value):argsOk "set_iterator.__iter__" ⟨[a],[]⟩:=by
 unfold argsOk;rw[signature?_of (id:= "set_iterator.__iter__") (n:= "__reti__".toList) (o:= "rotareti_tes".toList) (by kernel_rfl) D6];kernel_rfl
theorem sC{a:Type}:∀l:List a,(List.range l.length).filterMap (λk=>l[k]?)=l
 | []=>rfl
 | x::l=>by
  have:=sC l;rw[List.length_cons,List.range_succ_eq_map,List.filterMap_cons];simp only[List.getElem?_cons_zero,List.filterMap_map,Function.comp_def,List.getElem?_cons_succ];rw[this]
section
variable {prog:Program}{w:World}{A:Around}{E:aNr}{s:Shared}
theorem zQ{it a:Addr}{first:Value}{i n ep:Nat}{Q:aNr}(b:s.heap.get? it=some (nS first i a n ep))(h:Q (.ref it) s):wpAny (model prog w) A (pyIter (.ref it)) Q E s:=by
 have ht:s.TypeIs (.ref it) "set_iterator":=⟨_,b,rfl⟩
 refine aMw ht y9 (aKk y9 ht yG ?_ (CS _));show wpAny _ _ (ret (.ref it)) _ _ s;exact aK3 ⟨_,rfl,"set_iterator",_,ht,slot_next.lookup,h⟩
variable{es:Array (Int×Value)}
theorem C5(n:A.handled=none){it a:Addr}(j:a≠it){o:Obj}{ep:Nat}{t:SetTable}(hd:o.data= .set es ep t)(l:t.fits es.size=true)(sl:Nat->Nat)(vs:List Value)(d:vs.length=es.size)
  (hN:∀(i:Nat),i<=es.size->∀(s:Shared),s.heap.get? a=some o->∀(A:Around) (E:aNr) (Q:Option (Value×Nat)->Shared->Prop),Q ((vs[i]?).map λv=>(v,sl (i+1))) s->wpAny (model prog w) A (setNext a (sl i) i ep) Q E s):
  Walks prog w A it [it,a] [it] vs.length (λi v=>vs[i]? =some v) (λi h=>i<=es.size/\h.get? it=some (nS (.int (sl i) 0) i a es.size ep)/\h.get? a=some o) where
 sub:=λb c=>by simp at c;simp[c]
 frame:=λ_ _ _ st m=>⟨st.1,m it (by simp) _ st.2.1,m a (by simp) _ st.2.2⟩
 item:=λi s Q E hi st f=>by
  have e:vs[i]? =some vs[i]:=by simp[hi]
  refine PR (x:=vs[i]) (nx:=sl (i+1)) st.2.1 st.2.2 hd l (λA E Q q=>hN i st.1 s st.2.2 A E Q (by rw[e];exact q)) λh' g k=>?_;refine f _ h' s.toks e ⟨by lia,g,(k.2 a j).trans st.2.2⟩ λb u c e=>(k.2 b (by simpa using c)).trans e
 done:=λs Q E st f=>by
  rw[d]at st;refine BB n st.2.1 st.2.2 hd l (λA E Q q=>hN es.size (aK6 _) s st.2.2 A E Q (by rw[List.getElem?_eq_none (by lia)];exact q)) λh' k=>?_;exact f h' s.toks λb u c e=>k b u (by simpa using c) e
 self:=λ_ _ _ _ st f=>zQ st.2.1 f
theorem NW(y:A.handled=none){it a tp:Addr}(f:a≠it)(j:tp≠it){o:Obj}{ep:Nat}{t:SetTable}(hd:o.data= .set es ep t)(n:t.fits es.size=true)(ns:List Nat)(vs:List Value)(p:ns.length=vs.length)
  (hx:∀(i q:Nat),ns[i]? =some q->(es[q]?).map (·.2)=vs[i]?):
  Walks prog w A it [it,a,tp] [it] vs.length (λi v=>vs[i]? =some v) (λi h=>h.get? it=some (nS (.ref tp) i a es.size ep)/\h.get? a=some o/\h.IsTuple tp (ns.map λ(k:Nat)=>rawInt k).toArray) where
 sub:=λb c=>by simp at c;simp[c]
 frame:=λ_ _ _ st l=>⟨l it (by simp) _ st.1,l a (by simp) _ st.2.1,st.2.2.at λo e=>l tp (by simp) o e⟩
 item:=λi s Q E hi st d=>by
  have e:vs[i]? =some vs[i]:=by simp[hi]
  have m:i<ns.length:=by lia
  have r:ns[i]? =some ns[i]:=by simp[m]
  refine PQ (x:=vs[i]) st.1 st.2.1 hd n st.2.2 r (by rw[hx i _ r,e]) λh' g k=>?_;refine d _ h' s.toks e ⟨g,(k.2 a f).trans st.2.1,st.2.2.extBut k.extBut j⟩ λb u c e=>(k.2 b (by simpa using c)).trans e
 done:=λs Q E st d=>by
  refine BA y st.1 st.2.1 hd n st.2.2 (by rw[List.getElem?_eq_none (by lia)]) λh' k=>?_;exact d h' s.toks λb u c e=>k b u (by simpa using c) e
 self:=λ_ _ _ _ st d=>zQ st.1 d
end
section
variable {prog:Program}{w:World}{K:Type}[DecidableEq K]{knd:KeyKind prog w K}{A:Around}{E:aNr}{s:Shared}
def sU(l:Bool)(h:Heap)(a:Addr)(es:Array (Int×Value)):Prop:=∃o ep t,h.get? a=some o/\o.ExactSet/\o.data= .set es ep t/\es.size<scanBound/\t.fits es.size=true/\TOk l t
variable{es:Array (Int×Value)}
theorem sU.keep{l:Bool}{h h' :Heap}{a:Addr}(x:sU l h a es)(k:∀o,h.get? a=some o->h'.get? a=some o):sU l h' a es:=by
 obtain⟨o,ep,t,ho,r⟩:=x;exact⟨o,ep,t,k o ho,r⟩
theorem sU.typeIs{l:Bool}{s:Shared}{a:Addr}(x:sU l s.heap a es):s.TypeIs (.ref a) "set":=by
 obtain⟨o,ep,t,ho,hx,_⟩:=x;exact⟨o,ho,hx.1⟩
structure ItS(prog:Program)(w:World)(es:Array (Int×Value))(a:Addr)(s s2:Shared)(I:Addr):Prop where
 kept:∀b u,s.heap.get? b=some u->s2.heap.get? b=some u
 new:s.heap.objs.size<=I
 same:s2.gens=s.gens/\s2.os=s.os/\s2.toks=s.toks
 walk:∃(fp:List Addr) (St:Nat->Heap->Prop) (vs:List Value),(∀A:Around,A.handled=none->Walks prog w A I fp [I] vs.length (λi v=>vs[i]? =some v) St)/\St 0 s2.heap/\(∀b∈fp,(b=a\/s.heap.objs.size<=b)/\b<s2.heap.objs.size)/\vs.Perm (es.toList.map (·.2))
theorem QY{a:Addr}{Q:aNr}(D:sU (eV w) s.heap a es)(h:∀I s2,ItS prog w es a s s2 I->Q (.ref I) s2):wpAny (model prog w) A (pyIter (.ref a)) Q E s:=by
 have G:=D.typeIs;obtain⟨o,ep,t,ho,hex,hd,f,g,ht⟩:=D;have c:=aKb ho;refine aMw G F.slot_set_iter (aKk F.slot_set_iter G w8 ?_ (F.args_set_iter_1 _));unfold Builtin.«frozenset.__iter__»;refine aK2 (m:=Builtin.Frozenset.slot0 "__iter__" _) (aK3 ?_);refine aK2 ?_;unfold Builtin.Frozenset.sizeOf;refine aK2 (aLz ho hd g (aK3 ?_));refine aK2 ?_;unfold setDrawn;refine aK2 (aL3 ho hd g ?_);dsimp only;refine aK2 (kU (aK3 ?_));show wpAny _ _ (if (!w.params.followText "set-order" && (!t.plain && decide (es.size > 1)))=true then _ else _) _ _ s;by_cases l:(!w.params.followText "set-order" && (!t.plain && decide (es.size > 1)))=true
 ·rw[if_pos l];refine aK2 (zZ es.size (List.range es.size) s _ (by simp) λns d p=>?_)
  have hsz:(ns.map λ(i:Nat)=>rawInt i).length<=sizeLine:=by
   have:=p.length_eq;have:=fits_of_scanBound f;simp at*;lia
  refine aK2 (aMb ?_ hsz);dsimp only;refine aK2 (m:=setEpoch a) (wpAny_setEpoch_of (o:=o) (aK4 _ ho) hd g ?_);refine aK2 (m:=newFields "set_iterator" _) (aKt ?_ (by size_fits));refine aK3 ⟨_,rfl,"set_iterator",_,⟨_,aKa _ rfl,rfl⟩,slot_next.lookup,?_⟩;refine h _ _ ⟨λb u e=>aK4 _ (aK4 _ e),by simp[Heap.size_push],⟨rfl,rfl,rfl⟩,?_⟩;have C:∀k∈ns,k<es.size:=λk B=>by simpa using p.mem_iff.mp B
  have r:(ns.filterMap λk=>es[k]?).Perm es.toList:=by
   have H:=p.filterMap λk=>es[k]?;have K:(List.range es.size).filterMap (λk=>es[k]?)=es.toList:=by simpa using sC es.toList
   rw[K]at H;exact H
  have v:(ns.filterMap λk=>es[k]?).length=ns.length:=by
   have:=r.length_eq;have:=p.length_eq;simp at*;lia
  have x:∀(ns:List Nat),(∀k∈ns,k<es.size)->∀(i n:Nat),ns[i]? =some n->es[n]? =(ns.filterMap λk=>es[k]?)[i]? :=by
   intro ns
   induction ns with
   | nil=>intro _ i n hi;simp at hi
   | cons k ns ih=>
    intro J i n hi;have B:=J k (by simp)
    cases i with
    | zero=>simp at hi;subst hi;simp[B]
    | succ i=>
     simp at hi;rw[ih (λj L=>J j (by simp[L])) i n hi];simp[B]
  refine⟨_,_,(ns.filterMap λk=>es[k]?).map (·.2),λA y=>NW (tp:=s.heap.objs.size) y ?_ ?_ hd g ns _ (by simp[v]) λi n hi=>by rw[x ns C i n hi,List.getElem?_map],⟨aKa _ rfl,aK4 _ (aK4 _ ho),?_⟩,?_,r.map _⟩
  ·rw[Heap.size_push];exact aKg (aL7 c)
  ·rw[Heap.size_push];exact aKg (aL2 _)
  ·exact⟨_,aK4 _ (aKa _ rfl),rfl,_,rfl⟩
  ·intro b f;simp only[List.mem_cons,List.not_mem_nil,or_false]at f;simp only[Heap.size_push];rcases f with rfl | rfl | rfl
   ·exact⟨.inr (by simp only[Heap.size_push];exact aN6 _),by simp only[Heap.size_push];exact aL2 _⟩
   ·exact⟨.inl rfl,aL7 (aL7 c)⟩
   ·exact⟨.inr (aK6 _),aL7 (aL2 _)⟩
 ·rw[if_neg l];refine aK2 (aK3 ?_);refine aK2 (m:=setEpoch a) (wpAny_setEpoch_of ho hd g ?_);refine aK2 (m:=newFields "set_iterator" _) (aKt ?_ (by size_fits));refine aK3 ⟨_,rfl,"set_iterator",_,⟨_,aKa _ rfl,rfl⟩,slot_next.lookup,?_⟩;refine h _ _ ⟨λb u e=>aK4 _ e,aK6 _,⟨rfl,rfl,rfl⟩,?_⟩;have z:a≠s.heap.objs.size:=aKg c
  cases hbt:w.params.followText "set-order" with
  | true=>
   have r:=v3 (w.params.setOrder a ep) es;refine⟨_,_,(pickOrder (w.params.setOrder a ep) es).toList.map (·.2),λA y=>C5 y z hd g (λ_=>0) _ (by have:=r.length_eq;simp at*;lia) λi hi M hs A E Q q=>L1 hs hd g hbt (by simpa[Function.comp_def] using q),⟨by lia,aKa _ rfl,aK4 _ ho⟩,?_,r.map _⟩;intro b f;simp only[List.mem_cons,List.not_mem_nil,or_false]at f;simp only[Heap.size_push];rcases f with rfl | rfl
   ·exact⟨.inr (aK6 _),aL2 _⟩
   ·exact⟨.inl rfl,aL7 c⟩
  | false=>
   have p:(!t.plain && decide (es.size > 1))=false:=by
    rw[hbt]at l;simpa using l
   refine⟨_,_,es.toList.map (·.2),λA y=>C5 y z hd g (vQ t) _ (by simp) λi hi M hs A E Q q=>GX hs hd g ht hbt (by simp[eV,hbt]) p hi (by simpa[Function.comp_def] using q),⟨by lia,aKa _ rfl,aK4 _ ho⟩,?_,.refl _⟩;intro b f;simp only[List.mem_cons,List.not_mem_nil,or_false]at f;simp only[Heap.size_push];rcases f with rfl | rfl
   ·exact⟨.inr (aK6 _),aL2 _⟩
   ·exact⟨.inl rfl,aL7 c⟩
end
open PySem.Calls
section
variable {prog:Program}{w:World}{K:Type}[DecidableEq K]{knd:KeyKind prog w K}{A:Around}{E:aNr}{s:Shared}{a:Addr}{ks:List K}{es:Array (Int×Value)}
theorem Q7{Q:Bool->Shared->Prop}(e:s.TypeIs (.ref a) "set")(h:Q false s):wpAny (model prog w) A (Builtin.List.listLengthHint (.ref a)) Q E s:=by
 unfold Builtin.List.listLengthHint;refine aK2 (aLw e PySem.F.slot_set_len.lookup ?_);generalize d:("set.__len__":String)=id0
 wp_delta
 rw[show splitId id0=some ("set","__len__") from by subst d;decide+kernel];subst d;refine aK2 (aM0 (T:= "set") (b:=true) e (by rw[isSubtype_type];kernel_rfl) ?_);refine aN8 (λc=>absurd c (by decide)) (λ_=>?_);refine aN8 (λ_=>?_) (λc=>absurd (by decide+kernel) c);refine aK2 (aMt e ?_);exact aK3 h
theorem QZ{vs:List Value}{a:Array Value}(h:ItemsOf (λi v=>vs[i]? =some v) a vs.length):a=vs.toArray:=by
 apply Array.ext_getElem?;intro i;by_cases hi:i<vs.length
 ·have b:i<a.size:=by rw[h.1];exact hi
  have:=h.2 i a[i] (by simp[b]);simp[b,this]
 ·simp[hi,h.1]
theorem GI{R:Result->Shared->Prop}(C:sU (eV w) s.heap a es)(H:A.handled=none)(S:Addr)(p:S≠a)(res:Value)(j:Nat)(q:s.heap.get? S=some {cls:= .type "list",data:= .seq #[] j})
  (M:∀(d :Shared) (vs:List Value) (n :Nat),vs.Perm (es.toList.map (·.2))->d.gens=s.gens->d.os=s.os->(∀b o,b≠S->s.heap.get? b=some o->d.heap.get? b=some o)->d.heap.get? S=some {cls:= .type "list",dict:=none,data:= .seq vs.toArray n,slots:= #[]}->R (.ok (.ret res)) d)
  (V:es.size<=sizeLine):
  wpAny (model prog w) A.in1 (Builtin.List.listExtendWith (.ref S) (.ref a) res)
   (λD d =>match D with | .done f=>R (.ok f) d | .again n =>n.quiet=true/\codeAny (model prog w) A n R d) (λe d =>R (.error e) d) s:=by
 have r:=aKb q;unfold Builtin.List.listExtendWith;refine aK2 (aMt (T:= "set") C.typeIs ?_);have N:Builtin.List.listSameRef (.ref S) (.ref a)=false:=by simp[Builtin.List.listSameRef,p]
 have O:(Value.type "set"==Value.type "list")=false:=by decide
 have P:(Value.type "set"==Value.type "tuple")=false:=by decide
 simp only[N,O,P,Bool.or_false,Bool.false_eq_true,if_false];refine aK2 (QY C λI s2 it=>?_);obtain⟨fp,St,vs,W,st,E,t⟩:=it.walk
 have J:vs.length=es.size:=by
  have:=t.length_eq;simpa using this
 have u:S∉fp:=λhm=>by
  rcases(E S hm).1 with z | z
  ·exact p z
  ·exact absurd r (Nat.not_lt.mpr z)
 have v:∀(h:Heap) (g K:Nat),St 0 h->(∀b o,b≠S->s.heap.get? b=some o->h.get? b=some o)->
   h.get? S=some {cls:= .type "list",data:= .seq #[] g}->codeAny (model prog w) A (.builtin "list.extend.loop" ⟨[.ref S,.ref I,res],[]⟩) R {s2 with heap:=h,toks:=K}:=by
  intro h g K G Q c;refine codeAny_extend_loopS (W A.in1 H).toS (by lia) S u res vs.length 0 _ #[] g rfl (aLb _) G c (ItemsOf.nil _) λd L n hm x y=>?_;rw[QZ y]at x;refine M d vs n t (hm.gens.trans it.same.1) (hm.os.trans it.same.2.1) (λb o k e=>hm.heap b o (λhmem=>?_) (Q b o k e)) x;rcases aKd.mp hmem with U | hmem
  ·exact k U
  ·rw[List.mem_singleton.mp hmem]at e;exact absurd (aKb e) (Nat.not_lt.mpr it.new)
 have c:=it.kept _ _ q;have l:sU (eV w) s2.heap a es:=C.keep λo e=>it.kept _ _ e;refine aK2 (aKq (Q7 l.typeIs ?_));refine aN8 (λ_=>?_) (λ_=>aK3 ⟨aN4 PySem.F.plain_extend_loop _,v s2.heap j s2.toks st (λb o _ e=>it.kept _ _ e) c⟩);refine aK2 (aL9 ?_);refine aK2 ?_;show wpAny _ _ (updateSeq S (·.push .none) >>=λ_=>updateSeq S (·.pop)) _ _ _;refine aK2 (aN9 c rfl ?_);have i:=aLq (Obj.mapSeq (·.push Value.none)) c rfl;refine aN9 (hz:=by seq_fits) i rfl ?_;have m:=aLq (Obj.mapSeq (·.pop)) i rfl;refine aK3 ⟨aN4 PySem.F.plain_extend_loop _,v _ _ s2.toks ?_ (λb o k e=>?_) m⟩
 ·refine(W A.in1 H).frame 0 _ _ st λb k o e=>?_;have B:b≠S:=λh=>u (h▸k);exact(aLf _ _ (aLh B)).trans ((aLf _ _ (aLh B)).trans e)
 ·exact(aLf _ _ (aLh k)).trans ((aLf _ _ (aLh k)).trans (it.kept _ _ e))
theorem AY{R:List Value->Shared->Prop}(t:sU (eV w) s.heap a es)(u:A.handled=none)(v:es.size<=sizeLine)
  (h:∀(c :Shared) (vs:List Value),vs.Perm (es.toList.map (·.2))->c.gens=s.gens->c.os=s.os->(∀b o,s.heap.get? b=some o->c.heap.get? b=some o)->R vs c):
  wpAny (model prog w) A (collect (.ref a)) R E s:=by
 have n:a<s.heap.objs.size:=by obtain⟨o,_,_,ho,_⟩:=t;exact aKb ho
 unfold collect;refine aK2 (wpAny_runValue (aM5 PySem.F.entry_proto_collect ?_));rw[Around.under_plainId PySem.F.plain_proto_collect _];show wpAny _ A.in1 (newList [] >>=λl=>again (.builtin "list.__iadd__" ⟨[l,.ref a],[]⟩)) _ _ s;refine aK2 (aKt ?_);refine aK3 ⟨aN4 PySem.F.plain_list_iadd _,aM5 PySem.F.entry_list_iadd ?_⟩;rw[Around.under_plainId PySem.F.plain_list_iadd _];have g:(s.heap.push {cls:= .type "list",data:= .seq ([]:List Value).toArray}).get? s.heap.objs.size=some {cls:= .type "list",data:= .seq #[]}:=aKa _ rfl;show wpAny _ A.in1 (Builtin.List.listExtendWith (.ref s.heap.objs.size) (.ref a) (.ref s.heap.objs.size)) _ _ _
 have p:=GI (prog:=prog) (A:=A) (s:={s with heap:=s.heap.push {cls:= .type "list",data:= .seq ([]:List Value).toArray}}) (es:=es)
  (R:=λ(q:Result) (c :Shared)=>∃(vs:List Value) (i :Nat),q= .ok (.ret (.ref s.heap.objs.size))/\vs.Perm (es.toList.map (·.2))/\c.gens=s.gens/\c.os=s.os/\
   (∀b o,s.heap.get? b=some o->c.heap.get? b=some o)/\c.heap.get? s.heap.objs.size=some {cls:= .type "list",dict:=none,data:= .seq vs.toArray i,slots:= #[]})
  (t.keep λo e=>aK4 _ e) u s.heap.objs.size (aLe n) (.ref s.heap.objs.size) 0 g
  (λc vs i j hg ho k d =>⟨vs,i,rfl,j,hg,ho,λb o e=>k b o (aKg (aKb e)) (aK4 _ e),d⟩) v
 refine aLm p (λr c x=>?_) λe c x=>?_
 ·cases r with
  | done f=>
   obtain⟨vs,i,e,j,hg,ho,k,d⟩:=x;cases e;show wpAny _ A (load s.heap.objs.size >>=_) _ _ _;refine aK2 (wpAny_load d ?_);exact aK3 (by simpa using h c vs j hg ho k)
  | again c₁=>
   refine⟨x.1,aMr x.2 λq m y=>?_⟩;obtain⟨vs,i,rfl,j,hg,ho,k,d⟩:=y;show wpAny _ A (load s.heap.objs.size >>=_) _ _ _;refine aK2 (wpAny_load d ?_);exact aK3 (by simpa using h m vs j hg ho k)
 ·obtain⟨_,_,z,_⟩:=x;cases z
end
def F5:Nat->Nat->Nat
 | 0,x=>x
 | n+1,x=>5*F5 n x+1
theorem SO(m:Nat):∀n x,F5 (m+n) x=F5 m (F5 n x):=by
 induction m with
 | zero=>intro n x;simp[F5]
 | succ m ih=>intro n x;rw[Nat.succ_add];simp only[F5,ih]
theorem SM:∀k,∃u,∀x,F5 (2^k) x=x+2^k*((2*u+1)*(4*x+1))
 | 0=>⟨0,λx=>by simp[F5];lia⟩
 | k+1=>by
  obtain⟨u,h⟩:=SM k;refine⟨u+2^k*((2*u+1)*(2*u+1)),λx=>?_⟩;rw[Nat.pow_succ,Nat.mul_two,SO,h,h];generalize 2^k=p
  grind
theorem half{p y e:Nat}(b:0<p)(h:y % p=e % p)(a:y % (p*2)≠e % (p*2)):(y+p) % (p*2)=e % (p*2):=by
 rw[Nat.mod_mul,Nat.mod_mul]at a⊢;rw[Nat.add_mod_right,Nat.add_div_right _ b];rw[h]at a⊢;have:y / p % 2≠e / p % 2:=λz=>a (by rw[z]);have:(y / p).succ % 2=e / p % 2:=by lia
 rw[this]
theorem SN:∀k x e,∃s,s<2^k/\F5 s x % 2^k=e % 2^k
 | 0,x,e=>⟨0,by simp,by simp[Nat.mod_one]⟩
 | k+1,x,e=>by
  obtain⟨s,hs,h⟩:=SN k x e;have a:0<2^k:=Nat.pow_pos (by lia);rw[Nat.pow_succ];by_cases c:F5 s x % (2^k*2)=e % (2^k*2)
  ·exact⟨s,by lia,c⟩
  ·refine⟨2^k+s,by lia,?_⟩;obtain⟨u,b⟩:=SM k;rw[SO,b,<-half a h c];generalize F5 s x=y;generalize 2^k=p;have:y+p*((2*u+1)*(4*y+1))=y+p+p*2*(u*(4*y+1)+2*y):=by grind
   rw[this,Nat.add_mul_mod_self_left]
def lp(M:Nat)(h:Int):Nat->Nat×Nat
 | 0=>(bits h % (M+1),bits h)
 | r+1=>leap M (lp M h r).1 (lp M h r).2
variable {M:Nat}{h:Int}
theorem QJ:∀r,(lp M h r).2=bits h / 32^r
 | 0=>by simp[lp]
 | r+1=>by
  show (lp M h r).2 / 32=_;rw[QJ r,Nat.div_div_eq_div_mul,Nat.pow_succ]
theorem XR:bits h<2^64:=by
 unfold bits;have:=aLo h (show (0:Int)<2^64 by decide);have:=aM6 h (show (2^64:Int)≠0 by decide)
 lia
theorem YI:∀r,(lp M h r).1<=M
 | 0=>by have:=aNo (bits h) (show 0<M+1 by lia);show bits h % (M+1)<=M;lia
 | r+1=>by
  show ((lp M h r).1*5+1+(lp M h r).2 / 32) % (M+1)<=M;have:=aNo ((lp M h r).1*5+1+(lp M h r).2 / 32) (show 0<M+1 by lia)
  lia
theorem JT:∀s,(lp M h (13+s)).1=F5 s (lp M h 13).1 % (M+1)
 | 0=>by rw[show F5 0 (lp M h 13).1=(lp M h 13).1 from rfl,Nat.mod_eq_of_lt (by have:=YI (M:=M) (h:=h) 13;lia)]
 | s+1=>by
  have e:(lp M h (13+s)).2=0:=by
   rw[QJ,Nat.div_eq_of_lt];have:=XR (h:=h);have:(2:Nat)^64<=32^13:=by decide
   have:(32:Nat)^13<=32^(13+s):=Nat.pow_le_pow_right (by lia) (by lia)
   lia
  show ((lp M h (13+s)).1*5+1+(lp M h (13+s)).2 / 32) % (M+1)=(5*F5 s (lp M h 13).1+1) % (M+1);rw[e,JT s];generalize F5 s (lp M h 13).1=y;simp only[Nat.zero_div,Nat.add_zero];rw[Nat.add_mod,Nat.mod_mul_mod,<-Nat.add_mod,Nat.mul_comm]
theorem QK{k e:Nat}(hm:M+1=2^k)(he:e<=M):∃r,r<=M+13/\(lp M h r).1=e:=by
 obtain⟨s,hs,a⟩:=SN k (lp M h 13).1 e;refine⟨13+s,by lia,?_⟩;rw[JT,hm,a,Nat.mod_eq_of_lt (by lia)]
def adv(M:Nat)(p:Probe):Probe:=
 if p.more > 0 then {p with j:=p.j+1,more:=p.more-1} else
 {p with j:=(leap M p.i p.perturb).1,more:=runEnd M (leap M p.i p.perturb).1-(leap M p.i p.perturb).1,i:=(leap M p.i p.perturb).1,perturb:=(leap M p.i p.perturb).2}
def eE(M:Nat)(h:Int):Nat->Probe
 | 0=>{j:=bits h % (M+1),more:=runEnd M (bits h % (M+1))-bits h % (M+1),i:=bits h % (M+1),perturb:=bits h,dummy:=none}
 | n+1=>adv M (eE M h n)
def ln(M:Nat)(h:Int)(r:Nat):Nat:=runEnd M (lp M h r).1-(lp M h r).1
def Nr(M:Nat)(h:Int):Nat->Nat
 | 0=>0
 | r+1=>Nr M h r+ln M h r+1
theorem YJ(r:Nat):ln M h r<=9/\(lp M h r).1+ln M h r<=M:=by
 have:=YI (M:=M) (h:=h) r;unfold ln runEnd;split <;> lia
theorem YW:∀r,Nr M h r<=10*r
 | 0=>by simp[Nr]
 | r+1=>by have:=YW r;have:=YJ (M:=M) (h:=h) r;simp only[Nr];lia
theorem iK:∀r d,d<=ln M h r->eE M h (Nr M h r+d)=⟨(lp M h r).1+d,ln M h r-d,(lp M h r).1,(lp M h r).2,none⟩
 | 0,0,_=>by simp[Nr,eE,lp,ln]
 | r,d+1,hd=>by
  show adv M (eE M h (Nr M h r+d))=_;rw[iK r d (by lia)];unfold adv;rw[if_pos (by simp only;lia)];simp only[Probe.mk.injEq,and_true,true_and]
  lia
 | r+1,0,_=>by
  have e:Nr M h (r+1)+0=Nr M h r+ln M h r+1:=rfl;rw[e];show adv M (eE M h (Nr M h r+ln M h r))=_;rw[iK r (ln M h r) (Nat.le_refl _)];unfold adv;rw[if_neg (by simp)];simp[lp,ln]
theorem GN:∀n,∃r d,d<=ln M h r/\n=Nr M h r+d
 | 0=>⟨0,0,by lia,rfl⟩
 | n+1=>by
  obtain⟨r,d,hd,rfl⟩:=GN n;by_cases c:d<ln M h r
  ·exact⟨r,d+1,by lia,by lia⟩
  ·exact⟨r+1,0,by lia,by simp only[Nr];lia⟩
theorem GL(n:Nat):(eE M h n).j<=M:=by
 obtain⟨r,d,hd,rfl⟩:=GN (M:=M) (h:=h) n;rw[iK r d hd];have:=YJ (M:=M) (h:=h) r;simp only;lia
theorem UN(n:Nat):(eE M h n).dummy=none:=by
 obtain⟨r,d,hd,rfl⟩:=GN (M:=M) (h:=h) n;rw[iK r d hd]
theorem UO{k e:Nat}(hm:M+1=2^k)(he:e<=M):∃n,n<10*turns M/\(eE M h n).j=e:=by
 obtain⟨r,b,a⟩:=QK (h:=h) hm he;have:=YW (M:=M) (h:=h) r;refine⟨Nr M h r,by unfold turns;lia,?_⟩;have:=iK (M:=M) (h:=h) r 0 (by lia);rw[Nat.add_zero]at this;rw[this,<-a];rfl
theorem FW(n:Nat):∀fuel j,∃i,j<=i/\sizeAbove.go n fuel (2^j)=2^i/\(n<2^(j+fuel)->n<2^i)/\(2^i<=2^j\/2^i<=2*n)
 | 0,j=>⟨j,aK6 _,rfl,λh=>by simpa using h,.inl (aK6 _)⟩
 | fuel+1,j=>by
  unfold sizeAbove.go;split
  ·rename_i c;obtain⟨i,d,a,b,h4⟩:=FW n fuel (j+1);rw[Nat.pow_succ]at a;refine⟨i,by lia,a,λz=>b (by rw[show j+1+fuel=j+(fuel+1) by lia];exact z),?_⟩;rcases h4 with h4 | h4
   ·rw[Nat.pow_succ]at h4;exact .inr (by lia)
   ·exact .inr h4
  ·rename_i c;exact⟨j,aK6 _,rfl,λ_=>by lia,.inl (aK6 _)⟩
theorem SH{n:Nat}(e:n<2^64):∃i,3<=i/\sizeAbove n=2^i/\n<2^i/\(2^i<=8\/2^i<=2*n):=by
 obtain⟨i,a,b,c,d⟩:=FW n 64 3;have:(2:Nat)^64<=2^(3+64):=Nat.pow_le_pow_right (by lia) (by lia);exact⟨i,a,b,c (by lia),d⟩
section
variable {M:Nat}{owner:Array (Option Nat)}{h:Int}
theorem KP:∀fuel r a,r<=a->a<r+fuel->(owner.getD (lp M h a).1 (some 0)).isNone=true->
  ∃n,layClean.free M owner fuel (lp M h r).1 (lp M h r).2=some (eE M h n).j/\(owner.getD (eE M h n).j (some 0)).isNone=true/\Nr M h r<=n/\∀m,Nr M h r<=m->m<n->(owner.getD (eE M h m).j (some 0)).isNone=false
 | 0,r,a,h1,h2,_=>by lia
 | fuel+1,r,a,h1,h2,h3=>by
  unfold layClean.free
  have i:runEnd M (lp M h r).1+1-(lp M h r).1=ln M h r+1:=by
   unfold ln runEnd;split <;> lia
  rw[i]
  cases hf:(List.range (ln M h r+1)).find? λk=>(owner.getD ((lp M h r).1+k) (some 0)).isNone with
  | some k=>
   obtain⟨l,as,bs,e,o⟩:=List.find?_eq_some_iff_append.mp hf;have f:k∈List.range (ln M h r+1):=by rw[e];simp
   have b:k<=ln M h r:=by simp at f;lia
   refine⟨Nr M h r+k,?_,?_,by lia,λm m1 m2=>?_⟩
   ·rw[iK r k b]
   ·rw[iK r k b];exact l
   ·obtain⟨d,rfl⟩:∃d,m=Nr M h r+d:=⟨m-Nr M h r,by lia⟩
    rw[iK r d (by lia)]
    have hd:d∈as:=by
     have g:as.length=k:=by
      have:=aL4 (·[as.length]?) e;simp at this;by_cases c:as.length<ln M h r+1
      ·simp[c]at this;exact this
      ·simp[c]at this
     have:(List.range (ln M h r+1))[d]? =as[d]? :=by rw[e,List.getElem?_append_left (by lia)]
     rw[List.getElem?_range (by lia)]at this;exact aK9 this.symm
    have:=o d hd;simpa using this
  | none=>
   have all:=List.find?_eq_none.mp hf
   have p:r≠a:=λz=>by
    subst z;have:=all 0 (by simp);simp only[Nat.add_zero]at this;exact this h3
   obtain⟨n,q,s,t,u⟩:=KP fuel (r+1) a (by lia) (by lia) h3;refine⟨n,q,s,by simp only[Nr]at t;lia,λm m1 m2=>?_⟩;by_cases c:Nr M h (r+1)<=m
   ·exact u m c m2
   ·obtain⟨d,rfl⟩:∃d,m=Nr M h r+d:=⟨m-Nr M h r,by lia⟩
    simp only[Nr]at c;rw[iK r d (by lia)];have:=all d (by simp;lia);simp only[Bool.not_eq_true]at this;exact this
end
structure Ow(M:Nat)(owner:Array (Option Nat))(pre:List Int):Prop where
 size:owner.size=M+1
 val:∀(j q:Nat),owner[j]? =some (some q)->q<pre.length
 inj:∀(j j' q:Nat),owner[j]? =some (some q)->owner[j']? =some (some q)->j=j'
 at' :∀(q:Nat) (h:Int),pre[q]? =some h->∃n,owner[(eE M h n).j]? =some (some q)/\∀m,m<n->∃q',owner[(eE M h m).j]? =some (some q')
theorem ndl{b:Type}[DecidableEq b]:∀(l m:List b),l.Nodup->(∀x∈l,x∈m)->l.length<=m.length
 | [],m,_,_=>by simp
 | a::l,m,nd,h=>by
  have c:=aMl.mp nd;have hm:=h a aK7;have:=ndl l (m.erase a) c.2 λx hx=>(List.mem_erase_of_ne (λz:x=a=>c.1 (by rw[<-z];exact hx))).mpr (h x (aK8 _ hx));rw[List.length_erase_of_mem hm]at this;have:=List.length_pos_of_mem hm;simp only[List.length_cons];lia
variable{owner:Array (Option Nat)}
theorem qZ{M:Nat}(hs:owner.size=M+1)(b:j<=M):((owner.getD j (some 0)).isNone=true↔owner[j]? =some none)/\((owner.getD j (some 0)).isNone=false↔∃q,owner[j]? =some (some q)):=by
 have a:j<owner.size:=by lia
 have e:owner.getD j (some 0)=owner[j]:=by simp[Array.getD,a]
 rw[e];cases o:owner[j] <;> simp[a,o]
theorem Ow.room{M:Nat}{pre:List Int}(w:Ow M owner pre)(m:pre.length<=M):∃e,e<=M/\owner[e]? =some none:=by
 apply aKf;intro i
 have all:∀j,j<=M->∃q,owner[j]? =some (some q):=λj d=>by
  have:=qZ w.size d
  cases c:(owner.getD j (some 0)).isNone with
  | true=>exact absurd ⟨j,d,this.1.mp c⟩ i
  | false=>exact this.2.mp c
 have f:=ndl ((List.range (M+1)).map λj=>((owner[j]?).join).getD 0) (List.range pre.length) ?_ ?_
 ·simp at f;lia
 ·rw[List.nodup_iff_pairwise_ne,List.pairwise_map];refine aMx.imp_of_mem λ{a b} ha k l=>?_;obtain⟨n,g⟩:=all a (by simp at ha;lia);obtain⟨o,h⟩:=all b (by simp at k;lia);rw[g,h];simp;intro z;subst z;have:=w.inj a b _ g h
  lia
 ·intro x hx;obtain⟨j,d,rfl⟩:=aKe.mp hx;obtain⟨q,e⟩:=all j (by simp at d;lia);rw[e];simpa using w.val j q e
def stp(M:Nat)(a:Option (Array (Option Nat)×Nat))(h:Int):Option (Array (Option Nat)×Nat):=do
  let (owner,k)<-a
  let j<-layClean.free M owner (turns M) (bits h % (M+1)) (bits h)
  pure (owner.setIfInBounds j (some k),k+1)
theorem N6{M k:Nat}(f:M+1=2^k):∀(hs pre:List Int) (owner:Array (Option Nat)),Ow M owner pre->pre.length+hs.length<=M->∃a,hs.foldl (stp M) (some (owner,pre.length))=some (a,(pre++hs).length)/\Ow M a (pre++hs)
 | [],pre,owner,w,_=>⟨owner,by simp,by simpa using w⟩
 | h::hs,pre,owner,w,hl=>by
  simp only[List.length_cons]at hl;obtain⟨e,he,g⟩:=w.room (by lia);obtain⟨l,A,o⟩:=QK (h:=h) f he;obtain⟨n,p,r,_,s⟩:=KP (M:=M) (owner:=owner) (h:=h) (turns M) 0 l (by lia) (by unfold turns;lia) (by rw[o];exact(qZ w.size he).1.mpr g);have t:=GL (M:=M) (h:=h) n;have u:=(qZ w.size t).1.mp r;have v:(eE M h n).j<owner.size:=by rw[w.size];lia
  have st:stp M (some (owner,pre.length)) h=some (owner.setIfInBounds (eE M h n).j (some pre.length),pre.length+1):=by
   show (do let j<-layClean.free M owner (turns M) (lp M h 0).1 (lp M h 0).2;pure (owner.setIfInBounds j (some pre.length),pre.length+1))=_;rw[p];rfl
  have d:∀j,(owner.setIfInBounds (eE M h n).j (some pre.length))[j]? =if j=(eE M h n).j then some (some pre.length) else owner[j]? :=λj=>by
   rw[Array.getElem?_setIfInBounds];split
   ·rename_i c;rw[if_pos c.symm]
   ·rename_i c;rw[if_neg (λz=>c z.symm)]
  have x :Ow M (owner.setIfInBounds (eE M h n).j (some pre.length)) (pre++[h]):=by
   refine⟨by simp[w.size],λj q e=>?_,λj j' q e b =>?_,λq h' e=>?_⟩
   ·rw[d]at e;split at e
    ·simp at e;subst e;simp
    ·have:=w.val j q e;simp;lia
   ·rw[d]at e b;split at e <;> split at b
    ·lia
    ·simp at e;subst e;have:=w.val j' _ b;lia
    ·simp at b;subst b;have:=w.val j _ e;lia
    ·exact w.inj j j' q e b
   ·by_cases c:q<pre.length
    ·rw[List.getElem?_append_left c]at e;obtain⟨m,m1,m2⟩:=w.at' q h' e;refine⟨m,?_,λi hi=>?_⟩
     ·rw[d,if_neg]
      ·exact m1
      ·intro z;rw[z,u]at m1;cases m1
     ·obtain⟨q',b⟩:=m2 i hi;rw[d];split
      ·exact⟨_,rfl⟩
      ·exact⟨q',b⟩
    ·have y:q=pre.length:=by
      have:=(aK5.mp e).1;simp at this;lia
     subst y;simp at e;subst e;refine⟨n,by rw[d,if_pos rfl],λi hi=>?_⟩;obtain⟨q',b⟩:=(qZ w.size (GL i)).2.mp (s i (by simp[Nr]) hi);rw[d];split
     ·exact⟨_,rfl⟩
     ·exact⟨q',b⟩
  rw[List.foldl_cons,st];have:=N6 f hs (pre++[h]) _ x (by simp;lia);simpa using this
theorem aBj{M k:Nat}(b:M+1=2^k)(hs:Array Int)(c:hs.size<=M):∃owner,layClean M hs=some owner/\Ow M owner hs.toList:=by
 have d:Ow M (Array.replicate (M+1) none) []:=by
  refine⟨by simp,λj q e=>?_,λj j' q e _=>?_,λq h e=>by simp at e⟩
  ·rw[Array.getElem?_replicate]at e;split at e <;> simp at e
  ·rw[Array.getElem?_replicate]at e;split at e <;> simp at e
 obtain⟨owner,f,g⟩:=N6 b hs.toList [] _ d (by simpa using c);refine⟨owner,?_,by simpa using g⟩;unfold layClean;rw[<-Array.foldl_toList];change ((hs.toList.foldl (stp M) (some (Array.replicate (M+1) none,0))).map (·.1))=_;have a :hs.toList.foldl (stp M) (some (Array.replicate (M+1) none,0))=some (owner,([]++hs.toList).length):=f;rw[a];rfl
structure Tb(t:SetTable)(hs:List Int):Prop where
 S4:K9 t.place
 dum:t.dummies= #[]
 pow:∃k,3<=k/\t.mask+1=2^k
 le:∀j∈t.place.toList,j<=t.mask
 len:t.place.size=hs.length
 F4:t.place.size<=t.mask
 small:t.mask+1<=8*(hs.length+1)
 reach:∀q∈t.place.toList.zip hs,∃n,(eE t.mask q.2 n).j=q.1/\∀m,m<n->(eE t.mask q.2 m).j∈t.place.toList
theorem Tb.fresh(f m:Nat)(l:Bool):Tb (.fresh f m l) []:=
 ⟨by unfold K9 SetTable.fresh;simp,rfl,⟨3,by lia,rfl⟩,by simp[SetTable.fresh],rfl,by simp[SetTable.fresh],by simp[SetTable.fresh],by simp⟩
variable {t:SetTable}{hs:List Int}
theorem Tb.tok(T:Tb t hs):TOk t.led t:=⟨T.S4,T.dum,rfl⟩
theorem Tb.plain(T:Tb t hs)(b:Bool):Tb {t with plain:=b} hs:=⟨T.S4,T.dum,T.pow,T.le,T.len,T.F4,T.small,T.reach⟩
theorem Tb.odd(T:Tb t hs):t.gaveWay=false:=by
 obtain⟨k,a,e⟩:=T.pow;have:2^k=2*2^(k-1):=by rw[<-Nat.pow_succ'];congr 1;lia
 unfold SetTable.gaveWay;simp
 lia
theorem Tb.fits(T:Tb t hs){n:Nat}(a:n=hs.length):t.fits n=true:=by
 have:=T.len;have:=T.F4;simp[SetTable.fits,SetTable.fill,T.dum]
 lia
theorem Tb.slot(T:Tb t hs)(j:Nat):(j∈t.place.toList->∃i:Nat,t.slot j= .live i/\t.place[i]? =some j)/\(j∉t.place.toList->t.slot j= .empty):=by
 unfold SetTable.slot;constructor
 ·intro hm
  have e:t.place[below t.place j]? =some j:=by
   apply aKf;intro z;exact VE T.S4 z hm
  exact⟨below t.place j,by simp[e],e⟩
 ·intro hm;have:t.place[below t.place j]? ≠some j:=λz=>hm (by obtain⟨a,e⟩:=aL8.mp z;rw[<-e];simp);simp[this,T.dum,SetTable.has]
theorem least{P:Nat->Prop}:∀n,P n->∃e,e<=n/\P e/\∀m,m<e->¬P m:=by
 intro n
 induction n using Nat.strongRecOn with
 | _ n b=>
  intro h;by_cases c:∃m,m<n/\P m
  ·obtain⟨m,hm,a⟩:=c;obtain⟨e,g,d,f⟩:=b m hm a;exact⟨e,by lia,d,f⟩
  ·exact⟨n,aK6 _,h,λm hm a=>c ⟨m,hm,a⟩⟩
theorem Tb.first(T:Tb t hs)(h:Int):∃E,E<10*turns t.mask/\(eE t.mask h E).j∉t.place.toList/\∀n,n<E->(eE t.mask h n).j∈t.place.toList:=by
 obtain⟨k,_,b⟩:=T.pow
 obtain⟨e,he,c⟩:∃e,e<=t.mask/\e∉t.place.toList:=by
  apply aKf;intro z
  have:=ndl (List.range (t.mask+1)) t.place.toList aM1 λx hx=>by
   apply aKf;intro y;exact z ⟨x,by simp at hx;lia,y⟩
  have:=T.F4;simp at*
  lia
 obtain⟨n,d,a⟩:=UO (h:=h) b he;obtain⟨E,i,f,g⟩:=least (P:=λn=>(eE t.mask h n).j∉t.place.toList) n (by rw[a];exact c);exact⟨E,by lia,f,λm hm=>by have:=g m hm;simpa using this⟩
theorem D4(T:Tb t hs){h:Int}{E:Nat}{hashAt:Nat->Int}(g:(eE t.mask h E).j∉t.place.toList)(k:∀n,n<E->(eE t.mask h n).j∈t.place.toList):∀fuel n,n<=E->E<n+fuel->
  (∃a i:Nat,n<=a/\a<E/\t.place[i]? =some (eE t.mask h a).j/\t.slot (eE t.mask h a).j= .live i/\hashAt i=h/\probe.go t hashAt h fuel (eE t.mask h n)=some (.candidate (eE t.mask h a).j i (eE t.mask h (a+1)))/\
   ∀m,n<=m->m<a->∃i:Nat,t.place[i]? =some (eE t.mask h m).j/\hashAt i≠h)\/
  (probe.go t hashAt h fuel (eE t.mask h n)=some (.empty (eE t.mask h E).j none)/\∀m,n<=m->m<E->∃i:Nat,t.place[i]? =some (eE t.mask h m).j/\hashAt i≠h)
 | 0,n,h3,h4=>by lia
 | fuel+1,n,h3,h4=>by
  unfold probe.go;by_cases c:n=E
  ·subst c;rw[(T.slot _).2 g];exact .inr ⟨by simp[UN],λm _ _=>by lia⟩
  ·obtain⟨i,l,b⟩:=(T.slot _).1 (k n (by lia));rw[l];simp only;by_cases d:hashAt i=h
   ·exact .inl ⟨n,i,aK6 _,by lia,b,l,d,by rw[if_pos (by simp[d])];rfl,λm _ _=>by lia⟩
   ·rw[if_neg (by simpa using d)];have p:t.advance (eE t.mask h n)=eE t.mask h (n+1):=rfl;rw[p]
    rcases D4 T g k fuel (n+1) (by lia) (by lia) with ⟨a,q,o,e,r,f,s,a5,a6⟩ | ⟨o,e⟩
    ·refine .inl ⟨a,q,by lia,e,r,f,s,a5,λm m1 m2=>?_⟩;by_cases z:m=n
     ·subst z;exact⟨i,b,d⟩
     ·exact a6 m (by lia) m2
    ·refine .inr ⟨o,λm m1 m2=>?_⟩;by_cases z:m=n
     ·subst z;exact⟨i,b,d⟩
     ·exact e m (by lia) m2
theorem TC{c d:Type}{l:List c}{m:List d}{a:c}{b:d}{p:Nat}(e:l.length=m.length){q:c×d}(h:q∈(l.take p++a::l.drop p).zip (m.take p++b::m.drop p)):q∈l.zip m\/q=(a,b):=by
 rw[List.zip_append (by simp;lia),List.zip_cons_cons,List.mem_append,List.mem_cons]at h;rw[<-List.take_append_drop p l,<-List.take_append_drop p m,List.zip_append (by simp;lia),List.mem_append];rcases h with h | h | h
 ·exact .inl (.inl h)
 ·exact .inr h
 ·exact .inl (.inr h)
theorem Tb.put(T:Tb t hs){h:Int}{E:Nat}(e:(eE t.mask h E).j∉t.place.toList)(f:∀n,n<E->(eE t.mask h n).j∈t.place.toList)(g:t.place.size+1<=t.mask):
  Tb (t.put (eE t.mask h E).j).1 (hs.take (t.put (eE t.mask h E).j).2++h::hs.drop (t.put (eE t.mask h E).j).2)/\(t.put (eE t.mask h E).j).2<=hs.length/\(t.put (eE t.mask h E).j).1.mask=t.mask/\(t.put (eE t.mask h E).j).1.led=t.led:=by
 have b:=(i7 (eE t.mask h E).j T.S4).1;have a:(insertAt t.place (below t.place (eE t.mask h E).j) (eE t.mask h E).j).toList=_:=nU _ _ _ b
 have sz:(insertAt t.place (below t.place (eE t.mask h E).j) (eE t.mask h E).j).size=t.place.size+1:=by
  rw[<-Array.length_toList,a];simp;lia
 have mem:∀x,x∈t.place.toList->x∈(insertAt t.place (below t.place (eE t.mask h E).j) (eE t.mask h E).j).toList:=λx hx=>by
  rw[a];rw[<-List.take_append_drop (below t.place (eE t.mask h E).j) t.place.toList]at hx;rcases aKi.mp hx with z | z
  ·exact aLk _ z
  ·exact aKs _ (aK8 _ z)
 have tl:=T.len;unfold SetTable.put;refine⟨⟨GK T.S4 e,by simp[T.dum,SetTable.has],T.pow,λj c=>?_,?_,?_,?_,λq d=>?_⟩,by simp only;lia,rfl,rfl⟩
 ·simp only at c;rw[a]at c;rcases aKi.mp c with z | z
  ·exact T.le j (aLl z)
  ·rcases aKd.mp z with z | z
   ·rw[z];exact GL E
   ·exact T.le j (List.mem_of_mem_drop z)
 ·simp only[sz];simp;lia
 ·simp only[sz];exact g
 ·have:=T.small;simp;lia
 ·simp only at d⊢;rw[a]at d;rcases TC (by simpa using tl) d with z | z
  ·obtain⟨n,i,k⟩:=T.reach q z;exact⟨n,i,λm hm=>mem _ (k m hm)⟩
  ·subst z;exact⟨E,rfl,λm hm=>mem _ (f m hm)⟩
theorem V5{M k:Nat}(J:3<=k)(D:M+1=2^k)(hs:Array Int)(K:hs.size<=M)(N:M+1<=8*(hs.size+1))(f O:Nat)(l v:Bool):
  ∃t g,laid M f O l v hs=some (t,g)/\g.toList.Perm (List.range hs.size)/\t.mask=M/\t.led=l/\Tb t (g.toList.filterMap (hs[·]?)):=by
 obtain⟨owner,e,w⟩:=aBj D hs K;unfold laid;rw[e];refine⟨_,_,rfl,?_⟩;generalize E:(List.range (M+1)).filterMap (λj=>(owner.getD j none).map (j, ·))=L
 have mem:∀j q,(j,q)∈L↔owner[j]? =some (some q):=λj q=>by
  rw[<-E];simp only[List.mem_filterMap,List.mem_range,Option.map_eq_some_iff];constructor
  ·rintro⟨j',i,q',p,P⟩;cases P;have r :j<owner.size:=by rw[w.size];exact i
   simp[Array.getD,r]at p;simp[r,p]
  ·intro h;obtain⟨i,p⟩:=aL8.mp h;refine⟨j,by rw[w.size]at i;exact i,q,by simp[Array.getD,i,p],rfl⟩
 have up:L.Pairwise λa b=>a.1<b.1:=by
  rw[<-E,List.pairwise_filterMap];refine aMx.imp_of_mem λ{a b} _ _ s x hx y F=>?_;simp at hx F;obtain⟨c,U,rfl⟩:=hx;obtain⟨d,hd,rfl⟩:=F;exact s
 have nd:(L.map (·.2)).Nodup:=by
  rw[List.nodup_iff_pairwise_ne,List.pairwise_map];refine up.imp_of_mem λ{a b} ha A s z=>?_;have Q:=(mem a.1 a.2).mp ha;have G:=(mem b.1 b.2).mp A;rw[<-z]at G;have:=w.inj _ _ _ Q G
  lia
 have pm:(L.map (·.2)).Perm (List.range hs.size):=by
  refine(List.perm_ext_iff_of_nodup nd aM1).mpr λq=>?_;simp only[List.mem_map,List.mem_range];constructor
  ·rintro⟨a,ha,rfl⟩;have:=w.val _ _ ((mem a.1 a.2).mp ha);simpa using this
  ·intro o;obtain⟨n,B,_⟩:=w.at' q hs[q] (by simp[o]);exact⟨_,(mem _ _).mpr B,rfl⟩
 have V:L.length=hs.size:=by have:=pm.length_eq;simpa using this
 have R:(L.map (·.2)).filterMap (hs[·]?)=L.map λa=>hs.getD a.2 0:=by
  rw[List.filterMap_map]
  have:∀l:List (Nat×Nat),(∀a∈l,a.2<hs.size)->l.filterMap ((hs[·]?) ∘ (·.2))=l.map λa=>hs.getD a.2 0:=by
   intro l
   induction l with
   | nil=>intro _;rfl
   | cons a l ih=>
    intro H;have ha:=H a aK7;have p:((hs[·]?) ∘ (·.2)) a=some (hs.getD a.2 0):=by simp[Array.getD,ha]
    rw[List.filterMap_cons,p];simp only[List.map_cons];rw[ih λb A=>H b (List.mem_cons_of_mem _ A)]
  exact this L λa ha=>by have:=w.val _ _ ((mem a.1 a.2).mp ha);simpa using this
 refine⟨by simpa using pm,rfl,rfl,?_⟩;have C :((L.map (·.2)).toArray.toList.filterMap (hs[·]?))=L.map λa=>hs.getD a.2 0:=R;rw[C]
 have v:∀j,j∈L.map (·.1)↔∃q,owner[j]? =some (some q):=λj=>by
  simp only[List.mem_map];constructor
  ·rintro⟨a,ha,rfl⟩;exact⟨_,(mem _ _).mp ha⟩
  ·rintro⟨q,o⟩;exact⟨(j,q),(mem _ _).mpr o,rfl⟩
 refine⟨?_,rfl,⟨k,J,D⟩,λj i=>?_,?_,?_,?_,λq o=>?_⟩
 ·show (L.map (·.1)).Pairwise (· < ·);rw[List.pairwise_map];exact up
 ·obtain⟨q,o⟩:=(v j).mp i;have:=(aL8.mp o).1;rw[w.size]at this;show j<=M
  lia
 ·simp
 ·show (L.map (·.1)).toArray.size<=M;simp;lia
 ·show M+1<=_;simp;lia
 ·have u :q∈(L.map (·.1)).zip (L.map λa=>hs.getD a.2 0):=o;rw[List.zip_map']at u;obtain⟨a,ha,rfl⟩:=aKe.mp u;have ho:=(mem a.1 a.2).mp ha;have I:a.2<hs.size:=by have:=w.val _ _ ho;simpa using this
  have S:hs.getD a.2 0=hs[a.2]:=by simp[Array.getD,I]
  obtain⟨n,B,T⟩:=w.at' a.2 (hs.getD a.2 0) (by rw[S];simp[I]);refine⟨n,w.inj _ _ _ B ho,λm hm=>?_⟩;exact(v _).mpr (T m hm)
section
variable {prog:Program}{w:World}{K:Type}[DecidableEq K]{knd:KeyKind prog w K}{A:Around}{E:aNr}{s:Shared}
variable{Q:Bool->Shared->Prop}
theorem EA{ks:List K}{b:Addr}(g:IsTupleKey knd s.heap ks b)(h:Q false s):wpAny (model prog w) A (ofAClassStatement 8 (.ref b)) Q E s:=by
 have i:=g.typeIs;obtain⟨o,items,n,ho,_,hd,hi⟩:=g;unfold ofAClassStatement;refine aK2 (aMt i ?_);refine aK2 (m:=if ("tuple"== "tuple")=true then pure true else isSubtype (.type "tuple") (.type "tuple")) (aK3 ?_);simp only[Bool.not_true,Bool.false_eq_true,if_false];refine aK2 (aL5 ho hd ?_);refine aK2 ?_;show wpAny _ _ (forIn items _ _) _ _ s;rw[<-Array.forIn_toList];refine aLi _ (λrest r c =>r.1=none/\c =s/\∀v∈rest,carriedByValue v=true) _ ?_ ?_ _ _ ⟨rfl,rfl,hi.byValue⟩
 ·rintro v rest r c ⟨d,rfl,a⟩;have j:=a v aK7
  have e:ofAClassStatement 7 v=pure false:=by
   cases v <;> simp_all[ofAClassStatement,carriedByValue]
  rw[e];refine aK2 (aK3 ?_);simp only[Bool.false_eq_true,if_false];exact aK3 ⟨rfl,rfl,λu f =>a u (aK8 _ f)⟩
 ·rintro⟨k,l⟩ c ⟨d,rfl,_⟩;simp only at d;subst d;exact aK3 h
theorem VF{k:List K}{b:Addr}(j:IsTupleKey knd s.heap k b)(stored:List Value)(e:∀y∈stored,∃k b,y= .ref b/\IsTupleKey knd s.heap k b)(h:Q false s):wpAny (model prog w) A (searchCouldBeSeen (.ref b) stored) Q E s:=by
 unfold searchCouldBeSeen;refine aK2 ?_;refine aLi _ (λrest r f =>r.1=none/\f =s/\∀y∈rest,∃k b,y= .ref b/\IsTupleKey knd s.heap k b) _ ?_ ?_ _ _ ⟨rfl,rfl,e⟩
 ·rintro v rest r f ⟨g,rfl,c⟩;obtain⟨l,m,rfl,d⟩:=c v aK7;have a :=λu i =>c u (aK8 _ i);dsimp only;split
  ·exact aK3 ⟨rfl,rfl,a⟩
  ·refine aK2 (wpAny_eqIsQuiet_tuple j ?_);simp only[Bool.not_true,Bool.false_eq_true,if_false];refine aK2 (wpAny_eqIsQuiet_tuple d ?_);simp only[Bool.not_true,Bool.false_eq_true,if_false];refine aK2 (EA j ?_);simp only[Bool.false_eq_true,if_false];refine aK2 (EA d ?_);simp only[Bool.false_eq_true,if_false];exact aK3 ⟨rfl,rfl,a⟩
 ·rintro⟨n,o⟩ f ⟨g,rfl,_⟩;simp only at g;subst g;exact aK3 h
theorem byValue{k:List K}{b:Addr}(hsc:∀k v,knd.is k v=true->v.scannable=true)(f:IsTupleKey knd s.heap k b)(h:∀r,Q r s):wpAny (model prog w) A (hashByValue 8 (.ref b)) Q E s:=by
 have g:=f.typeIs;obtain⟨o,items,n,ho,_,hd,hi⟩:=f
 have a:∀v∈items.toList,v.scannable=true:=by
  clear hd;generalize items.toList=vs at hi
  induction hi with
  | nil=>intro v hv;cases hv
  | cons i _ j=>
   intro v hv;rcases aKd.mp hv with rfl | hv
   ·exact hsc _ _ i
   ·exact j v hv
 unfold hashByValue;refine aK2 (aLw g aM9.lookup ?_);dsimp only;refine aK2 (aL5 ho hd ?_);refine aK2 ?_;show wpAny _ _ (forIn items _ _) _ _ s;rw[<-Array.forIn_toList];refine aLi _ (λrest r c =>r.1=none/\c =s/\∀v∈rest,v.scannable=true) _ ?_ ?_ _ _ ⟨rfl,rfl,a⟩
 ·rintro v rest r c ⟨d,rfl,a⟩;rw[hashByValue_scannable 7 (a v List.mem_cons_self)];refine aK2 (aK3 ?_);split
  ·exact aK3 (aK3 (h _))
  ·exact aK3 ⟨rfl,rfl,λu e =>a u (aK8 _ e)⟩
 ·rintro⟨l,m⟩ c ⟨d,rfl,_⟩;simp only at d;subst d;exact aK3 (h _)
end
section
variable {prog:Program}{w:World}{K:Type}[DecidableEq K]{knd:KeyKind prog w K}{A:Around}{E:aNr}{s:Shared}
def NQ(knd:KeyKind prog w K)(p:List K×Addr):Int×Value:=(tupleKeyHash knd p.1,.ref p.2)
structure IK(knd:KeyKind prog w K)(h:Heap)(a:Addr)(o:Obj)(es:Array (Int×Value))(ep:Nat)(t:SetTable)(ps:List (List K×Addr)):Prop where
 ho:h.get? a=some o
 hx:o.ExactSet
 hd:o.data= .set es ep t
 he:es.toList=ps.map (NQ knd)
 is:∀p∈ps,IsTupleKey knd h p.1 p.2
 tb:Tb t (ps.map λp=>tupleKeyHash knd p.1)
variable {a:Addr}{o:Obj}{es:Array (Int×Value)}{ep:Nat}{t:SetTable}{ps:List (List K×Addr)}
theorem IK.size(S:IK knd s.heap a o es ep t ps):es.size=ps.length:=by
 have:=aL4 List.length S.he;simpa using this
theorem IK.fits(S:IK knd s.heap a o es ep t ps):t.fits es.size=true:=S.tb.fits (by rw[S.size];simp)
theorem IK.at'(S:IK knd s.heap a o es ep t ps)(h:t.place[i]? =some j):∃p,ps[i]? =some p/\es[i]? =some (NQ knd p):=by
 have c:=S.tb.len;have hi:=(aL8.mp h).1;simp at c;have b:i<ps.length:=by lia
 refine⟨ps[i],by simp[b],?_⟩;rw[<-Array.getElem?_toList,S.he,List.getElem?_map];simp[b]
theorem IK.absent(S:IK knd s.heap a o es ep t ps){k:List K}{F:Nat}(b:(eE t.mask (tupleKeyHash knd k) F).j∉t.place.toList)
  (l:∀m,m<F->∃(i:Nat) (p:List K×Addr),t.place[i]? =some (eE t.mask (tupleKeyHash knd k) m).j/\ps[i]? =some p/\p.1≠k):k∉ps.map (·.1):=by
 intro hm;obtain⟨p,q,rfl⟩:=aKe.mp hm;obtain⟨i,hi⟩:=aKv.mp q;have r:=S.tb.len;simp at r;have u:=(aK5.mp hi).1;have v :t.place[i]? =some (t.place[i]'(by lia)):=by simp[show i<t.place.size by lia]
 obtain⟨n,c,e⟩:=S.tb.reach (t.place[i]'(by lia),tupleKeyHash knd p.1) (by
  refine aKv.mpr ⟨i,?_⟩;rw[List.getElem?_zip_eq_some]
  exact⟨by simp[show i<t.place.size by lia],by simp[hi]⟩)
 simp only at c e
 have w:n<F:=by
  apply aKf;intro z;rcases aMo (aMe z) with z | z
  ·exact b (e F z)
  ·rw[z,c]at b;exact b (by simp)
 obtain⟨f,A,g,h,x⟩:=l n w;rw[c]at g
 have d :=(aL8.mp g)
 have:f =i:=by
  obtain⟨y,B⟩:=d;rcases aMy f i with z | z | z
  ·have:=vY S.tb.S4 z (by lia);lia
  ·exact z
  ·have:=vY S.tb.S4 z y;lia
 subst this;rw[hi]at h;cases h;exact x rfl
theorem JE{k:List K}{b:Addr}{Q:SetFound->Shared->Prop}{F:Nat}(C:A.units<cLine)(S:IK knd s.heap a o es ep t ps)(B:IsTupleKey knd s.heap k b)(D:(eE t.mask (tupleKeyHash knd k) F).j∉t.place.toList)
  (N:∀n,n<F->(eE t.mask (tupleKeyHash knd k) n).j∈t.place.toList) (W:F<10*turns t.mask) (G:k∈ps.map (·.1)->Q (.there none) s) (O:k∉ps.map (·.1)->Q (.free (eE t.mask (tupleKeyHash knd k) F).j false) s):
  ∀fuel n g,g.getD (t.probeStart (tupleKeyHash knd k))=eE t.mask (tupleKeyHash knd k) n->n<=F->F<n+fuel->
   (∀m,m<n->∃(i:Nat) (p:List K×Addr),t.place[i]? =some (eE t.mask (tupleKeyHash knd k) m).j/\ps[i]? =some p/\p.1≠k)->wpAny (model prog w) A (setSearchFrom a (.ref b) (tupleKeyHash knd k) true fuel g) Q E s
 | 0,n,g,_,h3,h4,_=>by lia
 | fuel+1,n,g,hst,h3,h4,hno=>by
  unfold setSearchFrom;refine aK2 (aL3 S.ho S.hd S.fits ?_);dsimp only;rw[S.tb.odd,if_neg Bool.false_ne_true];rw[hst]
  have P:∀m i:Nat,t.place[i]? =some (eE t.mask (tupleKeyHash knd k) m).j->(es[i]?.map (·.1)).getD 0≠tupleKeyHash knd k->∃(i:Nat) (p:List K×Addr),t.place[i]? =some (eE t.mask (tupleKeyHash knd k) m).j/\ps[i]? =some p/\p.1≠k:=λm i h u=>by
   obtain⟨p,l,q⟩:=S.at' h;exact⟨i,p,h,l,λz=>u (by rw[q,<-z];rfl)⟩
  rcases D4 S.tb (hashAt:=λi=>(es[i]?.map (·.1)).getD 0) D N (10*turns t.mask) n h3 (by lia) with ⟨r,i,R,T,U,v,a4,a5,a6⟩ | ⟨R,T⟩
  ·have e:∀f:Nat->Int,(∀i,f i=(es[i]?.map (·.1)).getD 0)->t.probe f (tupleKeyHash knd k) (eE t.mask (tupleKeyHash knd k) n)=some (.candidate (eE t.mask (tupleKeyHash knd k) r).j i (eE t.mask (tupleKeyHash knd k) (r+1))):=λf H=>by rw[funext H];exact a5
   rw[e]
   ·dsimp only;obtain⟨p,l,q⟩:=S.at' U;have V:=S.is p (aK9 l)
    have step:p.1≠k->wpAny (model prog w) A (setSearchFrom a (.ref b) (tupleKeyHash knd k) true fuel (some (eE t.mask (tupleKeyHash knd k) (r+1)))) Q E s:=λI=>
     JE C S B D N W G O fuel (r+1) _ rfl (by lia) (by lia) λm hm=>by
      by_cases c:m<n
      ·exact hno m c
      ·by_cases d:m<r
       ·obtain⟨J,h,u⟩:=a6 m (by lia) d;exact P m J h u
       ·have:m=r:=by lia
        subst this;exact⟨i,p,U,l,I⟩
    refine aN8 (λ_=>?_) (λ_=>?_)
    ·refine aK2 (VF B _ (λy X=>?_) ?_)
     ·obtain⟨Y,L,rfl⟩:=aKe.mp X
      have x:Y ∈es.toList:=by
       have:=Array.mem_toList_iff.mp L;exact Array.mem_toList_iff.mpr (Array.mem_of_mem_filter this)
      rw[S.he]at x;obtain⟨Z,M,rfl⟩:=aKe.mp x;exact⟨_,_,rfl,S.is Z M⟩
     ·simp only[Bool.false_eq_true,if_false];rw[q];dsimp only[NQ];refine aK2 (aKq (wpAny_eqBool_tuple C V B ?_));refine aK2 (aL3 S.ho S.hd S.fits ?_);dsimp only;by_cases c:p.1=k
      ·rw[decide_eq_true c];exact aK3 (G (by rw[<-c];exact aKz (aK9 l)))
      ·rw[decide_eq_false c];simp only[Bool.and_false,Bool.false_eq_true,if_false,SetTable.sameMemory,beq_self_eq_true,if_true,v];rw[q];dsimp only[NQ];refine aK2 (wpAny_isSame_ref_self ?_);simp only[if_true];exact aK2 (aK3 (step c))
    ·rw[q];dsimp only[NQ];refine aK2 (aKq (wpAny_eqBool_tuple C V B ?_));refine aK2 (aL3 S.ho S.hd S.fits ?_);dsimp only;by_cases c:p.1=k
     ·rw[decide_eq_true c];exact aK3 (G (by rw[<-c];exact aKz (aK9 l)))
     ·rw[decide_eq_false c];simp only[Bool.and_false,Bool.false_eq_true,if_false,SetTable.sameMemory,beq_self_eq_true,if_true,v];rw[q];dsimp only[NQ];refine aK2 (wpAny_isSame_ref_self ?_);simp only[if_true];exact aK2 (aK3 (step c))
   ·intro i;rfl
  ·have e:∀f:Nat->Int,(∀i,f i=(es[i]?.map (·.1)).getD 0)->t.probe f (tupleKeyHash knd k) (eE t.mask (tupleKeyHash knd k) n)=some (.empty (eE t.mask (tupleKeyHash knd k) F).j none):=λf H=>by rw[funext H];exact R
   rw[e]
   ·dsimp only;refine aK3 (O (S.absent D λm hm=>?_));by_cases c:m<n
    ·exact hno m c
    ·obtain⟨J,h,u⟩:=T m (by lia) hm;exact P m J h u
   ·intro i;rfl
end
section
variable {prog:Program}{w:World}{K:Type}[DecidableEq K]{knd:KeyKind prog w K}{A:Around}{E:aNr}{s:Shared}{a:Addr}
variable{es:Array (Int×Value)}
theorem QW{h h' :Heap}{k:List K}{b:Addr}{o:Obj}{ep:Nat}{t:SetTable}(x:IsTupleKey knd h k b)(ho:h.get? a=some o)(hd:o.data= .set es ep t)(hs:Heap.SameBut a h h'):IsTupleKey knd h' k b:=by
 obtain⟨o',items,n,d,f,c,hi⟩:=x
 have e:b≠a:=by
  rintro rfl;obtain rfl:o' =o:=aKn (d.symm.trans ho);rw[hd]at c;exact nomatch c
 exact⟨o',items,n,(hs.2 b e).trans d,f,c,hi⟩
def F1(knd:KeyKind prog w K)(Ad:List K->Addr->Prop)(l:Bool)(h:Heap)(a:Addr)(ks:List (List K)):Prop:=
 ∃o es ep t ps,IK knd h a o es ep t ps/\(ps.map (·.1)).Perm ks/\ks.Nodup/\t.led=l/\t.place.size*5<t.mask*3/\∀p∈ps,Ad p.1 p.2
variable {Ad:List K->Addr->Prop}{l:Bool}
theorem IK.store{o:Obj}{es b :Array (Int×Value)}{ep:Nat}{t t' :SetTable}{ps c :List (List K×Addr)}(S:IK knd s.heap a o es ep t ps)(he:b.toList=c.map (NQ knd))(e:∀p∈c,IsTupleKey knd s.heap p.1 p.2)(tb:Tb t' (c.map λp=>tupleKeyHash knd p.1)):
  IK knd (s.heap.update a (Obj.putSet b t')) a {o with data:= .set b (ep+1) t'} b (ep+1) t' c :=by
 have hg:(s.heap.update a (Obj.putSet b t')).get? a=some {o with data:= .set b (ep+1) t'}:=by
  have:=aLq (Obj.putSet b t') S.ho (by rw[putSet_of b t' S.hd];rfl);rw[putSet_of b t' S.hd]at this;exact this
 exact⟨hg,S.hx,rfl,he,λp d =>QW (e p d) S.ho S.hd (aKw _ _ _),tb⟩
theorem ZT{o:Obj}{ep:Nat}{t:SetTable}{ps:List (List K×Addr)}{Q:Unit->Shared->Prop}(S:IK knd s.heap a o es ep t ps)(C:0<ps.length)(D:ps.length<=1000)
  (q:∀h' o' f g t' c,Heap.SameBut a s.heap h' ->IK knd h' a o' f g t' c ->c.Perm ps->t'.led=t.led->t'.place.size*5<t'.mask*3->Q () {s with heap:=h'}):
  wpAny (model prog w) A (setRelay a (grown ps.length)) Q E s:=by
 have sz:=S.size;have m:grown ps.length=ps.length*4:=by unfold grown;rw[if_neg (by lia)]
 have big:(1000*4:Nat)<2^64:=by decide
 obtain⟨i,r,l,F,G⟩:=SH (n:=ps.length*4) (by lia);have H:=PySem.sizeLine_eq;unfold setRelay;refine aK2 (aL3 S.ho S.hd S.fits ?_);dsimp only;rw[m,l,if_neg (by lia)];obtain⟨t',b,u,v,I,x,y⟩:=V5 (M:=2^i-1) (k:=i) r (by lia) (es.map (·.1)) (by simp;lia) (by simp;lia) t.finger (t.movedTo (2^i-1)) t.led t.plain;have z:t.relaid (es.map (·.1)) (ps.length*4)=some (t',b):=by unfold relaid;rw[l];exact u
 rw[z]
 have pm:(b.toList.filterMap (ps[·]?)).Perm ps:=by
  have e:=v.filterMap (ps[·]?)
  have h:(List.range (es.map (·.1)).size).filterMap (ps[·]?)=ps:=by
   have:=sC ps;simpa[sz] using this
  rw[h]at e;exact e
 have d :(b.filterMap (es[·]?)).toList=(b.toList.filterMap (ps[·]?)).map (NQ knd):=by
  rw[Array.toList_filterMap,List.map_filterMap];congr 1;funext j;rw[<-Array.getElem?_toList,S.he,List.getElem?_map]
 have hs:(b.filterMap (es[·]?)).size=es.size:=by
  rw[<-Array.length_toList,d,List.length_map,pm.length_eq,sz]
 have tb:Tb t' ((b.toList.filterMap (ps[·]?)).map λp=>tupleKeyHash knd p.1):=by
  have:(b.toList.filterMap (ps[·]?)).map (λp=>tupleKeyHash knd p.1)=b.toList.filterMap ((es.map (·.1))[·]?):=by
   rw[List.map_filterMap];congr 1;funext j;rw[Array.getElem?_map,<-Array.getElem?_toList,S.he,List.getElem?_map,Option.map_map];rfl
  rw[this];exact y
 refine aK2 (aNi (a:=(b.filterMap (es[·]?),t')) ?_ ?_)
 ·show (if ((b.filterMap (es[·]?)).size !=es.size)=true then _ else _)=_;rw[if_neg (by simp[hs])]
 ·dsimp only;refine wpAny_storeSet_of S.ho S.hd (q _ _ _ _ _ _ (aKw _ _ _) (S.store d (λp B=>S.is p (pm.mem_iff.mp B)) tb) pm x ?_) (by lia);have e:=tb.len;have h:=pm.length_eq;rw[List.length_map,h]at e
  lia
def kW(ks:List (List K))(k:List K):List (List K):=if k∈ks then ks else ks++[k]
theorem aJr{k:List K}{b:Addr}{ks:List (List K)}{Q:Bool->Shared->Prop}(hu:A.units<cLine)(hsc:∀k v,knd.is k v=true->v.scannable=true)(P:IsTupleKey knd s.heap k b)(ha:Ad k b)(S:F1 knd Ad l s.heap a ks)(hl:ks.length<1000)
  (q:∀r h',Heap.SameBut a s.heap h' ->F1 knd Ad l h' a (kW ks k)->Q r {s with heap:=h'}):wpAny (model prog w) A (setAddHashed a (.ref b) (tupleKeyHash knd k)) Q E s:=by
 obtain⟨o,es,ep,t,ps,S,pm,nd,h,C,D⟩:=S;have ln:=pm.length_eq;simp at ln;obtain⟨F,hF,f1,f2⟩:=S.tb.first (tupleKeyHash knd k);have sm:=S.tb.small;have tl:=S.tb.len;simp at sm tl;unfold setAddHashed;refine aKq ?_;unfold setAddHashedIn;refine aK2 (aL3 S.ho S.hd S.fits ?_);dsimp only;rw[if_neg (by simp[byScan,Value.scannable])];refine aK2 ?_;unfold setSearch;refine JE hu S P f1 f2 hF (λhm=>?_) (λhm=>?_) 100000 0 none rfl (by lia) (by unfold turns at hF;lia) (λm hm=>by lia)
 ·dsimp only;refine aK3 ?_;have e:s={s with heap:=s.heap}:=by cases s;rfl
  have g:k∈ks:=pm.mem_iff.mp hm;have:=q false s.heap (Heap.SameBut.refl a s.heap) ⟨o,es,ep,t,ps,S,by unfold kW;rw[if_pos g];exact pm,by unfold kW;rw[if_pos g];exact nd,h,C,D⟩;rw[e];exact this
 ·dsimp only;have g:k∉ks:=λz=>hm (pm.mem_iff.mpr z);refine aK2 (aL3 S.ho S.hd S.fits ?_);dsimp only;obtain⟨tb,R,d,f⟩:=S.tb.put f1 f2 (by lia);generalize hput:t.put (eE t.mask (tupleKeyHash knd k) F).j=pt at tb R d f⊢;obtain⟨t1,c⟩:=pt;dsimp only at tb R d f⊢;have p1l:c<=ps.length:=by simpa using R
  have sz:=S.size;have T:((ps.map λp=>tupleKeyHash knd p.1).take c++tupleKeyHash knd k::(ps.map λp=>tupleKeyHash knd p.1).drop c)=(ps.take c++(k,b)::ps.drop c).map λp=>tupleKeyHash knd p.1:=by simp[List.map_take,List.map_drop]
  rw[T]at tb
  have G :(insertAt es c (tupleKeyHash knd k,Value.ref b)).toList=(ps.take c++(k,b)::ps.drop c).map (NQ knd):=by
   rw[nU _ _ _ (by lia),S.he];simp[List.map_take,List.map_drop,NQ]
  have mem:∀p,p∈ps.take c++(k,b)::ps.drop c↔p∈ps\/p=(k,b):=λp=>by
   rw[List.mem_append,List.mem_cons];have:=List.take_append_drop c ps
   conv=>rhs;rw[<-this,List.mem_append]
   constructor
   ·rintro(z | z | z);exact .inl (.inl z);exact .inr z;exact .inl (.inr z)
   ·rintro((z | z) | z);exact .inl z;exact .inr (.inr z);exact .inr (.inl z)
  have H:((ps.take c++(k,b)::ps.drop c).map (·.1)).Perm (kW ks k):=by
   unfold kW;rw[if_neg g]
   have h1:(ps.take c++(k,b)::ps.drop c).Perm (ps++[(k,b)]):=by
    have:(ps.take c++(k,b)::ps.drop c).Perm ((k,b)::(ps.take c++ps.drop c)):=List.perm_middle;rw[List.take_append_drop]at this;exact this.trans (List.perm_append_comm (l₁:=[(k,b)]))
   have h2:=h1.map (·.1);have h3:((ps++[(k,b)]).map (·.1)).Perm (ks++[k]):=by rw[List.map_append];exact pm.append_right [k]
   exact h2.trans h3
  have I:(kW ks k).Nodup:=by
   unfold kW;rw[if_neg g,List.nodup_append];exact⟨nd,by simp,λx hx y hy=>by simp at hy;subst hy;exact λz=>g (z▸hx)⟩
  have i:(ps.take c++(k,b)::ps.drop c).length=ps.length+1:=by simp;lia
  have esz:(insertAt es c (tupleKeyHash knd k,Value.ref b)).size=ps.length+1:=by rw[<-Array.length_toList,G,List.length_map,i]
  have zl:=PySem.sizeLine_eq
  have U:∀p∈ps.take c++(k,b)::ps.drop c,IsTupleKey knd s.heap p.1 p.2:=λp J=>by
   rcases(mem p).mp J with z | z
   ·exact S.is p z
   ·rw[z];exact P
  have L:∀p∈ps.take c++(k,b)::ps.drop c,Ad p.1 p.2:=λp J=>by
   rcases(mem p).mp J with z | z
   ·exact D p z
   ·rw[z];exact ha
  have n:∀u:SetTable,Tb u ((ps.take c++(k,b)::ps.drop c).map λp=>tupleKeyHash knd p.1)->u.mask=t.mask->u.led=t.led->
    wpAny (model prog w) A (do
     storeSet a (insertAt es c (tupleKeyHash knd k,Value.ref b)) u
     if (!false && u.tooFull)=true then do setRelay a (grown (es.size+1));pure true else pure true) Q E s:=λu B m2 l2=>by
   refine aK2 (wpAny_storeSet_of S.ho S.hd ?_ (by lia));have S1:=S.store (s:=s) G U B;have M:=aKw s.heap a (Obj.putSet (insertAt es c (tupleKeyHash knd k,Value.ref b)) u);have V :=B.len;rw[List.length_map,i]at V;split
   ·rename_i hfull;rw[sz,<-i];refine aK2 (ZT (s:={s with heap:=s.heap.update a (Obj.putSet (insertAt es c (tupleKeyHash knd k,Value.ref b)) u)}) S1 (by lia) (by lia) λh' o' W X t' Y Z S2 N l3 O=>?_);exact aK3 (q true h' (M.trans Z) ⟨o',W,X,t',Y,S2,(N.map _).trans H,I,by rw[l3,l2];exact h,O,λp J=>L p (N.mem_iff.mp J)⟩)
   ·rename_i hfull
    have hf2:u.place.size*5<u.mask*3:=by
     simp[SetTable.tooFull,SetTable.fill,B.dum]at hfull;exact hfull
    exact aK3 (q true _ M ⟨_,_,_,_,_,S1,H,I,by rw[l2];exact h,hf2,L⟩)
  split
  ·refine aK2 (byValue hsc P λr=>?_)
   cases r with
   | true=>exact n t1 tb d f
   | false=>exact n _ (tb.plain false) d f
  ·exact aK2 (aK3 (n t1 tb d f))
end
section
variable {prog:Program}{w:World}{K:Type}[DecidableEq K]{knd:KeyKind prog w K}{A:Around}{E:aNr}{s:Shared}{a:Addr}{Ad:List K->Addr->Prop}{l:Bool}
theorem HM{h:Heap}(ho:h.get? a=some {cls:= .type "set",dict:=none,data:= .set #[] 0 (.fresh 0 0 (eV w))}):F1 knd Ad (eV w) h a []:=
 ⟨_,#[],0,_,[],⟨ho,⟨rfl,rfl,rfl⟩,rfl,rfl,by simp,.fresh 0 0 _⟩,by simp,by simp,rfl,by simp[SetTable.fresh],by simp⟩
def eC(ks:List (List K))(xs:List (List K)):List (List K):=xs.foldl kW ks
theorem jU:∀(xs ks:List (List K)),(eC ks xs).length<=ks.length+xs.length
 | [],ks=>by simp[eC]
 | x::xs,ks=>by
  have a:=jU xs (kW ks x);have b:(kW ks x).length<=ks.length+1:=by unfold kW;split <;> simp
  simp only[eC,List.foldl_cons,List.length_cons]at*
  lia
theorem tR{j:List K}:∀{xs ks:List (List K)},j∈eC ks xs↔j∈ks\/j∈xs
 | [],ks=>by simp[eC]
 | x::xs,ks=>by
  have:=tR (j:=j) (xs:=xs) (ks:=kW ks x);simp only[eC,List.foldl_cons]at*;rw[this];unfold kW;split
  ·rename_i h;simp only[List.mem_cons];constructor
   ·rintro(z | z);exact .inl z;exact .inr (.inr z)
   ·rintro(z | z | z);exact .inl z;exact .inl (z▸h);exact .inr z
  ·simp[or_assoc]
theorem F1.keep{h h' :Heap}{ks:List (List K)}{x:Addr}(S:F1 knd Ad l h a ks)(k:∀b o,b≠x->h.get? b=some o->h'.get? b=some o)(ha:a≠x)(hx:∀k b,Ad k b->b≠x):F1 knd Ad l h' a ks:=by
 obtain⟨o,es,ep,t,ps,S,f,g,i,j,c⟩:=S;refine⟨o,es,ep,t,ps,⟨k _ _ ha S.ho,S.hx,S.hd,S.he,λp d=>?_,S.tb⟩,f,g,i,j,c⟩;obtain⟨o',aL,n,e,r⟩:=S.is p d;exact⟨o',aL,n,k _ _ (hx _ _ (c p d)) e,r⟩
theorem GH{c:Addr}{items:Array Value}{xs:List (List K)}{Q:aNr}(O:A.units+3<cLine)(hsc:∀k v,knd.is k v=true->v.scannable=true)
  (I:A.handled=none) (J:s.heap.IsList c items\/s.heap.IsTuple c items) (hx:xs.length=items.size) (hi:∀(i:Nat) (v:Value),items[i]? =some v->∃k b,xs[i]? =some k/\v= .ref b/\IsTupleKey knd s.heap k b/\Ad k b) (x:∀k b,Ad k b->b<s.heap.objs.size) (P:items.size<1000)
  (h:∀(h' :Heap) (y:Nat),F1 knd Ad (eV w) h' s.heap.objs.size (eC [] xs)->
   (∀b o,b<s.heap.objs.size->s.heap.get? b=some o->h'.get? b=some o)->Q (.ref s.heap.objs.size) {s with heap:=h',toks:=y}):
  wpAny (model prog w) A (call (.type "set") [.ref c]) Q E s:=by
 refine ZL I J (λi h=>F1 knd Ad (eV w) h s.heap.objs.size (eC [] (xs.take i))/\∀(j:Nat) (v:Value),items[j]? =some v->∃k b,xs[j]? =some k/\v= .ref b/\IsTupleKey knd h k b/\Ad k b)
  (λi h h' v k=>⟨v.1.keep k (aKg (aL2 _)) (λk b z=>by have:=x k b z;lia),λj L e=>?_⟩) (λi v G R S H l q=>?_) (λh' e k=>⟨HM e,λj v e=>?_⟩) λh' y l k=>h h' y (by have:=l.1;rw[List.take_of_length_le (by lia)]at this;exact this) k
 ·obtain⟨a,b,m,p,⟨o,aL,n,t,r⟩,g⟩:=v.2 j L e;exact⟨a,b,m,p,⟨o,aL,n,k b o (by have:=x a b g;lia) t,r⟩,g⟩
 ·obtain⟨a,b,B,rfl,d,C⟩:=l.2 i v H;have M:i<items.size:=(aL8.mp H).1;unfold setAdd;refine aKq (aK2 (wpAny_pyHash_tuple (show A.units+1+1+1<cLine by lia) d ?_));have N:(eC [] (xs.take i)).length<1000:=by have:=jU (xs.take i) [];simp at this;lia
  refine aJr (s:={G with toks:=G.toks+(a.length+1)}) (show A.units+1+1+1<cLine by lia) hsc d C l.1 N λr h' u D=>q r _ h' (by simp) u ⟨?_,λj v e=>?_⟩
  ·rw[List.take_add_one,B];simpa[eC] using D
  ·obtain⟨f,F,m,p,⟨o,aL,n,t,r⟩,g⟩:=l.2 j v e;exact⟨f,F,m,p,⟨o,aL,n,(u.2 F (by have:=x f F g;lia)).trans t,r⟩,g⟩
 ·obtain⟨a,b,m,p,⟨o,aL,n,t,r⟩,g⟩:=hi j v e;exact⟨a,b,m,p,⟨o,aL,n,k b o t,r⟩,g⟩
end
end ST
namespace L2
open PySem PySem.Spec PyProof.Rows
def kT:List (Str×NameKind)->List (Str×Addr)->List (Str×Addr)->List (Str×Addr)
 | [],_,acc=>acc
 | (n,k)::r,cells,acc=>kT r cells (if k== .free then (n,(cells.lookup n).getD 0)::acc else acc)
theorem AE{env:Env}:∀(names:List (Str×NameKind)) (b:List (Str×Addr)),(∀x∈names,x.2= .free->∃c,env.cells.lookup x.1=some c)->
  (forIn names b λ(x:Str×NameKind) (cs:List (Str×Addr))=>(if (x.2==NameKind.free)=true then do let a<-cellOf env x.1;pure (ForInStep.yield ((x.1,a)::cs)) else pure (ForInStep.yield cs):Sem _))=(pure (kT names env.cells b):Sem _)
 | [],b,_=>by simp[kT]
 | (n,k)::r,b,h=>by
  have f:=λd =>AE (env:=env) r d λx hx=>h x (aK8 _ hx);rw[List.forIn_cons];by_cases g:k= .free
  ·subst g;obtain⟨c,i⟩:=h (n,.free) aK7 rfl;have e :env.cells.lookup n=some c:=i;simp only[kT,beq_self_eq_true,if_true,cellOf,e,pure_bind,Option.getD_some];exact f _
  ·have j:(k==NameKind.free)=false:=by simpa using g
   simp only[kT,j,Bool.false_eq_true,if_false,pure_bind];exact f _
variable{scope:Scope}{env:Env}
theorem yM(h:∀x∈scope.names,x.2= .free->∃c,env.cells.lookup x.1=some c):closureFor scope env=pure (kT scope.names env.cells []):=by
 have e:=AE (env:=env) scope.names [] h;unfold closureFor;simp only[bind_pure_comp]at e⊢
 first
  | (rw[<-e];rfl)
  | (simp at e⊢;rw[<-e];rfl)
  | (simp at e⊢;exact e)
theorem AF{cells:List (Str×Addr)}{P:Str->Addr->Prop}:∀(names:List (Str×NameKind)) (a:List (Str×Addr)),(∀x∈a,P x.1 x.2)->(∀n,(n,NameKind.free)∈names->P n ((cells.lookup n).getD 0))->∀x∈kT names cells a,P x.1 x.2
 | [],a,h,_,x,hx=>h x hx
 | (n,k)::r,a,h,b,x,hx=>by
  refine AF (cells:=cells) r _ (λy hy=>?_) (λm hm=>b m (aK8 _ hm)) x hx;by_cases c:k= .free
  ·subst c;simp only[beq_self_eq_true,if_true]at hy;rcases aKd.mp hy with rfl | hy
   ·exact b n aK7
   ·exact h y hy
  ·have d:(k==NameKind.free)=false:=by simpa using c
   simp only[d,Bool.false_eq_true,if_false]at hy;exact h y hy
theorem cP{a:Type}:∀{l:List (Str×a)} {n:Str} {c:a},(n,c)∈l->∃b,l.lookup n=some b
 | (k,v)::r,n,c,h=>by
  rw[List.lookup_cons]
  cases hb:n==k with
  | true=>exact⟨v,rfl⟩
  | false=>
   rcases aKd.mp h with e | h
   ·injection e with d _;rw[d]at hb;simp at hb
   ·exact cP h
theorem t8{cells:List (Str×Addr)}:∀(names:List (Str×NameKind)) (a:List (Str×Addr)) (x:Str×Addr),x∈a->x∈kT names cells a
 | [],_,_,h=>h
 | (n,k)::r,a,x,h=>by
  refine t8 r _ x ?_;by_cases b:(k==NameKind.free)=true
  ·rw[if_pos b];exact aK8 _ h
  ·rw[if_neg b];exact h
theorem AG{cells:List (Str×Addr)}:∀(names:List (Str×NameKind)) (a:List (Str×Addr)) (n:Str),(n,NameKind.free)∈names->∃c,(n,c)∈kT names cells a
 | (m,k)::r,a,n,h=>by
  rcases aKd.mp h with e | h
  ·injection e with b d;subst b d;exact⟨(cells.lookup n).getD 0,t8 r _ _ (by simp)⟩
  ·exact AG r _ n h
theorem qX{x:Str}{b :NameKind}:(relabel scope env).names.lookup x=some b ->∃k,scope.names.lookup x=some k/\(b =k\/(k= .free/\b = .cell)):=by
 unfold relabel;dsimp only;generalize scope.names=l
 induction l with
 | nil=>intro h;simp at h
 | cons p r ih=>
  obtain⟨n,k⟩:=p;intro h;rw[List.map_cons]at h;by_cases a:(k==NameKind.free && env.scope.kind== .function && env.kindOf n==some .cell)=true
  ·simp only[a,if_true,List.lookup_cons]at h⊢
   cases hb:x==n with
   | true=>
    rw[hb]at h;simp only[Bool.and_eq_true,beq_iff_eq]at a;exact⟨k,rfl,.inr ⟨a.1.1,(aKn h).symm⟩⟩
   | false=>rw[hb]at h;exact ih h
  ·have c :(k==NameKind.free && env.scope.kind== .function && env.kindOf n==some .cell)=false:=by simpa using a
   simp only[c,Bool.false_eq_true,if_false,List.lookup_cons]at h⊢
   cases hb:x==n with
   | true=>rw[hb]at h;exact⟨k,rfl,.inl (aKn h).symm⟩
   | false=>rw[hb]at h;exact ih h
theorem A3{x:Str}:scope.names.lookup x=some .free->(relabel scope env).names.lookup x=some .cell\/(relabel scope env).names.lookup x=some .free:=by
 unfold relabel;dsimp only;generalize scope.names=l
 induction l with
 | nil=>intro h;simp at h
 | cons p r ih=>
  obtain⟨n,k⟩:=p;intro h;rw[List.map_cons];rw[List.lookup_cons]at h
  cases hb:x==n with
  | true=>
   rw[hb]at h;have c:k= .free:=aKn h;subst c;by_cases b:(NameKind.free==NameKind.free && env.scope.kind== .function && env.kindOf n==some .cell)=true
   ·simp only[b,if_true,List.lookup_cons,hb];first | exact .inl rfl | exact .inl trivial
   ·have a :(NameKind.free==NameKind.free && env.scope.kind== .function && env.kindOf n==some .cell)=false:=by simpa using b
    simp only[a,Bool.false_eq_true,if_false,List.lookup_cons,hb];first | exact .inr rfl | exact .inr trivial
  | false=>
   rw[hb]at h;by_cases b:(k==NameKind.free && env.scope.kind== .function && env.kindOf n==some .cell)=true
   ·simp only[b,if_true,List.lookup_cons,hb];exact ih h
   ·have a :(k==NameKind.free && env.scope.kind== .function && env.kindOf n==some .cell)=false:=by simpa using b
    simp only[a,Bool.false_eq_true,if_false,List.lookup_cons,hb];exact ih h
def aZ(X:Cx)(own:List Str)(aO:List Nat)(scope:Scope)(cl:List (Str×Addr))(C:Addr)(fp:List Addr)(s₀:Shared)(H₀:Hp):Cx where
 prog:=X.prog
 w:=X.w
 K:=X.K
 mg:=X.mg
 base:=X.base
 A:=X.A
 N:=own++aO.map λi=>X.N.getD i ""
 s₀:=s₀
 H₀:=H₀
 env:=compEnvC scope cl C X.env
 outer:=X.stack
 stack:=X.stack
 ex:=fp
 fn:=λx=>scope.names.lookup x==some .cell
 calm:=X.calm
 pn:=[]
 xe:=λ_ _=>False
def sP(own:List Str)(aO:List Nat)(σ:St):St:=own.map (λ_=>none)++aO.map λi=>(σ[i]?).join
def gQ(N:List Str)(sc scope:Scope)(aO:List Nat):Bool:=
 scope.kind== .function && scope.names.all (λy=>y.2 != .cell || scope.names.lookup y.1==some .cell) && scope.names.all (λy=>y.2 != .local || scope.names.lookup y.1==some .local) &&
 scope.names.all (λy=>y.2 != .free || (scope.names.lookup y.1==some .free && (sc.names.lookup y.1==some .cell || sc.names.lookup y.1==some .free))) &&
 aO.all (λi=>match N[i]? with | some x=>scope.names.lookup x==some .free | none=>false)
structure IP(X:Cx)(scope:Scope)(aO:List Nat):Prop where
 kind:scope.kind= .function
 cel:∀y∈scope.names,y.2= .cell->scope.names.lookup y.1=some .cell
 loc:∀y∈scope.names,y.2= .local->scope.names.lookup y.1=some .local
 fre:∀y∈scope.names,y.2= .free->scope.names.lookup y.1=some .free
 fr:∀y∈scope.names,y.2= .free->X.env.kindOf y.1=some .cell\/X.env.kindOf y.1=some .free
 cap:∀i∈aO,∃x,X.N[i]? =some x/\scope.names.lookup x=some .free
variable{X:Cx}{sc:Scope}{N:List Str}
theorem IP.of{aO:List Nat}(hN:X.N=N)(hs:X.env.scope=sc)(h:gQ N sc scope aO=true):IP X scope aO:=by
 subst hN hs;unfold gQ at h;simp only[Bool.and_eq_true,List.all_eq_true]at h;obtain⟨⟨⟨⟨c,d⟩,f⟩,b⟩,g⟩:=h;refine⟨aN3.mp c,λy a z=>?_,λy a z=>?_,λy a z=>?_,λy a z=>?_,λi hi=>?_⟩
 ·have:=d y a;rw[z]at this;simpa using this
 ·have:=f y a;rw[z]at this;simpa using this
 ·have:=b y a;rw[z]at this;have this:(scope.names.lookup y.1==some NameKind.free && (X.env.scope.names.lookup y.1==some NameKind.cell || X.env.scope.names.lookup y.1==some NameKind.free))=true:=by simpa using this
  exact aN3.mp (Bool.and_eq_true_iff.mp this).1
 ·have:=b y a;rw[z]at this;have this:(scope.names.lookup y.1==some NameKind.free && (X.env.scope.names.lookup y.1==some NameKind.cell || X.env.scope.names.lookup y.1==some NameKind.free))=true:=by simpa using this
  have this:=(Bool.and_eq_true_iff.mp this).2;rcases Bool.or_eq_true_iff.mp this with q | q
  ·exact .inl (aN3.mp q)
  ·exact .inr (aN3.mp q)
 ·have:=g i hi
  cases e:X.N[i]? with
  | none=>rw[e]at this;simp at this
  | some x=>rw[e]at this;exact⟨x,rfl,aN3.mp this⟩
theorem xH:∀(names:List (Str×NameKind)) (n:Nat) (a:List (Str×Addr)),cellsFrom n names a=cellsFrom n names []++a
 | [],_,_=>rfl
 | (x,k)::r,n,a=>by
  unfold cellsFrom;split
  ·rw[xH r (n+1) ((x,n)::a),xH r (n+1) [(x,n)]];simp
  ·exact xH r n a
theorem IB:∀(names:List (Str×NameKind)) (n:Nat) (a:List (Str×Addr)) {x:Str} {c:Addr},(x,c)∈cellsFrom n names a->(x,c)∈a\/(x,NameKind.cell)∈names
 | [],_,_,_,_,h=>.inl h
 | (y,k)::r,n,a,x,c,h=>by
  unfold cellsFrom at h;split at h
  ·rename_i b;have b:k= .cell:=aN3.mp b;rcases IB r _ _ h with z | z
   ·rcases aKd.mp z with z | z
    ·injection z with d e;exact .inr (by rw[d,b];exact aK7)
    ·exact .inl z
   ·exact .inr (aK8 _ z)
  ·rcases IB r _ _ h with z | z
   ·exact .inl z
   ·exact .inr (aK8 _ z)
theorem XI:∀(names:List (Str×NameKind)) (n:Nat) (a:List (Str×Addr)) {p:Str×Addr},p∈a->p∈cellsFrom n names a:=λnames n a p h=>by
 rw[xH];exact aKs _ h
theorem CF:∀(names:List (Str×NameKind)) (n:Nat) (a:List (Str×Addr)) {x:Str},(x,NameKind.cell)∈names->∃c,(x,c)∈cellsFrom n names a
 | (y,k)::r,n,a,x,h=>by
  unfold cellsFrom;rcases aKd.mp h with z | z
  ·injection z with b d;subst b d;rw[if_pos (show (NameKind.cell==NameKind.cell)=true from rfl)];exact⟨n,XI _ _ _ aK7⟩
  ·split
   ·exact CF r _ _ z
   ·exact CF r _ _ z
variable{A:Around}{s:Shared}
theorem x6{M:Model}{E:aNr}{globals:Addr}{cl:List (Str×Addr)}{qual:Str}{outer:Env}{b:Addr}{Q:Env->Shared->Prop}
  (a:∀h',h'.Ns s.heap.objs.size (λ_=>none)->(∀c o,s.heap.get? c=some o->h'.get? c=some o)->CellsOk h' (s.heap.objs.size+1) (cellsFrom (s.heap.objs.size+1) scope.names [])->
   Q (newEnv scope s.heap.objs.size globals (cellsFrom (s.heap.objs.size+1) scope.names []++cl) qual none .none (some outer) b) {s with heap:=h'}):
  wpAny M A (newFunctionEnv scope globals cl [] qual none .none (some outer) b) Q E s:=by
 simp only[newFunctionEnv,Option.isSome_some,if_true];refine aK2 (wpAny_alloc ?_);refine aK2 (wpAny_layCells _ (λname kind cells=>by cases hkc:kind==NameKind.cell <;> simp[hkc]) _ _ _ _ ?_);have ok:=cellsFrom_ok scope.names (s.heap.push {cls:= .type "dict",data:= .dict #[]}) (s.heap.objs.size+1) [] ⟨λ_ _ hm=>(nomatch hm),List.Pairwise.nil⟩ (by rw[Heap.size_push];exact aK6 _);rw[Heap.size_push]at ok;rw[show ({s with heap:=s.heap.push {cls:= .type "dict",data:= .dict #[]}}:Shared).heap.objs.size=s.heap.objs.size+1 from Heap.size_push ..];refine aK2 ?_;rw[List.forIn_nil];refine aK3 (aK3 ?_);rw[xH];exact a _ ((Heap.Ns.new s.heap (.type "dict")).keeps (pushCells_keeps _ _)) (λc o e=>pushCells_keeps _ _ c o (aK4 _ e)) ok
def PTs(X:Cx)(a:List Expr)(t:TT):Prop:=
 ∀(pins:List (Addr×Obj)) (s:Shared) (σ:St) (H:Hp) (Q:Bool->Hp->Prop),Inv X pins σ H s->t σ H Q->
  wpAny (model X.prog X.w) X.A (forIn a true λc r=>if r=true then do let ok<-isTrue c X.env (eval c X.env);pure (ForInStep.yield ok) else pure (ForInStep.yield r)) (TP X pins σ Q) X.xe s
def aHo:TT:=λ_ H Q=>Q true H
theorem UM:PTs X [] aHo:=λ_ _ _ H _ I h=>wpAny_tests_nil ⟨H,I,h⟩
theorem UL{c:Expr}{t:TT}(h:PT X c t):PTs X [c] t:=λpins s σ H Q I q=>wpAny_tests_one (h pins s σ H Q I q)
def xV(n:Nat)(g:TG):Prop:=∀v σ H Q,g v σ H Q->g v σ H λa H' =>Q a H' /\a.length=σ.length/\∀j,n<=j->a[j]? =σ[j]?
def LC(n:Nat)(g:F0):Prop:=∀vs σ H Q,g vs σ H Q->g vs σ H λa H' =>Q a H' /\a.length=σ.length/\∀j,n<=j->a[j]? =σ[j]?
variable{n i:Nat}
theorem MS(h:i<n):xV n (tW i):=λv σ H Q q=>⟨q,by simp,λj a=>by rw[List.getElem?_set_ne (by lia)]⟩
theorem RF:LC n RJ:=λvs σ H Q q=>⟨q.1,q.2,rfl,λ_ _=>rfl⟩
theorem MT{t:TG}{u:F0}(mt:∀v σ H Q b,(∀a H',Q a H' ->b a H')->t v σ H Q->t v σ H b)(d:∀v σ H Q b,(∀a H',Q a H' ->b a H')->u v σ H Q->u v σ H b)(f:xV n t)(g:LC n u):LC n (EY t u):=by
 intro vs σ H Q q;obtain⟨v,r,e,q⟩:=q;refine⟨v,r,e,mt _ _ _ _ _ (λa H' ⟨q',l,k⟩=>?_) (f _ _ _ _ q)⟩;refine d _ _ _ _ _ (λh o ⟨i,m,k2⟩=>?_) (g _ _ _ _ q');exact⟨i,m.trans l,λj c=>(k2 j c).trans (k j c)⟩
theorem RE{n m:Nat}{K:aNq}{u:F0}(h:LC n u):xV n (aCh K m u):=by
 intro v σ H Q q;obtain⟨a,xs,e,hs,b,q⟩:=q;exact⟨a,xs,e,hs,b,h _ _ _ _ q⟩
theorem HH:∀v σ H Q b,(∀a H',Q a H' ->b a H')->tW i v σ H Q->tW i v σ H b :=λ_ _ _ _ _ h q=>h _ _ q
theorem MV:∀v σ H Q b,(∀a H',Q a H' ->b a H')->RJ v σ H Q->RJ v σ H b :=λ_ _ _ _ _ h q=>⟨q.1,h _ _ q.2⟩
theorem HI{t:TG}{u:F0}(mt:∀v σ H Q b,(∀a H',Q a H' ->b a H')->t v σ H Q->t v σ H b)(c:∀v σ H Q b,(∀a H',Q a H' ->b a H')->u v σ H Q->u v σ H b):
  ∀v σ H Q b,(∀a H',Q a H' ->b a H')->EY t u v σ H Q->EY t u v σ H b :=by
 intro vs σ H Q b h ⟨v,r,e,q⟩;exact⟨v,r,e,mt _ _ _ _ _ (λa H' q' =>c _ _ _ _ _ h q') q⟩
variable{w:World}{R:Result->Shared->Prop}{ifs:List Expr}{pos:Pos}
theorem FF{prog:Program}{k a iter:Expr}{it l:Value}(I:Nat->Shared->Prop)
  (o:∀n s,I n s->wpAny (model prog w) A (pyNext it) (λr b=>match r with
   | none=>R (.ok .next) b
   | some v=>wpAny (model prog w) A (letOwnedTupleGo a it v) (λ_ b=>wpAny (model prog w) A (assign a env v) (λ_ f=>
     wpAny (model prog w) A (forIn ifs true λc r=>if r=true then do let ok<-isTrue c env (eval c env);pure (ForInStep.yield ok) else pure (ForInStep.yield r)) (λok e=>
      if ok=true then wpAny (model prog w) A (eval k env) (λx g=>
       wpAny (model prog w) A (call (.builtin "list.append") [l,x]) (λ_ i=>∃m,m<n/\I m i) (λ_ _=>False) g) (λ_ _=>False) e
      else ∃m,m<n/\I m e) (λ_ _=>False) f) (λ_ _=>False) b) (λ_ _=>False) b) (λ_ _=>False) s)
  (n:Nat) (h:I n s):codeAny (model prog w) A (.compLoop (.ListComp k [⟨a,iter,ifs,0⟩] scope pos) 0 it l env) R s:=by
 refine codeAny_loop rfl I (λn s u=>?_) n h;show wpAny _ A ((compTurn (.ListComp k [⟨a,iter,ifs,0⟩] scope pos) 0 it l env).onRaise (λx=>do noteFrame x env;theTreesLotGoes x)) _ _ s;refine wpAny_noted ?_;rw[compTurn_list];refine aK2 (aMj (aK2 (aLm (o n s u) (λr b d=>?_) λ_ _ h' =>h'.elim)))
 cases r with
 | none=>exact aK3 d
 | some v=>
  refine aK2 (aLm d (λ_ b d=>?_) λ_ _ h' =>h'.elim);refine aK2 (aLm d (λ_ f p=>aK2 (aLm p (λok e j=>?_) λ_ _ h' =>h'.elim)) λ_ _ h' =>h'.elim)
  cases ok with
  | false=>exact aK3 ⟨rfl,j⟩
  | true=>
   exact aK2 (aK2 (aLm j (λx g q=>aK2 (aLm q (λ_ i t=>aK3 (aK3 ⟨rfl,t⟩)) λ_ _ h' =>h'.elim)) λ_ _ h' =>h'.elim))
def aGl(P:Program)(w:World)(p:Addr)(ks:List Key):HO:= .ext λ_ h=>ST.NL (aR P w) (ST.eV w) h p ks
variable{P:Program}{h:Heap}
theorem T6{H:Hp}{p:Addr}{ks:List Key}(x:ST.NL (aR P w) (ST.eV w) h p ks):cT P w H h p (aGl P w p ks):=
 ⟨x,by obtain⟨o,_,_,_,ho,_⟩:=x;exact⟨o,ho⟩,λa b q k=>q.keep λo e=>k o e⟩
def aHm:V->Option Key
 | .int i=>some (.inl i)
 | .str x=>some (.inr x)
 | _=>none
abbrev S8(b:Bool)(a:Expr)(c:List Comprehension)(sc:Scope)(pos:Pos):Expr:=match b with
 | false=>.ListComp a c sc pos
 | true=>.SetComp a c sc pos
def cmO(P:Program)(w:World)(b:Bool)(a:Addr)(c:List V):HO:=match b with
 | false=>.lst c
 | true=>aGl P w a (ST.aD6 [] (c.filterMap aHm))
abbrev cmN(b:Bool):Sem Value:=match b with
 | false=>newList []
 | true=>newSet (.type "set")
variable{Q:aNr}
theorem aCs{E:aNr}{b:Bool}(h:∀G:Heap,(∀c o,s.heap.get? c=some o->G.get? c=some o)->G.objs.size=s.heap.objs.size+1->
  (∀H,cT P w H G s.heap.objs.size (cmO P w b s.heap.objs.size []))->Q (.ref s.heap.objs.size) {s with heap:=G}):wpAny (model P w) A (cmN b) Q E s:=by
 cases b with
 | false=>exact aKt (h _ (λc o e=>aK4 _ e) (aMc _ _) λH=>⟨aLb _,[],0,.nil,aKa _ rfl⟩)
 | true=>
  unfold cmN newSet;exact aK2 (ST.kU (aKt (h _ (λc o e=>aK4 _ e) (aMc _ _) λH=>T6 (ST.HL (aKa _ rfl)))))
theorem R5{prog:Program}{b:Bool}{a:Expr}{e:List Comprehension}{d:Nat}{g:Comprehension}{it c:Value}(j:e[d]? =some g)(ha:g.is_async=0)
  (h0:codeAny (model prog w) A (.compLoop (S8 b a e scope pos) d it c env) R s)
  (h:wpAny (model prog w) A (pyIter it) (λf i =>codeAny (model prog w) A (.compLoop (S8 b a e scope pos) d f c env) R i) (notedBy (model prog w) A env λx i =>R (.error x) i) s):
  codeAny (model prog w) A (.compStart (S8 b a e scope pos) d it c env) R s:=by
 have k:clausesOf (S8 b a e scope pos)=e:=by cases b <;> rfl
 have hd:(model prog w).den (.compStart (S8 b a e scope pos) d it c env)=(compStart (S8 b a e scope pos) d it c env).onRaise (λx=>do noteFrame x env;standAt theWindowsPlace):=by cases b <;> rfl
 refine codeAny_of_tree ?_;rw[hd];have l:A.under (.compStart (S8 b a e scope pos) d it c env)=A:=by cases b <;> rfl
 rw[l];refine wpAny_notedAt ?_;unfold compStart;rw[k,j];simp only[Option.elim,ha,bne_self_eq_false,Bool.false_eq_true,if_false];refine aK2 (aN2 (wpAny_ite ?_));split
 ·exact aK3 (And.intro rfl h0)
 ·exact aK2 (aL9 (aK2 (aMj (aK2 (aLm h (λf i h' =>aK3 (And.intro rfl h')) λ_ _ x=>x)))))
abbrev TBd:=List V->St->Hp->(List V->Hp->Prop)->Prop
def aE3(P:Program)(w:World)(b:Bool)(own:List Str)(aO:List Nat)(wi:TI)(g:TG)(tt:TT)(tb:Addr->TBd):TE:=λσ H Q=>wi σ H λJ f=>∀a,f a=none->
 ∃W:Nat->Nat->List V->Hp->Prop,(∃m,W 0 m [] (upd f a (cmO P w b a [])))/\∀i m e H,W i m e H->H a=some (cmO P w b a e)/\
  ((J.stop i H/\Q (.ref a) H)\/(J.go i H/\∃N:List V->Hp->Prop,(∀c H',N c H' ->∃h,h<m/\W (i+1) h c H')/\
   ∀x H',J.yld i H x H' ->g x (sP own aO σ) H' λd k=>tt d k λb j=>if b=true then tb a e d j N else N e j))
def tbE(te:TE)(a:Addr):TBd:=λb σ H N=>b.length<sizeLine/\te σ H λy c=>c a=some (.lst b)/\N (b++[y]) (upd c a (.lst (b++[y])))
def tLC(own:List Str)(aO:List Nat)(wi:TI)(g:TG)(tt:TT)(te:TE):TE:=λσ H Q=>∀P w,aE3 P w false own aO wi g tt (tbE te) σ H Q
variable{pins:List (Addr×Obj)}{use:Option (Value->Sem Unit)}
theorem NB{bm:Bool}{tg iter elt:Expr}{more:List Comprehension}{wi:TI}{g:TG}{tt:TT}{tb:Addr->TBd}(own:List Str)(o1:Nat)(aO:List Nat)(B:Env->Addr->(Shared->Prop)->Shared->Prop)
  (hN:X.N=N) (hsc:X.env.scope=sc) (chk:gQ N sc scope aO=true) (hcalm:X.calm=true) (hi:PI X tg iter wi) (ho1:o1<=own.length) (ho:xV o1 g)
  (hg:∀cl C fp s₀ H₀,PG (aZ X own aO scope cl C fp s₀ H₀) tg g) (ht:∀cl C fp s₀ H₀,PTs (aZ X own aO scope cl C fp s₀ H₀) ifs tt)
  (hbody:∀D cl C fp s₀ H₀ pins s σ H ys NN K,Inv (aZ X own aO scope cl C fp s₀ H₀) pins σ H s->(∀j,o1<=j->j<own.length->σ[j]? =some none)->tb D ys σ H NN->
   (∀E H' s',Inv (aZ X own aO scope cl C fp s₀ H₀) pins σ H' s' ->NN E H' ->K s')->B (compEnvC scope cl C X.env) D K s)
  (hloop:∀(it D:Addr) (env:Env) (R:Result->Shared->Prop) (I:Nat->Shared->Prop),(∀n s,I n s->wpAny (model X.prog X.w) X.A (pyNext (.ref it)) (λr M=>match r with
   | none=>R (.ok .next) M
   | some v=>wpAny (model X.prog X.w) X.A (letOwnedTupleGo tg (.ref it) v) (λ_ M=>wpAny (model X.prog X.w) X.A (assign tg env v) (λ_ s₂=>
     wpAny (model X.prog X.w) X.A (forIn ifs true λc r=>if r=true then do let ok<-isTrue c env (eval c env);pure (ForInStep.yield ok) else pure (ForInStep.yield r)) (λok s₃=>
      if ok=true then B env D (λs=>∃m,m<n/\I m s) s₃ else ∃m,m<n/\I m s₃) (λ_ _=>False) s₂) (λ_ _=>False) M) (λ_ _=>False) M) (λ_ _=>False) s)->
   ∀n s,I n s->codeAny (model X.prog X.w) X.A (.compLoop (S8 bm elt (⟨tg,iter,ifs,0⟩::more) scope pos) 0 (.ref it) (.ref D) env) R s)
  (hs:∀x,foldedSetIterable iter X.env x=pure x)   {σ:St} {H:Hp} {Q:VK}  {Q' :aNr} (I:Inv X pins σ H s) (h:aE3 X.prog X.w bm own aO wi g tt tb σ H Q)
  (hend:∀(D C:Addr) (m:aNt) (H5:Hp) (s6:Shared) (r:Flow),Inv X pins σ H5 s6->H5 C=none->C≠X.env.locals->X.s₀.heap.objs.size<=C->(∀x c,X.env.cells.lookup x=some c->c≠C)->(∀p∈X.pn++pins,p.1≠C)->s6.heap.Ns C m->Q (.ref D) H5->
   compPost (model X.prog X.w) X.A X.xe use Q' (.ref D) C (.ok r) s6):
  wpAny (model X.prog X.w) X.A (comprehension (S8 bm elt (⟨tg,iter,ifs,0⟩::more) scope pos) scope X.env (firstIterPos (⟨tg,iter,ifs,0⟩::more) pos) (cmN bm) (firstAsync (⟨tg,iter,ifs,0⟩::more)) (firstIter (⟨tg,iter,ifs,0⟩::more) X.env) use) Q' X.xe s:=by
 have ck:=IP.of hN hsc chk;have hcl:∀x∈scope.names,x.2= .free->∃c,X.env.cells.lookup x.1=some c:=λx hx hf=>I.ok.has x.1 (ck.fr x hx hf);refine wpAny_comprehension_free (use:=use) (cl:=kT scope.names X.env.cells []) (by cases bm <;> rfl) hs (yM hcl) ck.kind ck.loc (dJ (hi pins s σ H _ I h) λv s1 h1=>dJ h1 λitv s2 h2=>?_);obtain⟨it,fp,tn,J,H2,e,I2,T,st2,f2,hW⟩:=h2;subst e;refine aCs λG hGk hGs hGo=>x6 (λO S kept hcs=>?_);dsimp only at S kept hcs⊢;have hacc0:H2 s2.heap.objs.size=none:=I2.cI.fresh (aK6 _);obtain⟨W,⟨m0,w0⟩,turn⟩:=hW s2.heap.objs.size hacc0;have f:Inv X pins σ (upd H2 s2.heap.objs.size (cmO X.prog X.w bm s2.heap.objs.size [])) {s2 with heap:=G}:=I2.laid (t' :=s2.toks) hGk (aK6 _) (hGo _);generalize hH3:upd H2 s2.heap.objs.size (cmO X.prog X.w bm s2.heap.objs.size [])=H3 at f w0
 have oldOk:∀x c,(kT scope.names X.env.cells []).lookup x=some c->X.env.cells.lookup x=some c:=λx c e=>by
  have:=AF (cells:=X.env.cells) (P:=λx c=>X.env.cells.lookup x=some c) scope.names [] (by simp) (λn hn=>by
   obtain⟨c,hc⟩:=hcl (n,.free) hn rfl;have hc' :X.env.cells.lookup n=some c:=hc
   rw[hc'];rfl) (x,c) (aKu e)
  exact this
 have oldHas:∀x,scope.names.lookup x=some .free->∃c,(kT scope.names X.env.cells []).lookup x=some c:=λx e=>by
  obtain⟨c,hc⟩:=AG (cells:=X.env.cells) scope.names [] x (aKu e);exact cP hc
 have newNo:∀x,scope.names.lookup x=some .free->(cellsFrom (G.objs.size+1) scope.names []).lookup x=none:=λx e=>by
  cases q:(cellsFrom (G.objs.size+1) scope.names []).lookup x with
  | none=>rfl
  | some c=>
   rcases IB _ _ _ (aKu q) with z | z
   ·cases z
   ·have:=ck.cel _ z rfl;rw[e]at this;cases this
 have oldLt:∀x c,X.env.cells.lookup x=some c->c<G.objs.size:=λx c e=>by obtain⟨v,z⟩:=f.cell x c e;exact z.lt
 generalize U :cellsFrom (G.objs.size+1) scope.names []++kT scope.names X.env.cells []=cl at⊢
 have l:∀x c,cl.lookup x=some c->X.env.cells.lookup x=some c\/(G.objs.size<c/\O.IsCell c none/\(x,c)∈cellsFrom (G.objs.size+1) scope.names []):=λx c e=>by
  rw[<-U,List.lookup_append]at e
  cases q:(cellsFrom (G.objs.size+1) scope.names []).lookup x with
  | none=>rw[q]at e;exact .inl (oldOk x c (by simpa using e))
  | some c' =>
   rw[q]at e;have e' :c' =c:=by simpa using e
   subst e';have hm:=aKu q;obtain⟨z1,z2⟩:=hcs.empty _ _ hm;exact .inr ⟨z2,z1,hm⟩
 have clHas:∀x,scope.names.lookup x=some .free->∃c,cl.lookup x=some c/\X.env.cells.lookup x=some c:=λx e=>by
  obtain⟨c,hc⟩:=oldHas x e;refine⟨c,?_,oldOk x c hc⟩;rw[<-U,List.lookup_append,newNo x e,hc];rfl
 have clNew:∀x,scope.names.lookup x=some .cell->∃c,cl.lookup x=some c:=λx e=>by
  obtain⟨c,hc⟩:=CF scope.names (G.objs.size+1) [] (aKu e);exact cP (c:=c) (by rw[<-U];exact aLk _ hc)
 have fpObj:=T.obj _ _ st2;have fpLt:∀b∈fp,b<s2.heap.objs.size:=λb a=>by obtain⟨o,e,_⟩:=fpObj b a;exact aKb e
 have cI:(aZ X own aO scope cl G.objs.size fp {s2 with heap:=G} H3).Ok:=by
  refine⟨f.ok.mod,ck.kind,f.ok.glob,f.ok.blt,aK6 _,λx y c e1 t=>?_,λx hx=>?_,λx c hf e=>?_,f.ok.hd,f.ok.frames,.inl rfl,λb a=>⟨?_,λx c e=>?_⟩,f.bs,aKr f.ok.XO f.sz,λb o e a=>?_,λb a z=>?_,f.stack,f.JC⟩
  ·have two:∀{x c},cl.lookup x=some c->_:=λ{x c} e=>l x c e;rcases two e1 with z1 | ⟨z1,_,m1⟩
   ·rcases two t with z2 | ⟨z2,_,m2⟩
    ·exact f.ok.inj x y c z1 z2
    ·have:=oldLt x c z1;exact absurd this (by lia)
   ·rcases two t with z2 | ⟨z2,_,m2⟩
    ·have:=oldLt y c z2;exact absurd this (by lia)
    ·exact name_of_addr hcs.apart m1 m2
  ·have hx:(relabel scope X.env).names.lookup x=some .cell\/(relabel scope X.env).names.lookup x=some .free:=hx
   have fr:∀{x},scope.names.lookup x=some .free->∃c,cl.lookup x=some c:=λ{x} e=>by
    obtain⟨c,h1,_⟩:=clHas x e;exact⟨c,h1⟩
   rcases hx with q | q
   ·obtain⟨k,hk,z | ⟨z,_⟩⟩:=qX q
    ·exact clNew x (by rw[hk,<-z])
    ·exact fr (by rw[hk,z])
   ·obtain⟨k,hk,z | ⟨_,z⟩⟩:=qX q
    ·exact fr (by rw[hk,<-z])
    ·cases z
  ·have hx:scope.names.lookup x=some .cell:=aN3.mp hf;obtain⟨c',hc'⟩:=CF scope.names (G.objs.size+1) [] (aKu hx);obtain⟨c'',hc''⟩:=cP hc';have e:cl.lookup x=some c:=e;rw[<-U,List.lookup_append,hc'']at e;have e' :c'' =c:=by simpa using e
   subst e';exact aLy (hcs.empty _ _ (aKu hc'')).2
  ·exact aKg (aNn (fpLt b a) (by show s2.heap.objs.size<G.objs.size;rw[hGs];exact aL2 _))
  ·rcases l x c e with z | ⟨z,_⟩
   ·exact(f2 b a).2.2.2.2.1 x c z
   ·exact aLe (aNn (aNn (fpLt b a) (by show s2.heap.objs.size<G.objs.size;rw[hGs];exact aL2 _)) z)
  ·rcases(f2 b a).2.2.2.1 with z | z
   ·exact f.ok.PK b o e z
   ·exact absurd (aKh (aKb e) (aKr f.ok.XO z)) (aM7 _)
  ·rcases aKd.mp (f.GD b z) with q | q
   ·exact(f2 b a).2.1 q
   ·exact(f2 b a).2.2.1 q
 have hCn:H3 G.objs.size=none:=f.cI.fresh (aK6 _)
 have I4:Inv (aZ X own aO scope cl G.objs.size fp {s2 with heap:=G} H3) [] (sP own aO σ) H3 {s2 with heap:=O}:=by
  refine⟨cI,rfl,f.bare,Un.kept kept,⟨_,S,λi x v e1 t e3=>?_⟩,λx c e=>?_,hCn,λx c e=>?_,λp hp=>absurd hp (by simp[aZ]),f.cI.kept kept,by simp[sP,aZ]⟩
  ·have hge:own.length<=i:=by
    refine aMe λhlt=>?_;unfold sP at t;rw[List.getElem?_append_left (by simpa using hlt),List.getElem?_map]at t
    cases q:own[i]? with
    | none=>rw[q]at t;simp at t
    | some z=>rw[q]at t;simp at t
   unfold sP at t;have Y :(own++aO.map λi=>X.N.getD i "")[i]? =some x:=e1;rw[List.getElem?_append_right hge,List.getElem?_map]at Y;rw[List.getElem?_append_right (by simpa using hge),List.getElem?_map]at t;simp only[List.length_map]at t
   cases q:aO[i-own.length]? with
   | none=>rw[q]at Y;simp at Y
   | some k=>
    rw[q]at Y t;simp only[Option.map_some,Option.some.injEq]at Y t;obtain⟨x',hx',F⟩:=ck.cap k (aK9 q);have ex:x' =x:=by rw[<-Y,List.getD_eq_getElem?_getD,hx'];rfl
    subst ex
    have e2' :σ[k]? =some (some v):=by
     cases w:σ[k]? with
     | none=>rw[w]at t;simp at t
     | some z=>rw[w]at t;simp at t;rw[t]
    have kx:=ck.fr _ (aKu F) rfl
    have visX:Vis X.env.scope x' :=by
     rcases kx with z | z
     ·exact .inr (.inl z)
     ·exact .inr (.inr z)
    obtain⟨m,hn,hl⟩:=f.loc;obtain⟨u,ru,lk⟩:=hl k x' v hx' e2' visX;refine⟨u,ru,.inr ⟨A3 F,?_⟩⟩
    rcases lk with ⟨z,_⟩ | ⟨_,c,hc,hcell⟩
    ·rcases kx with z' | z' <;> (have z'' :=z.symm.trans z';cases z'')
    ·obtain⟨c',hc',this⟩:=clHas x' F;rw[hc]at this;cases this;obtain⟨o,ho,hd⟩:=hcell;exact⟨c,hc',⟨o,kept _ _ ho,hd⟩⟩
  ·rcases l x c e with z | ⟨_,z,_⟩
   ·obtain⟨v,o,ho,hd⟩:=f.cell x c z;exact⟨v,o,kept _ _ ho,hd⟩
   ·exact⟨_,z⟩
  ·rcases l x c e with z | ⟨z,_⟩
   ·exact f.nW x c z
   ·exact f.cI.fresh (aLy z)
 have st4:tn 0 O:=T.keep _ _ _ st2 λb a o e=>kept b o (hGk b o e);have fp4:∀b∈fp,H3 b=none:=λb a=>by rw[<-hH3,aW (Nat.ne_of_lt (fpLt b a))];exact(f2 b a).1
 have stat:∀{H' :Hp},(∀b∈fp,H' b=none)->∀b∈fp,xW (aZ X own aO scope cl G.objs.size fp {s2 with heap:=G} H3) [] H' b:=λhn b a=>
  ⟨hn b a,(cI.exf b a).1,cI.RP b a,.inl a,(cI.exf b a).2,λp hp=>absurd hp (by simp[aZ])⟩
 have loop:codeAny (model X.prog X.w) X.A (.compLoop (S8 bm elt (⟨tg,iter,ifs,0⟩::more) scope pos) 0 (.ref it) (.ref s2.heap.objs.size) (compEnvC scope cl G.objs.size X.env))
   (compPost (model X.prog X.w) X.A X.xe use Q' (.ref s2.heap.objs.size) G.objs.size) {s2 with heap:=O}:=by
  refine hloop _ _ _ _ (λn s' =>∃i ys H',Inv (aZ X own aO scope cl G.objs.size fp {s2 with heap:=G} H3) [] (sP own aO σ) H' s' /\tn i s'.heap/\(∀b∈fp,H' b=none)/\W i n ys H') ?_ m0 _ ⟨0,[],H3,I4,st4,fp4,w0⟩;rintro n s5 ⟨i,ys,H5,I5,st5,fr5,w5⟩;obtain⟨hacc,turn5⟩:=turn i n ys H5 w5
  rcases turn5 with ⟨stop,q⟩ | ⟨go,NN,hNN,step⟩
  ·refine dJ (T.done (aZ X own aO scope cl G.objs.size fp {s2 with heap:=G} H3) rfl rfl rfl hcalm i [] s5 _ H5 (λ_ _=>False) I5 (stat fr5) st5 stop) λr s6 zz0=>?_;obtain⟨hr,I6⟩:=zz0;subst hr;obtain⟨m,hm,_⟩:=id I6.loc
   have I7:Inv X pins σ H5 s6:=f.aGf (ch:=fp) I6.os I6.base I6.cI I6.bare λb a=>⟨(f2 b a).2.2.2.1,(f2 b a).2.1,λx c e=>(f2 b a).2.2.2.2.1 x c e,λp hp=>(f2 b a).2.2.2.2.2 p hp⟩
   exact hend _ _ m H5 s6 _ I7 I6.free (aLe (by have:=f.lt;exact this)) f.sz (λx c e=>by obtain⟨v,z⟩:=f.cell x c e;exact aKg z.lt) (λp hp=>aKg (aKb (f.pin p hp).1)) hm q
  ·refine dJ (T.item (aZ X own aO scope cl G.objs.size fp {s2 with heap:=G} H3) rfl rfl rfl hcalm i [] s5 _ H5 (λ_ _=>False) I5 (stat fr5) st5 go) λr s6 zz1=>?_;obtain⟨u,hr,h6⟩:=zz1;subst hr;refine dJ h6 λ_ s7 zz2=>?_;obtain⟨x,H7,I7,r7,y7,st7,fr7⟩:=zz2;have I7' :=I7.pinned (stat fr7) (T.obj _ _ st7);refine dJ (hg _ _ _ _ _ _ s7 _ H7 x u _ I7' r7 (ho _ _ _ _ (step x H7 y7))) λ_ s8 zz3=>?_;obtain⟨σ8,H8,I8,q8,l8,k8⟩:=zz3;refine dJ (ht _ _ _ _ _ _ s8 σ8 H8 _ I8 q8) λok s9 zz4=>?_;obtain⟨H9,I9,q9⟩:=zz4
   have again:∀{E:List V} {L:Hp} {Z:Shared},Inv (aZ X own aO scope cl G.objs.size fp {s2 with heap:=G} H3) ([]++vZ fp s7.heap) σ8 L Z->NN E L->
     ∃m,m<n/\∃i ys H',Inv (aZ X own aO scope cl G.objs.size fp {s2 with heap:=G} H3) [] (sP own aO σ) H' Z/\tn i Z.heap/\(∀b∈fp,H' b=none)/\W i m ys H' :=λ{E L Z} I10 n10=>by
    obtain⟨m',hm,w10⟩:=hNN E L n10
    have I10' :Inv (aZ X own aO scope cl G.objs.size fp {s2 with heap:=G} H3) ([]:List (Addr×Obj)) (sP own aO σ) L Z:=I10.qO.weak l8.symm λj v e=>by
     have hge:own.length<=j:=by
      refine aMe λhlt=>?_;unfold sP at e;rw[List.getElem?_append_left (by simpa using hlt),List.getElem?_map]at e
      cases q:own[j]? with
      | none=>rw[q]at e;simp at e
      | some z=>rw[q]at e;simp at e
     rw[k8 j (Nat.le_trans ho1 hge)];exact e
    refine⟨m',hm,i+1,E,L,I10',T.keep _ _ _ st7 λb a o e=>(I10.pin (b,o) (aKs _ (aKs _ (lJ a e)))).1,λb a=>?_,w10⟩;obtain⟨o,e,d⟩:=T.obj _ _ st7 b a;exact(I10.pin (b,o) (aKs _ (aKs _ (lJ a e)))).2.1
   cases ok with
   | false=>exact again I9 q9
   | true=>
    rw[if_pos rfl];refine hbody _ _ _ _ _ _ _ s9 σ8 H9 ys NN _ I9 (λj hj1 hj2=>?_) q9 λE L Z I10 q10=>again I10 q10;rw[k8 j hj1];unfold sP;rw[List.getElem?_append_left (by simpa using hj2),List.getElem?_map];simp[hj2]
 exact R5 (g:=⟨tg,iter,ifs,0⟩) (by cases bm <;> rfl) rfl loop (T.self _ 0 _ _ _ st4 loop)
theorem RY{σ:St}{Q:VK}(a C:Addr)(m:aNt)(d:Hp)(f:Shared)(r:Flow)(g:Inv X pins σ d f)(h:d C=none)(i:C≠X.env.locals)(j:X.s₀.heap.objs.size<=C)(k:∀x c,X.env.cells.lookup x=some c->c≠C)(l:∀p∈X.pn++pins,p.1≠C)(hm:f.heap.Ns C m)(q:Q (.ref a) d):
  compPost (model X.prog X.w) X.A X.xe none (EP X pins σ Q) (.ref a) C (.ok r) f:=
 ⟨m,hm,λh' n=>⟨.ref a,d,g.turned (t' :=f.toks) (it:=C) (λb o s e=>n.extBut b o s e) h i (.inr j) k l,rfl,q⟩⟩
section
variable {X:Cx}{tg iter elt:Expr}{ifs:List Expr}{scope sc:Scope}{N:List Str}{pos:Pos}{wi:TI}{g:TG}{tt:TT}{te:TE}(own:List Str)(aO:List Nat)
  (hN:X.N=N) (hsc:X.env.scope=sc) (chk:gQ N sc scope aO=true) (hcalm:X.calm=true) (hi:PI X tg iter wi) (ho:xV own.length g)
  (hg:∀cl C fp s₀ H₀,PG (aZ X own aO scope cl C fp s₀ H₀) tg g) (ht:∀cl C fp s₀ H₀,PTs (aZ X own aO scope cl C fp s₀ H₀) ifs tt)
  (he:∀cl C fp s₀ H₀,PE (aZ X own aO scope cl C fp s₀ H₀) elt te)
include hN hsc chk hcalm hi ho hg ht he
theorem JX(hs:∀x,foldedSetIterable iter X.env x=pure x){σ:St}{H:Hp}{Q:VK}{E :aNr}(I:Inv X pins σ H s)(h:tLC own aO wi g tt te σ H Q)
  (d:∀(a C:Addr) (m:aNt) (f:Hp) (i:Shared) (r:Flow),Inv X pins σ f i->f C=none->C≠X.env.locals->X.s₀.heap.objs.size<=C->(∀x c,X.env.cells.lookup x=some c->c≠C)->(∀p∈X.pn++pins,p.1≠C)->i.heap.Ns C m->Q (.ref a) f->
   compPost (model X.prog X.w) X.A X.xe use E (.ref a) C (.ok r) i):
  wpAny (model X.prog X.w) X.A (comprehension (.ListComp elt [⟨tg,iter,ifs,0⟩] scope pos) scope X.env (firstIterPos [⟨tg,iter,ifs,0⟩] pos) (newList []) (firstAsync [⟨tg,iter,ifs,0⟩]) (firstIter [⟨tg,iter,ifs,0⟩] X.env) use) E X.xe s:=by
 refine NB (bm:=false) own own.length aO (λenv a K s=>wpAny (model X.prog X.w) X.A (eval elt env) (λx F=>wpAny (model X.prog X.w) X.A (call (.builtin "list.append") [.ref a,x]) (λ_ G=>K G) (λ_ _=>False) F) (λ_ _=>False) s)
  hN hsc chk hcalm hi (aK6 _) ho hg ht (λa cl C fp s₀ H₀ pins s σ H J L K M _ q k=>?_) (λit a env R I e n s h=>FF I e n h) hs I (h _ _) d
 refine dJ (he _ _ _ _ _ _ s σ H _ M q.2) λN j l=>?_;obtain⟨y,o,t,O,b,u⟩:=l;refine dJ (zH _ j σ o (.ref a) [y] (.ref a) [N] (λv H' =>v= .b8/\L (J++[y]) H') t rfl (.cons O .nil) ⟨_,_,_,rfl,rfl,b,q.1,rfl,u⟩) λ_ P z=>?_;obtain⟨_,S,B,_,_,D⟩:=z;exact k _ _ _ B D
theorem aEu(hs:∀x,foldedSetIterable iter X.env x=pure x:=by intro _;rfl):PE X (.ListComp elt [⟨tg,iter,ifs,0⟩] scope pos) (tLC own aO wi g tt te):=by
 intro pins s σ H Q I h;rw[eval_ListComp];exact JX own aO hN hsc chk hcalm hi ho hg ht he hs I h RY
end
theorem OY{tg iter f:Expr}{pos d k:Pos}{wi:TI}{g:TG}{tt:TT}{te:TE}{x:Str}(own:List Str)(aO:List Nat)
  (hN:X.N=N) (hsc:X.env.scope=sc) (chk:gQ N sc scope aO=true) (hcalm:X.calm=true) (hi:PI X tg iter wi) (ho:xV own.length g)
  (hg:∀cl C fp s₀ H₀,PG (aZ X own aO scope cl C fp s₀ H₀) tg g) (ht:∀cl C fp s₀ H₀,PTs (aZ X own aO scope cl C fp s₀ H₀) ifs tt)
  (he:∀cl C fp s₀ H₀,PE (aZ X own aO scope cl C fp s₀ H₀) f te)
  (nd:X.N.Nodup) (l:X.N[i]? =some x) (hx:Loc X.env.scope x) (y:swapsWith (.ListComp f [⟨tg,iter,ifs,0⟩] scope pos) (some (.Name x d)) k.line X.env=pure true)
  (A:X.fn x=true\/X.env.scope.names.lookup x=some .local) (hs:∀x,foldedSetIterable iter X.env x=pure x:=by intro _;rfl):
  PS X (.Assign [.Name x d] (.ListComp f [⟨tg,iter,ifs,0⟩] scope pos) k) (T1 (tLC own aO wi g tt te) (tW i)):=by
 intro pins s σ H D I h;rw[arm_exec_Assign];refine aK2 (aMj (aK2 (aNi (show swapsWithSole [.Name x d] _ k.line X.env=pure true from y) ?_)));rw[if_pos rfl];refine aK2 (aK2 (JX (Q:=λv B=>D.nx (σ.set i (some v)) B) own aO hN hsc chk hcalm hi ho hg ht he hs I h λj C m E R r F G u J w K hm q=>?_));show wpAny _ _ (assign (.Name x d) X.env (.ref j)) _ _ _;refine PyProof.Rows.assign_Name (y6 F nd l hx (v:= .ref j) rfl (λL M n=>?_) A);obtain⟨a,O,ha⟩:=n
 have p:C≠a:=by
  rcases ha with rfl | ha
  ·exact u
  ·exact λz=>w x a ha z.symm
 refine⟨m,?_,λh' t=>aK3 (aK3 ⟨_,E,?_,q⟩)⟩
 ·obtain⟨o,es,ep,e,c⟩:=hm;exact⟨o,es,ep,(O.2 C p).trans e,c⟩
 ·exact M.turned (t' :=L.toks) (it:=C) (λb o P e=>t.extBut b o P e) G u (.inr J) w K
structure Src where
 it:Addr
 l:Addr
 tup:Bool
def Src.At(q:Src)(h:Heap)(i:Nat):Prop:=match q.tup with | true=>h.IsTupleIter q.it q.l i | false=>h.IsListIter q.it q.l i
def Src.Sq(q:Src)(h:Heap)(items:Array Value):Prop:=match q.tup with | true=>h.IsTuple q.l items | false=>h.IsList q.l items
variable{q:Src}{h':Heap}
theorem Src.At.to(x:q.At h i)(e:∀o,h.get? q.it=some o->h'.get? q.it=some o):q.At h' i:=by
 obtain⟨it,l,t⟩:=q;cases t <;> (obtain⟨o,ho,r⟩:=x;exact⟨o,e o ho,r⟩)
theorem Src.At.obj(x:q.At h i):∃o,h.get? q.it=some o/\o.data= .fields #[.ref q.l,.int i 0]:=by
 obtain⟨it,l,t⟩:=q;cases t <;> (obtain⟨o,ho,_,r⟩:=x;exact⟨o,ho,r⟩)
variable{items:Array Value}
theorem Src.Sq.to(x:q.Sq h items)(e:∀o,h.get? q.l=some o->h'.get? q.l=some o):q.Sq h' items:=by
 obtain⟨it,l,t⟩:=q;cases t <;> (obtain⟨o,ho,r⟩:=x;exact⟨o,e o ho,r⟩)
theorem Src.Sq.obj(x:q.Sq h items):∃o n,h.get? q.l=some o/\o.data= .seq items n:=by
 obtain⟨it,l,t⟩:=q;cases t <;> (obtain⟨o,ho,_,n,r⟩:=x;exact⟨o,n,ho,r⟩)
section
variable {prog:Program}{w:World}{A:Around}{E:aNr}{s:Shared}
theorem uC{it l:Addr}{x:Value}(c:s.heap.IsTupleIter it l i)(g:s.heap.IsTuple l items)(hx:items[i]? =some x)
  (h:∀h',h'.IsTupleIter it l (i+1)->Heap.SameBut it s.heap h' ->Q x {s with heap:=h'}):wpAny (model prog w) A (Builtin.SmallTypes.nextOf (.ref it)) Q E s:=by
 obtain⟨j,b,d,a⟩:=id c;obtain⟨os,e,_,ns,f⟩:=g;unfold Builtin.SmallTypes.nextOf;refine aK2 (aKl (name:=Str.ofString "__next__") c.typeIs aLp (aKk aLp c.typeIs F.entry_tuple_iterator_next ?_ (F.args_tuple_iterator_next_1 _)));refine aK2 (m:=field (.ref it) 0) (aKy b a (x:= .ref l) rfl ?_);show wpAny _ _ (if (Value.ref l==Value.none)=true then _ else field (.ref it) 1 >>=_) _ _ s;rw[if_neg (show ¬((Value.ref l==Value.none)=true) from Bool.false_ne_true)];refine aK2 (aKy b a (x:= .int i 0) rfl ?_);refine aK2 (m:=seqItems? (.ref l)) (aL5 e f ?_);simp only[Int.toNat_natCast,hx];refine aK2 (wpAny_setField b a (by simp) (aK3 ⟨x,rfl,aK3 (h _ ⟨_,aLq _ b (Obj.isFreed_of_fields (Obj.data_mapFields a _)),(Obj.cls_mapFields ..).trans d,?_⟩ (aKw ..))⟩));rw[Obj.data_mapFields a];simp[rawInt]
theorem wF{it l:Addr}(h:A.handled=none)(b:s.heap.IsTupleIter it l i)(j:s.heap.IsTuple l items)(hx:items[i]? =none)
  (k:∀h' e,Heap.ExtBut it s.heap h' ->(∃o,h'.get? e=some o/\o.cls= .type "StopIteration")->E (.ref e) {s with heap:=h'}):wpAny (model prog w) A (Builtin.SmallTypes.nextOf (.ref it)) Q E s:=by
 obtain⟨p,c,n,d⟩:=id b;obtain⟨os,f,_,ns,g⟩:=j;unfold Builtin.SmallTypes.nextOf;refine aK2 (aKl (name:=Str.ofString "__next__") b.typeIs aLp (aKk aLp b.typeIs F.entry_tuple_iterator_next ?_ (F.args_tuple_iterator_next_1 _)));refine aK2 (m:=field (.ref it) 0) (aKy c d (x:= .ref l) rfl ?_);show wpAny _ _ (if (Value.ref l==Value.none)=true then _ else field (.ref it) 1 >>=_) _ _ s;rw[if_neg (show ¬((Value.ref l==Value.none)=true) from Bool.false_ne_true)];refine aK2 (aKy c d (x:= .int i 0) rfl ?_);refine aK2 (m:=seqItems? (.ref l)) (aL5 f g ?_);simp only[Int.toNat_natCast,hx];refine aK2 (aL9 (aK2 (wpAny_setField c d (by simp) ?_)));refine aK2 (m:=newExc (.type "StopIteration") []) ?_;simp only[newExc,newTuple];refine aK2 (aKt ?_ (by size_fits));refine aK2 (m:=firstArgMember _ _) (aNi (a:=Value.none) (by first | rfl | (simp only[firstArgMember];rfl)) ?_);refine aKt (?_:_) (by size_fits);simp only[raiseNew];refine aK2 (wpAny_handled (?_:_))
 first | rw[show A.in1.handled=none from h] | rw[h]
 refine aK2 (aK3 (wpAny_throw (?_:_)));exact k _ _ (((aKw ..).extBut.push _).push _) ⟨_,aKa _ rfl,rfl⟩
theorem Src.item{x:Value}(a:q.At s.heap i)(b:q.Sq s.heap items)(hx:items[i]? =some x)
  (c:∀h',q.At h' (i+1)->Heap.SameBut q.it s.heap h' ->Q x {s with heap:=h'}):wpAny (model prog w) A (Builtin.SmallTypes.nextOf (.ref q.it)) Q E s:=by
 obtain⟨it,l,t⟩:=q;cases t
 ·exact wpAny_nextOf_list_item a b hx c
 ·exact uC a b hx c
theorem Src.done(b:A.handled=none)(a:q.At s.heap i)(c:q.Sq s.heap items)(hx:items[i]? =none)
  (d:∀h' e,Heap.ExtBut q.it s.heap h' ->(∃o,h'.get? e=some o/\o.cls= .type "StopIteration")->E (.ref e) {s with heap:=h'}):wpAny (model prog w) A (Builtin.SmallTypes.nextOf (.ref q.it)) Q E s:=by
 obtain⟨it,l,t⟩:=q;cases t
 ·exact wpAny_nextOf_list_end b a c hx d
 ·exact wF b a c hx d
theorem Src.start(a:q.Sq s.heap items)
  (c:∀h',(⟨s.heap.objs.size,q.l,q.tup⟩:Src).At h' 0->h'.objs.size=s.heap.objs.size+1->(∀b o,s.heap.get? b=some o->h'.get? b=some o)->Q (.ref s.heap.objs.size) {s with heap:=h'}):wpAny (model prog w) A (pyIter (.ref q.l)) Q E s:=by
 obtain⟨it,l,t⟩:=q;cases t
 ·exact aMv a (c _ ⟨_,aKa _ rfl,rfl,rfl⟩ (aMc ..) λb o e=>aK4 _ e)
 ·exact aNc a (c _ ⟨_,aKa _ rfl,rfl,rfl⟩ (aMc ..) λb o e=>aK4 _ e)
structure l6(h:Heap)(z TI TO:Addr)(qs:List Src)(f0:Value)(i:Nat):Prop where
 obj:h.get? z=some {cls:= .type "zip",dict:=none,data:= .fields #[f0,.bool false,.bool false,.ref TI,.ref TO],slots:= #[]}
 aL:∃n,h.get? TI=some {cls:= .type "tuple",data:= .seq (qs.map λq=>Value.ref q.it).toArray n}
 own:∃(xs:List Value) (n:Nat),xs.length=qs.length/\h.get? TO=some {cls:= .type "tuple",data:= .seq xs.toArray n}
 at_:∀q∈qs,q.At h i
structure p9(z TI TO:Addr)(qs:List Src):Prop where
 ne1:TI≠z
 ne2:TO≠z
 ne3:TI≠TO
 QX:∀q∈qs,q.it≠z/\q.it≠TI/\q.it≠TO
 nd:(qs.map (·.it)).Nodup
 src:∀q∈qs,q.l≠z/\q.l≠TO/\∀r∈qs,q.l≠r.it
end
section
variable {prog:Program}{w:World}{A:Around}{E:aNr}{s:Shared}
structure LD(h0 h:Heap)(z TI TO:Addr)(qs:List Src)(vals:List Value)(i j:Nat):Prop where
 obj:h.get? z=some {cls:= .type "zip",dict:=none,data:= .fields #[.ellipsis,.bool false,.bool false,.ref TI,.ref TO],slots:= #[]}
 own:∃(xs:List Value) (n:Nat),xs.length=qs.length/\xs.take j=vals.take j/\h.get? TO=some {cls:= .type "tuple",data:= .seq xs.toArray n}
 done:∀q∈qs.take j,q.At h (i+1)
 todo:∀q∈qs.drop j,q.At h i
 size:h.objs.size=h0.objs.size
 keep:∀c o,c≠z->c≠TO->(∀q∈qs,c≠q.it)->h0.get? c=some o->h.get? c=some o
theorem NU{z TI TO:Addr}{qs:List Src}{vals:List Value}(D:p9 z TI TO qs)(Z:l6 s.heap z TI TO qs .none i)(G:qs≠[])
  (hv:vals.length=qs.length) (F:∀(k:Nat) q x,qs[k]? =some q->vals[k]? =some x->∃items,q.Sq s.heap items/\items[i]? =some x) (hsz:qs.length<=sizeLine)
  (hQ:∀h',l6 h' z TI TO qs (rawInt s.heap.objs.size) (i+1)->h'.get? s.heap.objs.size=some {cls:= .type "tuple",data:= .seq vals.toArray}->h'.objs.size=s.heap.objs.size+1->
   (∀c o,c≠z->c≠TO->(∀q∈qs,c≠q.it)->s.heap.get? c=some o->h'.get? c=some o)->Q (.ref s.heap.objs.size) {s with heap:=h'}):
  wpAny (model prog w) A (Builtin.«zip.__next__» ⟨[.ref z],[]⟩) (λfin s' =>∃v,fin= .done (.ret v)/\Q v s') E s:=by
 obtain⟨nI,N⟩:=Z.aL;obtain⟨xs0,n0,hx0,hTO⟩:=Z.own;refine aK2 (m:=field (.ref z) 2) (aKy Z.obj rfl (x:= .bool false) rfl ?_);refine aK2 (m:=field (.ref z) 3) (aKy Z.obj rfl (x:= .ref TI) rfl ?_);refine aK2 (m:=seqItems? (.ref TI)) (aL5 N rfl ?_)
 have O:(qs.map λq=>Value.ref q.it).toArray.isEmpty=false:=by cases qs with | nil=>exact absurd rfl G | cons a r=>rfl
 simp only[O];refine aK2 (m:=Builtin.SmallTypes.ownedTupleIsFree (.ref z)) ?_;refine aK2 (m:=field (.ref z) 0) (aKy Z.obj rfl (x:= .none) rfl (aK3 ?_));simp only[if_true];refine aK2 (aL9 ?_);refine aK2 (aKy Z.obj rfl (x:= .ref TO) rfl ?_);refine aK2 (aKm Z.obj (by simp) λh1 z1 u=>?_);refine aK2 ?_;refine aLi _ (λrest b s' =>b.1=none/\∃j h',s' ={s with heap:=h'}/\rest=((qs.map λq=>Value.ref q.it).zipIdx).drop j/\j<=qs.length/\LD s.heap h' z TI TO qs vals i j) _ ?turn ?fin _ _ ?start
 case start=>
  refine⟨rfl,0,h1,rfl,by simp,aLb _,?_⟩;refine⟨z1,⟨xs0,n0,hx0,by simp,u.extBut _ _ D.ne2 hTO⟩,by simp,λq F=>?_,u.1,λc o f _ _ e=>u.extBut _ _ f e⟩;have P :q∈qs:=by simpa using F
  exact(Z.at_ q P).to λo e=>u.extBut _ _ (D.QX q P).1 e
 case turn=>
  rintro x rest b s5 ⟨hb,j,h',rfl,hd,hj,d⟩
  have g:j<qs.length:=by
   refine Nat.lt_of_not_le λhle=>?_;rw[List.drop_eq_nil_of_le (by simpa using hle)]at hd;cases hd
  have R :=hd;rw[List.drop_eq_getElem_cons (by simpa using g)]at R;injection R with ex er;have S:x=(Value.ref qs[j].it,j):=by rw[ex];simp
  have h:qs[j]? =some qs[j]:=aL6 g;have H:vals[j]? =some vals[j]:=aL6 (by lia);generalize hqq:qs[j]=q at h S;generalize hvv:vals[j]'(by lia)=v at H;subst S;have I:q∈qs:=aK9 h;obtain⟨items,hSq,hit⟩:=F j q v h H;obtain⟨l1,l2,l3⟩:=D.src q I;have T :q.Sq h' items:=hSq.to λo e=>d.keep _ o l1 l2 l3 e;have hAt:q.At h' i:=d.todo q (by rw[List.drop_eq_getElem_cons g,hqq];exact aK7);refine aK2 (wpAny_onRaise ?_);show wpAny _ _ (Builtin.SmallTypes.nextOf (.ref q.it) >>=_) _ _ _;refine aK2 (Src.item (s:={s with heap:=h'}) hAt T hit λY at2 J=>aK3 ?_);obtain⟨xs,n,y,B,hO⟩:=d.own;have K:=D.QX q I;have L:Y.get? TO=some {cls:= .type "tuple",data:= .seq xs.toArray n}:=J.extBut _ _ (aLh K.2.2) hO;refine aK2 (m:=seqItems? (.ref TO)) (aL5 L rfl ?_);refine aK2 (aN9 L rfl ?_);refine aK2 (wpAny_letGo (aK3 ?_))
  have l:∀(k:Nat) p,qs[k]? =some p->k≠j->p.it≠q.it:=λk p t G e=>by
   have h1:(qs.map (·.it))[k]? =some q.it:=by rw[List.getElem?_map,t];simp[e]
   have Y:(qs.map (·.it))[j]? =some q.it:=by rw[List.getElem?_map,h];rfl
   obtain⟨a1,b1⟩:=aK5.mp h1;obtain⟨a2,b2⟩:=aK5.mp Y;refine G ?_;have pw:=aMf.mp D.nd;rcases aMy k j with hlt | heq | hlt
   ·exact absurd (b1.trans b2.symm) (pw k j a1 a2 hlt)
   ·exact heq
   ·exact absurd (b2.trans b1.symm) (pw j k a2 a1 hlt)
  have up:∀c o,c≠TO->c≠q.it->h'.get? c=some o->(Y.update TO (Obj.mapSeq λx=>x.setIfInBounds j v)).get? c=some o:=λc o f M e=>(aKw ..).extBut _ _ f (J.extBut _ _ M e);refine⟨rfl,j+1,_,rfl,er,g,⟨up _ _ (aLh D.ne2) (aLh K.1) d.obj,⟨xs.set j v,n,by simpa using y,?_,?_⟩,λp U=>?_,λp U=>?_,?_,λc o f M c3 e=>up c o M (c3 q I) (d.keep c o f M c3 e)⟩⟩
  ·have V :vals[j]? =some v:=H;have hjx:j<xs.length:=by lia
   rw[List.take_add_one,List.take_add_one,V,List.getElem?_set_self hjx,List.take_set_of_le (Nat.le_refl j),B]
  ·rw[Heap.get?_update_self _ L (by rfl)];simp[Obj.mapSeq]
  ·rw[List.take_add_one,h]at U;rcases aKi.mp U with z | z
   ·obtain⟨k,t⟩:=aMd z
    have hkj:k<j:=by
     have:=(aK5.mp t).1;rw[List.length_take]at this;lia
    rw[List.getElem?_take_of_lt hkj]at t;exact(d.done p z).to λo e=>up _ o (D.QX p (aK9 t)).2.2 (l k p t (by lia)) e
   ·have:p=q:=by simpa using z
    subst this;exact at2.to λo e=>(aKw ..).extBut _ _ K.2.2 e
  ·obtain⟨k,t⟩:=aMd U;rw[List.getElem?_drop]at t;have hp' :p∈qs.drop j:=by rw[List.drop_eq_getElem_cons g];exact aK8 _ U
   exact(d.todo p hp').to λo e=>up _ o (D.QX p (aK9 t)).2.2 (l _ p t (by lia)) e
  ·rw[Heap.size_update,J.1];exact d.size
 case fin=>
  rintro⟨b1,b2⟩ s5 ⟨hb,j,h',rfl,hd,hj,d⟩
  have hje:j=qs.length:=by
   have:=aL4 List.length hd;simp at this
   lia
  subst hje;have hb' :b1=none:=hb;subst hb';obtain⟨xs,n,y,B,hO⟩:=d.own
  have hxv:xs=vals:=by
   rw[List.take_of_length_le (by lia),List.take_of_length_le (by lia)]at B;exact B
  subst hxv;refine aK2 (m:=seqItems? (.ref TO)) (aL5 hO rfl ?_);refine aK2 (aMb ?_ (by simpa using aKr (Nat.le_of_eq y) hsz));refine aK2 (m:=Builtin.SmallTypes.ownedTupleHandOut (.ref z) (.ref h'.objs.size)) ?_;have z5:(h'.push {cls:= .type "tuple",data:= .seq xs.toArray}).get? z=some {cls:= .type "zip",dict:=none,data:= .fields #[.ellipsis,.bool false,.bool false,.ref TI,.ref TO],slots:= #[]}:=aK4 _ d.obj;refine aK2 (aKm z5 (by simp) λh7 z7 W=>?_);refine aKm z7 (by simp) λh8 z8 X=>aK3 ⟨_,rfl,?_⟩;have zlt:z<h'.objs.size:=aKb d.obj;have up:∀c o,c≠z->(h'.push {cls:= .type "tuple",data:= .seq xs.toArray}).get? c=some o->h8.get? c=some o:=λc o f e=>X.extBut _ _ f (W.extBut _ _ f e);have C:∀c o,c≠z->h'.get? c=some o->h8.get? c=some o:=λc o f e=>up c o f (aK4 _ e);show Q (.ref h'.objs.size) _;have hs:=d.size;rw[hs];refine hQ h8 ⟨?_,⟨nI,?_⟩,⟨xs,n,y,C _ _ D.ne2 hO⟩,λq F=>?_⟩ ?_ ?_ λc o f M c3 e=>C c o f (d.keep c o f M c3 e)
  ·rw[z8,hs];rfl
  ·exact C _ _ D.ne1 (d.keep _ _ D.ne1 D.ne3 (λq F=>aLh (D.QX q F).2.1) N)
  ·exact(d.done q (by rw[List.take_length];exact F)).to λo e=>C _ o (D.QX q F).1 e
  ·rw[<-hs];exact up _ _ (aLe zlt) (aKa _ rfl)
  ·rw[X.1,W.1,Heap.size_push,hs]
end
section
variable {prog:Program}{w:World}{A:Around}{E:aNr}{s:Shared}
variable{qs:List Src}
theorem TF{z TI TO:Addr}{i k:Nat}{Q:PySem.Fin->Shared->Prop}(hh:A.handled=none)(D:p9 z TI TO qs)(Z:l6 s.heap z TI TO qs .none i)
  (X:∀(j:Nat) q,qs[j]? =some q->j<k->∃items x,q.Sq s.heap items/\items[i]? =some x) (g:∃q items,qs[k]? =some q/\q.Sq s.heap items/\items[i]? =none) (hsz:qs.length<=sizeLine)
  (hE:∀h' e,(∀c o,c≠z->c≠TO->(∀q∈qs,c≠q.it)->s.heap.get? c=some o->h'.get? c=some o)->(∃o,h'.get? e=some o/\o.cls= .type "StopIteration")->E (.ref e) {s with heap:=h'}):
  wpAny (model prog w) A (Builtin.«zip.__next__» ⟨[.ref z],[]⟩) Q E s:=by
 obtain⟨nI,Y⟩:=Z.aL;obtain⟨K,n0,hx0,hTO⟩:=Z.own;obtain⟨qk,W,L,hSk,hik⟩:=g;have hkl:k<qs.length:=(aK5.mp L).1;refine aK2 (m:=field (.ref z) 2) (aKy Z.obj rfl (x:= .bool false) rfl ?_);refine aK2 (m:=field (.ref z) 3) (aKy Z.obj rfl (x:= .ref TI) rfl ?_);refine aK2 (m:=seqItems? (.ref TI)) (aL5 Y rfl ?_)
 have M:(qs.map λq=>Value.ref q.it).toArray.isEmpty=false:=by cases qs with | nil=>simp at hkl | cons a r=>rfl
 simp only[M];refine aK2 (m:=Builtin.SmallTypes.ownedTupleIsFree (.ref z)) ?_;refine aK2 (m:=field (.ref z) 0) (aKy Z.obj rfl (x:= .none) rfl (aK3 ?_));simp only[if_true];refine aK2 (aL9 ?_);refine aK2 (aKy Z.obj rfl (x:= .ref TO) rfl ?_);refine aK2 (aKm Z.obj (by simp) λh1 z1 u=>?_);refine aK2 ?_;refine aLi _ (λrest b s' =>∃j h' vals,s' ={s with heap:=h'}/\rest=((qs.map λq=>Value.ref q.it).zipIdx).drop j/\j<=k/\LD s.heap h' z TI TO qs vals i j) _ ?turn ?fin _ _ ?start
 case start=>
  refine⟨0,h1,K,rfl,by simp,aLb _,?_⟩;refine⟨z1,⟨K,n0,hx0,by simp,u.extBut _ _ D.ne2 hTO⟩,by simp,λq X=>?_,u.1,λc o F _ _ e=>u.extBut _ _ F e⟩;have N :q∈qs:=by simpa using X
  exact(Z.at_ q N).to λo e=>u.extBut _ _ (D.QX q N).1 e
 case fin=>
  rintro b s5 ⟨j,h',vals,rfl,hd,hj,h⟩;have:=aL4 List.length hd;simp at this
  lia
 case turn=>
  rintro x rest b s5 ⟨j,h',vals,rfl,hd,hj,h⟩;have y:j<qs.length:=by lia
  have O :=hd;rw[List.drop_eq_getElem_cons (by simpa using y)]at O;injection O with ex er;have P:x=(Value.ref qs[j].it,j):=by rw[ex];simp
  have d:qs[j]? =some qs[j]:=aL6 y;generalize hqq:qs[j]=q at d P;subst P;have B:q∈qs:=aK9 d;have C:=D.QX q B;obtain⟨l1,l2,l3⟩:=D.src q B;have R:q.At h' i:=h.todo q (by rw[List.drop_eq_getElem_cons y,hqq];exact aK7);refine aK2 (wpAny_onRaise ?_);show wpAny _ _ (Builtin.SmallTypes.nextOf (.ref q.it) >>=_) _ _ _;by_cases hjk:j=k
  ·subst hjk;obtain rfl:qk=q:=(aKn (d.symm.trans L)).symm;have l :=hSk.to (h' :=h') λo e=>h.keep _ o l1 l2 l3 e;refine aK2 (Src.done (s:={s with heap:=h'}) hh R l hik λI e f he=>?_);obtain⟨oe,G,S⟩:=he;have z2:I.get? z=some {cls:= .type "zip",dict:=none,data:= .fields #[.ellipsis,.bool false,.bool false,.ref TI,.ref TO],slots:= #[]}:=f _ _ (aLh C.1) h.obj;have hez:e≠z:=λx=>by subst x;rw[z2]at G;cases G;simp at S
   refine aKm z2 (by simp) λh3 _ T=>hE h3 e (λc o F J U q' =>T.extBut _ _ F (f _ _ (U _ B) (h.keep c o F J U q'))) ⟨oe,T.extBut _ _ hez G,S⟩
  ·obtain⟨items,v,hSq,hit⟩:=X j q d (by lia);have l :q.Sq h' items:=hSq.to λo e=>h.keep _ o l1 l2 l3 e;refine aK2 (Src.item (s:={s with heap:=h'}) R l hit λI at2 f=>aK3 ?_);obtain⟨xs,n,hxl,hxt,hO⟩:=h.own;have H:I.get? TO=some {cls:= .type "tuple",data:= .seq xs.toArray n}:=f.extBut _ _ (aLh C.2.2) hO;refine aK2 (m:=seqItems? (.ref TO)) (aL5 H rfl ?_);refine aK2 (aN9 H rfl ?_);refine aK2 (wpAny_letGo (aK3 ?_))
   have t:∀(k:Nat) p,qs[k]? =some p->k≠j->p.it≠q.it:=λk p g hne e=>by
    have h1:(qs.map (·.it))[k]? =some q.it:=by rw[List.getElem?_map,g];simp[e]
    have I:(qs.map (·.it))[j]? =some q.it:=by rw[List.getElem?_map,d];rfl
    obtain⟨a1,b1⟩:=aK5.mp h1;obtain⟨a2,b2⟩:=aK5.mp I;refine hne ?_;have pw:=aMf.mp D.nd;rcases aMy k j with hlt | heq | hlt
    ·exact absurd (b1.trans b2.symm) (pw k j a1 a2 hlt)
    ·exact heq
    ·exact absurd (b2.trans b1.symm) (pw j k a2 a1 hlt)
   have up:∀c o,c≠TO->c≠q.it->h'.get? c=some o->(I.update TO (Obj.mapSeq λx=>x.setIfInBounds j v)).get? c=some o:=λc o F J e=>(aKw ..).extBut _ _ F (f.extBut _ _ J e);refine⟨j+1,_,xs.set j v,rfl,er,by lia,⟨up _ _ (aLh D.ne2) (aLh C.1) h.obj,⟨xs.set j v,n,by simpa using hxl,rfl,?_⟩,λp V=>?_,λp V=>?_,?_,λc o F J U e=>up c o J (U q B) (h.keep c o F J U e)⟩⟩
   ·rw[Heap.get?_update_self _ H (by rfl)];simp[Obj.mapSeq]
   ·rw[List.take_add_one,d]at V;rcases aKi.mp V with z | z
    ·obtain⟨k,g⟩:=aMd z
     have hkj:k<j:=by
      have:=(aK5.mp g).1;rw[List.length_take]at this;lia
     rw[List.getElem?_take_of_lt hkj]at g;exact(h.done p z).to λo e=>up _ o (D.QX p (aK9 g)).2.2 (t k p g (by lia)) e
    ·have:p=q:=by simpa using z
     subst this;exact at2.to λo e=>(aKw ..).extBut _ _ C.2.2 e
   ·obtain⟨k,g⟩:=aMd V;rw[List.getElem?_drop]at g;have hp' :p∈qs.drop j:=by rw[List.drop_eq_getElem_cons y];exact aK8 _ V
    exact(h.todo p hp').to λo e=>up _ o (D.QX p (aK9 g)).2.2 (t _ p g (by lia)) e
   ·rw[Heap.size_update,f.1];exact h.size
variable{Q:Option Value->Shared->Prop}
theorem x5{z TI TO:Addr}{vals:List Value}(D:p9 z TI TO qs)(Z:l6 s.heap z TI TO qs .none i)(a:qs≠[])
  (d:vals.length=qs.length) (e:∀(k:Nat) q x,qs[k]? =some q->vals[k]? =some x->∃items,q.Sq s.heap items/\items[i]? =some x) (hsz:qs.length<=sizeLine)
  (f:∀h',l6 h' z TI TO qs (rawInt s.heap.objs.size) (i+1)->h'.get? s.heap.objs.size=some {cls:= .type "tuple",data:= .seq vals.toArray}->h'.objs.size=s.heap.objs.size+1->
   (∀c o,c≠z->c≠TO->(∀q∈qs,c≠q.it)->s.heap.get? c=some o->h'.get? c=some o)->Q (some (.ref s.heap.objs.size)) {s with heap:=h'}):
  wpAny (model prog w) A (pyNext (.ref z)) Q E s:=by
 have b:s.TypeIs (.ref z) "zip":=⟨_,Z.obj,rfl⟩
 unfold pyNext
 exact aK2 (aLn (aKl (name:=Str.ofString "__next__") b aMm (aKk aMm b F.entry_zip_next
  (NU D Z a d e hsz λh' g h j l=>aK3 (f h' g h j l)) (F.args_zip_next_1 _))))
theorem A9{z TI TO:Addr}{i k:Nat}(d:A.handled=none)(D:p9 z TI TO qs)(Z:l6 s.heap z TI TO qs .none i)
  (f:∀(j:Nat) q,qs[j]? =some q->j<k->∃items x,q.Sq s.heap items/\items[i]? =some x) (g:∃q items,qs[k]? =some q/\q.Sq s.heap items/\items[i]? =none) (hsz:qs.length<=sizeLine)
  (h:∀h',(∀c o,c≠z->c≠TO->(∀q∈qs,c≠q.it)->s.heap.get? c=some o->h'.get? c=some o)->Q none {s with heap:=h'}):wpAny (model prog w) A (pyNext (.ref z)) Q E s:=by
 have a:s.TypeIs (.ref z) "zip":=⟨_,Z.obj,rfl⟩
 unfold pyNext
 refine aK2 (aLn (aKl (name:=Str.ofString "__next__") a aMm (aKk aMm a F.entry_zip_next
  (TF d D Z f g hsz λh' e kp he=>?_) (F.args_zip_next_1 _))))
 obtain⟨o,ho,l⟩:=he;refine aK2 (aM0 (T:= "StopIteration") (b:=true) ⟨o,ho,l⟩ isSubtype_stop ?_);exact aK3 (h _ kp)
theorem aCg{elts:List Expr}{x1}{z TI TO T:Addr}{Q:Unit->Shared->Prop}(D:p9 z TI TO qs)(Z:l6 s.heap z TI TO qs (rawInt T) i)
  (d:∀h',l6 h' z TI TO qs .none i->Heap.SameBut z s.heap h' ->Q () {s with heap:=h'}):wpAny (model prog w) A (letOwnedTupleGo (.Tuple elts x1 pos) (.ref z) (.ref T)) Q E s:=by
 unfold letOwnedTupleGo;refine aK2 (wpAny_load Z.obj ?_);show wpAny _ _ (if (["enumerate","zip","dict_itemiterator","dict_reverseitemiterator","odict_iterator","itertools.zip_longest","itertools.pairwise"].contains "zip" && (#[rawInt T,.bool false,.bool false,.ref TI,.ref TO]:Array Value)[0]? ==some (rawInt T))=true then _ else _) Q E s;rw[if_pos (by simp)];refine aK2 (aL9 ?_);show wpAny _ _ (setField (.ref z) 0 .none) Q E s;refine aKm Z.obj (by simp) λh' b a=>d h' ⟨b,?_,?_,λq c=>(Z.at_ q c).to λo e=>a.extBut _ _ (D.QX q c).1 e⟩ a
 ·obtain⟨n,e⟩:=Z.aL;exact⟨n,a.extBut _ _ D.ne1 e⟩
 ·obtain⟨xs,n,l,e⟩:=Z.own;exact⟨xs,n,l,a.extBut _ _ D.ne2 e⟩
theorem ES{z TI TO:Addr}{f0:Value}{Q:aNr}(Z:l6 s.heap z TI TO qs f0 i)(h:Q (.ref z) s):wpAny (model prog w) A (pyIter (.ref z)) Q E s:=by
 have a:s.TypeIs (.ref z) "zip":=⟨_,Z.obj,rfl⟩
 refine aMw a F.slot_zip_iter (aKk F.slot_zip_iter a F.entry_zip_iter ?_ (F.args_zip_iter_1 _));exact aK3 ⟨_,rfl,"zip",_,a,aMm.lookup,h⟩
end
section
variable {prog:Program}{w:World}{A:Around}{E:aNr}{s:Shared}
def bV:Nat->List Src->List Src
 | _,[]=>[]
 | n,q::r=>⟨n,q.l,q.tup⟩::bV (n+1) r
theorem j3:∀(n:Nat) (qs:List Src),(bV n qs).length=qs.length
 | _,[]=>rfl
 | n,_::r=>by simp[bV,j3 (n+1) r]
theorem gA:∀{n:Nat} {qs:List Src} {p:Src},p∈bV n qs->n<=p.it/\p.it<n+qs.length/\∃q∈qs,p.l=q.l/\p.tup=q.tup
 | n,q::r,p,h=>by
  rcases aKd.mp h with rfl | h
  ·exact⟨aK6 _,by simp,q,aK7,rfl,rfl⟩
  ·obtain⟨a,b,q',c,d⟩:=gA h;exact⟨Nat.le_of_succ_le a,Nat.lt_of_lt_of_eq b (by simp only[List.length_cons];lia),q',aK8 _ c,d⟩
theorem rD:∀(n:Nat) (qs:List Src),((bV n qs).map (·.it)).Nodup
 | _,[]=>by simp[bV]
 | n,q::r=>by
  simp only[bV,List.map_cons,List.nodup_cons];refine⟨λh=>?_,rD (n+1) r⟩;obtain⟨p,a,e⟩:=aKe.mp h;have b:=(gA a).1;have c :p.it=n:=e;exact absurd b (by rw[c];exact Nat.not_succ_le_self n)
theorem tU{Q:Array Value->Shared->Prop}:∀(qs:List Src) (a:Array Value) (s:Shared),(∀q∈qs,∃items,q.Sq s.heap items)->
  (∀h',h'.objs.size=s.heap.objs.size+qs.length->(∀b o,s.heap.get? b=some o->h'.get? b=some o)->(∀p∈bV s.heap.objs.size qs,p.At h' 0)->Q (a++((bV s.heap.objs.size qs).map λp=>Value.ref p.it).toArray) {s with heap:=h'})->
  wpAny (model prog w) A (forIn (qs.map λq=>Value.ref q.l) a λx aL=>do let r<-holding aL.toList (pyIter x);pure (ForInStep.yield (aL.push r))) Q E s
 | [],a,s,_,hQ=>by
  have:=hQ s.heap (by simp) (λ_ _ e=>e) (by simp[bV]);simp only[List.map_nil,List.forIn_nil];refine aK3 ?_;simpa[bV] using this
 | q::r,a,s,hs,hQ=>by
  obtain⟨items,m⟩:=hs q aK7;simp only[List.map_cons,List.forIn_cons];refine aK2 (aK2 (aKq (Src.start m λh' at' sz kp=>aK3 ?_)));refine tU r (a.push (.ref s.heap.objs.size)) {s with heap:=h'} (λq' h =>?_) λg i c j=>?_
  ·obtain⟨k,n⟩:=hs q' (aK8 _ h);exact⟨k,n.to λo e=>kp _ o e⟩
  ·have t:g.objs.size=s.heap.objs.size+(q::r).length:=by
    have:g.objs.size=h'.objs.size+r.length:=i;rw[this,sz,List.length_cons];lia
   have d :h'.objs.size=s.heap.objs.size+1:=sz;have f :∀p∈bV (s.heap.objs.size+1) r,p.At g 0:=by rw[<-d];exact j
   have:=hQ g t (λb o e=>c b o (kp b o e)) (λp hp=>by
    rcases aKd.mp hp with rfl | hp
    ·exact at'.to λo e=>c _ o e
    ·exact f p hp)
   have u:(a.push (.ref s.heap.objs.size)++((bV h'.objs.size r).map λp=>Value.ref p.it).toArray)=(a++((bV s.heap.objs.size (q::r)).map λp=>Value.ref p.it).toArray):=by
    rw[d];simp[bV]
   show Q (a.push (.ref s.heap.objs.size)++((bV h'.objs.size r).map λp=>Value.ref p.it).toArray) _;rw[u];exact this
theorem W8:(5:Nat)<=sizeLine+2:=Nat.add_le_add_right (by decide:3<=sizeLine) 2
theorem GZ(qs:List Src)(hsz:qs.length<=sizeLine):Meets (Builtin.«zip.__new__» ⟨.type "zip"::(qs.map λq=>Value.ref q.l),[]⟩) (λ_ R s=>(∀q∈qs,∃items,q.Sq s.heap items)/\
   ∀h' z TI TO,s.heap.objs.size+qs.length<=TI->TI≠TO->TI≠z->TO≠z->s.heap.objs.size+qs.length<=TO->s.heap.objs.size+qs.length<=z->l6 h' z TI TO (bV s.heap.objs.size qs) .none 0->(∀b o,s.heap.get? b=some o->h'.get? b=some o)->R (.ok (.ret (.ref z))) {s with heap:=h'}):=
 .of_wp λprog w A R s h=>by
  obtain⟨hs,d⟩:=h;unfold Builtin.«zip.__new__»;have f:=sub_zip;refine aK2 (m:=Builtin.SmallTypes.newClass "zip" _) ?_;unfold Builtin.SmallTypes.newClass
  wp_walk
  refine tU qs #[] s hs λh' sz kp at' =>?_;have a:(bV s.heap.objs.size qs).length=qs.length:=j3 _ _;have j:((#[]:Array Value)++((bV s.heap.objs.size qs).map λp=>Value.ref p.it).toArray).toList=(bV s.heap.objs.size qs).map λp=>Value.ref p.it:=by simp
  refine aK3 ?_;simp only[j];refine aK2 (aMb ?_ (by simp[a];exact hsz));refine aK2 (aMb ?_ (by simp[a];exact hsz));unfold Builtin.SmallTypes.newRecord;dsimp only;refine aK2 (aKt ?_ W8);refine aK3 ⟨_,rfl,?_⟩;generalize c:bV s.heap.objs.size qs=ls at a at' d⊢;have k:(h'.push {cls:= .type "tuple",data:= .seq ((ls.map λp=>Value.ref p.it).toArray)}).objs.size=h'.objs.size+1:=aMc ..;have g:(h'.push {cls:= .type "tuple",data:= .seq ((ls.map λp=>Value.ref p.it).toArray)}).get? h'.objs.size=some _:=aKa _ rfl;have k1:∀b o,h'.get? b=some o->(h'.push {cls:= .type "tuple",data:= .seq ((ls.map λp=>Value.ref p.it).toArray)}).get? b=some o:=λb o e=>aK4 _ e;generalize n:h'.push {cls:= .type "tuple",data:= .seq ((ls.map λp=>Value.ref p.it).toArray)}=h1 at k g k1⊢;have r:(h1.push {cls:= .type "tuple",data:= .seq ((List.map (λx=>Value.none) (ls.map λp=>Value.ref p.it)).toArray)}).objs.size=h1.objs.size+1:=aMc ..;have i:(h1.push {cls:= .type "tuple",data:= .seq ((List.map (λx=>Value.none) (ls.map λp=>Value.ref p.it)).toArray)}).get? h1.objs.size=some _:=aKa _ rfl;have k2:∀b o,h1.get? b=some o->(h1.push {cls:= .type "tuple",data:= .seq ((List.map (λx=>Value.none) (ls.map λp=>Value.ref p.it)).toArray)}).get? b=some o:=λb o e=>aK4 _ e;generalize t:h1.push {cls:= .type "tuple",data:= .seq ((List.map (λx=>Value.none) (ls.map λp=>Value.ref p.it)).toArray)}=h2 at r i k2⊢;refine d _ h2.objs.size h'.objs.size h1.objs.size (by lia) (by lia) (by lia) (by lia) (by lia) (by lia) ⟨?_,⟨0,?_⟩,⟨List.map (λx=>Value.none) (ls.map λp=>Value.ref p.it),0,by simp[c],?_⟩,λq u=>?_⟩ λb o e=>aK4 _ (k2 _ _ (k1 _ _ (kp b o e)))
  ·exact aKa _ rfl
  ·exact aK4 _ (k2 _ _ g)
  ·exact aK4 _ i
  ·exact(at' q u).to λo e=>aK4 _ (k2 _ _ (k1 _ _ e))
theorem NF{qs:List Src}(hsz:qs.length<=sizeLine)(j:checkTypeCall "zip" ⟨qs.map λq=>Value.ref q.l,[]⟩=pure ())(hN:checkBuiltinCall "zip.__new__" ⟨.type "zip"::qs.map λq=>Value.ref q.l,[]⟩=pure ())
  (k:∀obj,argsOk "object.__init__" ⟨obj::qs.map λq=>Value.ref q.l,[]⟩) (hs:∀q∈qs,∃items,q.Sq s.heap items)
  (h:∀h' z TI TO,s.heap.objs.size<=TI->s.heap.objs.size<=TO->s.heap.objs.size<=z->p9 z TI TO (bV s.heap.objs.size qs)->l6 h' z TI TO (bV s.heap.objs.size qs) .none 0->(∀b o,s.heap.get? b=some o->h'.get? b=some o)->Q (.ref z) {s with heap:=h'}):
  wpAny (model prog w) A (call (.type "zip") (qs.map λq=>Value.ref q.l)) Q E s:=by
 refine callType_new F.called_zip (by decide) j hN k F.entry_zip_new (GZ qs hsz) ⟨hs,λh' z TI TO m p t u g i Z kp=>?_⟩;refine⟨⟨_,Z.obj,rfl⟩,h h' z TI TO (by lia) (by lia) (by lia) ⟨t,u,p,λq d=>?_,rD _ _,λq d=>?_⟩ Z kp⟩
 ·obtain⟨v,c,_⟩:=gA d;exact⟨aKg (aKh c i),aKg (aKh c m),aKg (aKh c g)⟩
 ·obtain⟨v,c,q',e,x,_⟩:=gA d;obtain⟨items,f⟩:=hs q' e;obtain⟨o,n,ho,_⟩:=f.obj;have a:q.l<s.heap.objs.size:=by rw[x];exact aKb ho
  exact⟨aKg (aKh a (aKr (Nat.le_add_right _ _) i)),aKg (aKh a (aKr (Nat.le_add_right _ _) g)),λr y=>aKg (aKh a (gA y).1)⟩
end
def F6(K:aNq)(H:Hp)(t:Bool)(a:Addr)(xs:List V):Prop:=match t with | true=>t9 K H a xs | false=>qB K H a xs
def Itz(K:aNq)(src:List (Addr×Bool)):It where
 go:=λi H=>∃vs:List V,vs.length=src.length/\∀(k:Nat) a t v,src[k]? =some (a,t)->vs[k]? =some v->∃xs,F6 K H t a xs/\xs[i]? =some v
 yld:=λi H x H' =>∃p vs,H p=none/\x= .ref p/\H' =upd H p (.tup vs)/\vs.length=src.length/\∀(k:Nat) a t v,src[k]? =some (a,t)->vs[k]? =some v->∀xs,F6 K H t a xs->xs[i]? =some v
 stop:=λi H=>∃(k:Nat) (a:Addr) (t:Bool) (xs:List V),src[k]? =some (a,t)/\F6 K H t a xs/\xs.length<=i/\∀(j:Nat) b u,j<k->src[j]? =some (b,u)->∃c,F6 K H u b c/\i<c.length
section
variable {X:Cx}{pins:List (Addr×Obj)}{σ:St}{H:Hp}{s:Shared}
theorem Inv.ZI{t:Bool}{a:Addr}{xs:List V}(I:Inv X pins σ H s)(h:F6 X.K H t a xs):∃aL:List Value,Vals xs aL/\∀it,(⟨it,a,t⟩:Src).Sq s.heap aL.toArray:=by
 cases t with
 | true=>obtain⟨aL,r,p,_⟩:=I.tuple h;exact⟨aL,r,λ_=>p⟩
 | false=>obtain⟨aL,r,p,_⟩:=I.list h;exact⟨aL,r,λ_=>p.isList⟩
theorem Inv.JD{t:Bool}{a:Addr}{xs b:List V}(I:Inv X pins σ H s)(h:F6 X.K H t a xs)(h' :F6 X.K H t a b):xs=b:=by
 cases t with
 | true=>exact I.y4 h h'
 | false=>exact I.EI h h'
theorem Inv.YR{fp:List Addr}{t' :Nat}{p:Addr}{o:HO}(I:Inv X pins σ H s)(d:∀b∈fp,xW X pins H b)(k:∀b o,b∉fp->s.heap.get? b=some o->h'.get? b=some o)
  (h:s.heap.objs.size<=p) (new:cT X.prog X.w (upd H p o) h' p o):Inv X pins σ (upd H p o) {s with heap:=h',toks:=t'}:=by
 have f:H p=none:=I.cI.fresh h;have g:∀b u,H b=some u->b∉fp:=λb u e z=>by rw[(d b z).1]at e;cases e
 refine I.step (g' :=s.gens) (d' :=s.drawn) (ch:=fp) (λb a=>⟨(d b a).2.2.2.1,(d b a).2.1,(d b a).2.2.2.2.1,(d b a).2.2.2.2.2⟩) (λb o _ _ hc e _=>k b o hc e) (λb o _ _ hc e _=>⟨o.slots,k b o hc e⟩)
  (λb o _ e n=>by rw[aW (Nat.ne_of_lt (Nat.lt_of_lt_of_le (Heap.lt_size e) h))];exact n) (λb o hc e=>⟨o,k b o hc e⟩) (λb xs e=>by rw[aW (bM e f)];exact e) (λb o u e=>by rw[aW (bM e f)];exact e)
  (λb ps e=>⟨#[],by rw[aW (bM e f),e];simp⟩) (λm hm=>?_) (λb u e=>?_) I.bare
 ·obtain⟨o,es,ep,ho,r⟩:=hm;exact⟨o,es,ep,k _ o (λz=>(d _ z).2.1 rfl) ho,r⟩
 ·by_cases a:b=p
  ·subst a;rw[b9]at e;cases e;exact new
  ·rw[aW a]at e;refine(I.cI b u e).GF (λc v hc q=>k c v ?_ q) (λc q=>by rw[aW (bM q f)];exact q) λc xs q=>by rw[aW (bM q f)];exact q
   rcases hc with rfl | hc
   ·exact g _ u e
   ·exact g _ _ hc
theorem Inv.RL{fp:List Addr}{t' :Nat}(I:Inv X pins σ H s)(a:∀b∈fp,xW X pins H b)(k:∀b o,b∉fp->s.heap.get? b=some o->h'.get? b=some o):Inv X pins σ H {s with heap:=h',toks:=t'}:=by
 have d:∀b u,H b=some u->b∉fp:=λb u e z=>by rw[(a b z).1]at e;cases e
 refine I.step (g' :=s.gens) (d' :=s.drawn) (ch:=fp) (λb f=>⟨(a b f).2.2.2.1,(a b f).2.1,(a b f).2.2.2.2.1,(a b f).2.2.2.2.2⟩) (λb o _ _ hc e _=>k b o hc e) (λb o _ _ hc e _=>⟨o.slots,k b o hc e⟩)
  (λb o _ e n=>n) (λb o hc e=>⟨o,k b o hc e⟩) (λb xs e=>e) (λb o u e=>e) (λb ps e=>⟨#[],by rw[e];simp⟩) (λm hm=>?_) (λb u e=>?_) I.bare
 ·obtain⟨o,es,ep,ho,r⟩:=hm;exact⟨o,es,ep,k _ o (λz=>(a _ z).2.1 rfl) ho,r⟩
 ·refine(I.cI b u e).GF (λc v hc q=>k c v ?_ q) (λ_ q=>q) λ_ _ q=>q;rcases hc with rfl | hc
  ·exact d _ u e
  ·exact d _ _ hc
end
theorem YG{P:Nat->Value->Prop}:∀{vs:List V},(∀(k:Nat) v,vs[k]? =some v->∃u,RelV v u/\P k u)->∃us,Vals vs us/\∀(k:Nat) u,us[k]? =some u->P k u
 | [],_=>⟨[],.nil,λk u e=>by simp at e⟩
 | v::r,h=>by
  obtain⟨u,a,b⟩:=h 0 v rfl;obtain⟨us,rs,ps⟩:=YG (P:=λk u=>P (k+1) u) (vs:=r) λk v e=>h (k+1) v (by simpa using e);refine⟨u::us,.cons a rs,λk w e=>?_⟩
  cases k with
  | zero=>simp at e;subst e;exact b
  | succ k=>exact ps k w (by simpa using e)
theorem N4{K:aNq}{elts:List Expr}{x1}{z TI TO:Addr}{qs:List Src}(D:p9 z TI TO qs)(B:qs≠[])(hsz:qs.length<=sizeLine):
  Turn P w K (.Tuple elts x1 pos) (Itz K (qs.map λq=>(q.l,q.tup))) (z::TI::TO::qs.map (·.it)) z (λi h=>l6 h z TI TO qs .none i) where
 mem:=aK7
 obj:=λi h Z b hb=>by
  rcases aKd.mp hb with rfl | hb
  ·exact⟨_,Z.obj,λv e=>by cases e⟩
  rcases aKd.mp hb with rfl | hb
  ·obtain⟨n,e⟩:=Z.aL;exact⟨_,e,λv e=>by cases e⟩
  rcases aKd.mp hb with rfl | hb
  ·obtain⟨xs,n,_,e⟩:=Z.own;exact⟨_,e,λv e=>by cases e⟩
  obtain⟨q,c,rfl⟩:=aKe.mp hb;obtain⟨o,ho,hd⟩:=(Z.at_ q c).obj;exact⟨o,ho,λv e=>by rw[hd]at e;cases e⟩
 keep:=λi h h' Z k=>by
  refine⟨k z (by simp) _ Z.obj,?_,?_,λq c=>(Z.at_ q c).to λo e=>k q.it (by simp;exact .inr (.inr (.inr ⟨q,c,rfl⟩))) o e⟩
  ·obtain⟨n,e⟩:=Z.aL;exact⟨n,k TI (by simp) _ e⟩
  ·obtain⟨xs,n,l,e⟩:=Z.own;exact⟨xs,n,l,k TO (by simp) _ e⟩
 item:=by
  intro X C F G V i pins s σ H E I p Z hg;subst C F G;obtain⟨vs,y,W⟩:=hg;have J:vs.length=qs.length:=by simpa using y
  obtain⟨us,Y,pu⟩:=YG (P:=λk u=>∀q,qs[k]? =some q->∃items,q.Sq s.heap items/\items[i]? =some u) (vs:=vs) λk v e=>by
   have g:k<qs.length:=by have:=(aK5.mp e).1;lia
   have d:qs[k]? =some qs[k]:=aL6 g;obtain⟨xs,hx,hi⟩:=W k qs[k].l qs[k].tup v (by rw[List.getElem?_map,d];rfl) e;obtain⟨aL,rv,hs⟩:=I.ZI hx;obtain⟨u,L,r⟩:=rv.get hi;refine⟨u,r,λq c=>?_⟩;rw[d]at c;cases c;exact⟨aL.toArray,hs qs[k].it,by simpa using L⟩
  have M:us.length=qs.length:=by rw[<-Y.length,J]
  refine x5 D Z B M (λk q x c hx=>pu k x hx q c) hsz λh1 Z1 t1 z1 k1=>?_;refine⟨_,rfl,aCg (s:={s with heap:=h1}) D Z1 λh2 Z2 m=>?_⟩;have f:s.heap.objs.size≠z:=aLe (aKb Z.obj)
  have kk:∀b o,b∉(z::TI::TO::qs.map (·.it))->s.heap.get? b=some o->h2.get? b=some o:=λb o hb e=>by
   have b1:b≠z:=λz=>hb (by simp[z]);have b2:b≠TO:=λz=>hb (by simp[z]);exact m.extBut _ _ b1 (k1 b o b1 b2 (λq c z=>hb (by simp;exact .inr (.inr (.inr ⟨q,c,z.symm⟩)))) e)
  refine⟨.ref s.heap.objs.size,upd H s.heap.objs.size (.tup vs),I.YR (t' :=s.toks) p kk (aK6 _) ⟨by lia,us,Y,⟨_,m.extBut _ _ f t1,rfl,0,rfl⟩,λo e=>by rw[m.extBut _ _ f t1]at e;cases e;rfl⟩,rfl,?_,Z2,λb hb=>?_⟩
  ·refine⟨s.heap.objs.size,vs,I.cI.fresh (aK6 _),rfl,rfl,y,λk a t v hs N xs hx=>?_⟩;obtain⟨ys,O,hi⟩:=W k a t v hs N;rw[I.JD hx O];exact hi
  ·have R:=(p b hb).1
   have:b≠s.heap.objs.size:=by
    rintro rfl
    have ho:∃o,s.heap.get? s.heap.objs.size=some o:=by
     rcases aKd.mp hb with e | hb
     ·rw[e];exact⟨_,Z.obj⟩
     rcases aKd.mp hb with e | hb
     ·rw[e];obtain⟨n,e⟩:=Z.aL;exact⟨_,e⟩
     rcases aKd.mp hb with e | hb
     ·rw[e];obtain⟨xs,n,_,e⟩:=Z.own;exact⟨_,e⟩
     obtain⟨q,c,e⟩:=aKe.mp hb;have e' :q.it=s.heap.objs.size:=e;rw[<-e'];obtain⟨o,ho,_⟩:=(Z.at_ q c).obj;exact⟨o,ho⟩
    obtain⟨o,ho⟩:=ho;exact absurd (aKb ho) (aM7 _)
   rw[aW this];exact R
 done:=by
  intro X C F G V i pins s σ H E I p Z hg;subst C F G;obtain⟨k,a,t,xs,g,hx,hle,S⟩:=hg;rw[List.getElem?_map]at g
  cases d:qs[k]? with
  | none=>rw[d]at g;cases g
  | some q=>
   rw[d]at g;have T :(q.l,q.tup)=(a,t):=aKn g;injection T with e1 e2;subst e1 e2
   refine A9 (k:=k) (I.ok.hd V) D Z (λj q' hj U=>?_) ⟨q,?_⟩ hsz λh' kp=>⟨rfl,I.RL (t' :=s.toks) p λb o hb e=>kp b o (λz=>hb (by simp[z])) (λz=>hb (by simp[z])) (λq c z=>hb (by simp;exact .inr (.inr (.inr ⟨q,c,z.symm⟩)))) e⟩
   ·obtain⟨ys,O,y⟩:=S j q'.l q'.tup U (by rw[List.getElem?_map,hj];rfl);obtain⟨aL,r,hs⟩:=I.ZI O;obtain⟨u,L,_⟩:=r.get (aL6 y);exact⟨aL.toArray,u,hs q'.it,by simpa using L⟩
   ·obtain⟨aL,r,hs⟩:=I.ZI hx;refine⟨aL.toArray,d,hs q.it,?_⟩;have:=r.length;rw[List.getElem?_toArray];exact aLt.mpr (by lia)
 self:=λA i s Q E Z h=>ES Z h
structure aGk(m:Nat):Prop where
 t:∀us:List Value,us.length=m->checkTypeCall "zip" ⟨us,[]⟩=pure ()
 n:∀us:List Value,us.length=m->checkBuiltinCall "zip.__new__" ⟨.type "zip"::us,[]⟩=pure ()
 i:∀(us:List Value) (o:Value),us.length=m->argsOk "object.__init__" ⟨o::us,[]⟩
theorem aDr:aGk 2:=⟨λus h=>match us,h with | [a,b],_=>F.typeCall_zip_2 a b,λus h=>match us,h with | [a,b],_=>F.newCall_zip_2 a b,λus o h=>match us,h with | [a,b],_=>F.args_object_init_3 o a b⟩
def aJf(K:aNq)(n:Nat)(b:TA):TI:=λσ H R=>b σ H λvs a=>∃src:List (Addr×Bool),vs=src.map (λp=>V.ref p.1)/\src.length=n/\(∀p∈src,∃xs,F6 K a p.2 p.1 xs)/\R (Itz K src) a
theorem yZ:∀{src:List (Addr×Bool)} {us:List Value},Vals (src.map λp=>V.ref p.1) us->us=src.map λp=>Value.ref p.1
 | [],us,h=>by cases h;rfl
 | p::r,us,h=>by
  cases h with
  | cons a b=>rw[yZ b];cases a;rfl
theorem wJ:∀(src:List (Addr×Bool)) (m:Nat),((bV m (src.map λp=>(⟨0,p.1,p.2⟩:Src))).map λq=>(q.l,q.tup))=src
 | [],_=>rfl
 | p::r,m=>by simp only[List.map_cons,bV];rw[wJ r (m+1)]
theorem Z5{e:Expr}{es:List Expr}{v:TA}{p pos:Pos}{elts:List Expr}{x1}{a:Pos}(z:aGk n)(Q:0<n/\n<=1000)(hg:Gl X "zip")(hm:X.mg "zip"=none)(ha:PA X (e::es) v)
  (x:bootBuiltins "zip"=some (.type "zip"):=by decide+kernel)
  (he:starEach (e::es) X.env=(false,eval e X.env)::starEach es X.env:=by rfl) (m:(backTo pos (starEach es X.env)).any (·.1)=false:=by rfl):
  PI X (.Tuple elts x1 a) (.Call (.Name "zip" p) (e::es) [] pos) (aJf X.K n v):=by
 intro pins s σ H R I h;refine aM3 (pZ I hg hm x ?_);refine aLd (dJ (ha pos pins s σ H _ I h) λus s1 ⟨vs,o,j,y,A⟩=>?_) he m;obtain⟨src,rfl,r,hs,B⟩:=A;have C:=yZ y;subst C;have em:(src.map λp=>Value.ref p.1)=(src.map λp=>(⟨0,p.1,p.2⟩:Src)).map λq=>Value.ref q.l:=by rw[List.map_map];rfl
 have hz:src.length<=sizeLine:=aLy (LM (by lia));rw[em];refine NF (by simpa using hz) (z.t _ (by simpa using r)) (z.n _ (by simpa using r)) (λobj=>z.i _ obj (by simpa using r)) (λq k=>?_) λh' E TI TO F G J D Z kp=>?_
 ·obtain⟨p,L,rfl⟩:=aKe.mp k;obtain⟨xs,hx⟩:=hs p L;obtain⟨aL,_,u⟩:=j.ZI hx;exact⟨aL.toArray,u 0⟩
 ·generalize c:bV s1.heap.objs.size (src.map λp=>(⟨0,p.1,p.2⟩:Src))=qs at D Z;have f:qs.length=src.length:=by rw[<-c,j3];simp
  have d:(qs.map λq=>(q.l,q.tup))=src:=by rw[<-c];exact wJ _ _
  have M:Inv X pins σ o {s1 with heap:=h'}:=j.kept (t' :=s1.toks) kp;have T:=N4 (P:=X.prog) (w:=X.w) (K:=X.K) (elts:=elts) (x1:=x1) (pos:=a) D (by intro N;rw[N]at f;simp at f;lia) (by lia);rw[d]at T;refine ES Z ⟨E,_,_,Itz X.K src,o,rfl,M,T,Z,λb hb=>?_,B⟩
  have g:s1.heap.objs.size<=b:=by
   rcases aKd.mp hb with e | hb
   ·rw[e];exact J
   rcases aKd.mp hb with e | hb
   ·rw[e];exact F
   rcases aKd.mp hb with e | hb
   ·rw[e];exact G
   obtain⟨q,k,e⟩:=aKe.mp hb;rw[<-c]at k;have O :q.it=b:=e;rw[<-O];exact(gA k).1
  exact(j.RM g (j.cI.fresh g):xW X pins o b)
variable {b:Bool}
variable {b:Bool}
end L2
namespace TS
open PySem PyProof.Rows
structure Wk(lt:aNs):Prop where
 SF:∀x y,lt x y=true->lt y x=false
 tr:∀x y z,lt y x=false->lt z y=false->lt z x=false
theorem Wk.Q5{lt:aNs}(O:Wk lt)(x:Keyed):lt x x=false:=by
 cases h:lt x x with
 | false=>rfl
 | true=>exact(O.SF x x h).symm.trans h |>.symm▸rfl
def eL(xs:aNu)(i:Nat):Keyed:=(xs[i]?).getD (Value.none,Value.none)
variable{xs:aNu}{i:Nat}
theorem J5(h:i<xs.size):xs[i]? =some (eL xs i):=by unfold eL;rw[getElem?_pos xs i h];rfl
def Seg(lt:aNs)(xs:aNu)(i j:Nat):Prop:=∀p q,i<=p->p<=q->q<j->lt (eL xs q) (eL xs p)=false
def X2(lt:aNs)(xs:aNu)(i j:Nat):Prop:=∀p q,i<=p->p<=q->q<j->lt (eL xs p) (eL xs q)=false
structure Base(κ:SortKind)(a₀:aNu)(st:SortSt):Prop where
 perm:(arrOf st).Perm a₀
 kind:kindOf st=κ
 cY:failedOf st=none
variable{κ:SortKind}{st:SortSt}
theorem Base.size{a₀:aNu}(h:Base κ a₀ st):(arrOf st).size=a₀.size:=h.perm.size_eq
theorem Base.arr{a₀:aNu}(h:Base κ a₀ st)(p:xs.Perm (arrOf st)):Base κ a₀ (setArr st xs):=⟨p.trans h.perm,h.kind,h.cY⟩
theorem Base.mem{a₀:aNu}(h:Base κ a₀ st)(hi:i<a₀.size):eL (arrOf st) i∈a₀.toList:=by
 have hz:i<(arrOf st).size:=by rw[h.size];exact hi
 have e:=J5 hz;have:eL (arrOf st) i∈arrOf st:=Array.mem_of_getElem? e;exact(Array.perm_iff_toList_perm.mp h.perm).mem_iff.mp this.val
def F7(prog:Program)(w:World)(A:Around)(s:Shared)(κ:SortKind)(lt:aNs)(a₀:aNu):Prop:=
 ∀x y,x∈a₀.toList->y∈a₀.toList->∀Q:Bool->Shared->Prop,Q (lt x y) s->wpAny (model prog w) A (keyLt' κ x.1 y.1) Q (λ_ _=>False) s
section
variable {prog:Program}{w:World}{A:Around}{E:aNr}{s:Shared}{a₀:aNu}{κ:SortKind}{lt:aNs}
variable{Q:Option Bool->SortSt->Prop}
theorem wlt{x y:Keyed}(C:F7 prog w A s κ lt a₀)(c:kindOf st=κ)(hx:x∈a₀.toList)(d:y∈a₀.toList)(h:Q (some (lt x y)) st):wpS (model prog w) A E s (lt' x y) Q st:=by
 rw[lt'_eq];refine aKx (wpS_get ?_);rw[c];refine aKx (wpS_lift (aLn (aLm (C x y hx d (λb a =>b=lt x y/\a =s) ⟨rfl,rfl⟩) (λb a f=>?_) λ_ _ e=>e.elim)));obtain⟨rfl,rfl⟩:=f;exact⟨rfl,aLc h⟩
theorem X8{arr:aNu}{Q:Keyed->SortSt->Prop}(hi:i<arr.size)(h:Q (eL arr i) st):wpS (model prog w) A E s (elem' arr i) Q st:=by
 rw[elem'_eq,J5 hi];exact aLc h
theorem C4{i j:Nat}(C:F7 prog w A s κ lt a₀)(a:Base κ a₀ st)(hi:i<a₀.size)(b:j<a₀.size)(h:Q (some (lt (eL (arrOf st) i) (eL (arrOf st) j))) st):
  wpS (model prog w) A E s (ltAt' i j) Q st:=by
 rw[ltAt'_eq];refine aKx (wpS_get ?_);have z:=a.size;exact aKx (X8 (by rw[z];exact hi) (aKx (X8 (by rw[z];exact b) (wlt C a.kind (a.mem hi) (a.mem b) h))))
theorem p5{src d:Nat}(hs:src<xs.size)(hd:d<=src)(k:Nat):eL (bubble xs src d) k=if k=src-d then eL xs src else if src-d<k/\k<=src then eL xs (k-1) else eL xs k:=by
 have e:=getElem?_bubble hs d hd k;unfold eL;rw[e]
 repeat' split
 all_goals rfl
theorem i5{i j:Nat}(a:j<=xs.size)(k:Nat):eL (mirror xs i j ((j-i) / 2)) k=if i<=k/\k<j then eL xs (i+j-1-k) else eL xs k:=by
 have e:=getElem?_mirror_all (i:=i) a k;unfold eL;rw[e];split <;> rfl
theorem TJ(O:Wk lt)(C:F7 prog w A s κ lt a₀){lo n ok:Nat}{Q:Bool->SortSt->Prop}(H:lo+n<=a₀.size)(cI:ok<=n)(K:Base κ a₀ st)(hs:Seg lt (arrOf st) lo (lo+ok))
  (h:∀a,Base κ a₀ a ->Seg lt (arrOf a) lo (lo+n)->(∀k,k<lo->eL (arrOf a) k=eL (arrOf st) k)->pendingOf a =pendingOf st->Q true a):wpS (model prog w) A E s (binarySort' lo n ok) Q st:=by
 rw[binarySort'_eq]
 refine aKx (wpS_mono (aMz (I:=λk c a =>c=(none,())/\Base κ a₀ a /\Seg lt (arrOf a) lo (lo+min k n)/\(∀k,k<lo->eL (arrOf a) k=eL (arrOf st) k)/\pendingOf a =pendingOf st)
  (Q:=λc a =>c=(none,())/\Base κ a₀ a /\Seg lt (arrOf a) lo (lo+n)/\(∀k,k<lo->eL (arrOf a) k=eL (arrOf st) k)/\pendingOf a =pendingOf st) ?step ?fin ?init) ?post)
 case post=>
  rintro c a ⟨rfl,e,d,m,o⟩;exact aLc (h a e d m o)
 case init=>
  refine⟨rfl,K,λp q z t J=>?_,λ_ _=>rfl,rfl⟩;by_cases y:p=q
  ·subst y;exact O.Q5 _
  ·exact hs p q z t (by lia)
 case fin=>
  rintro c a ⟨L,e,d,r⟩;refine⟨L,e,?_,r⟩
  rwa [show min (max (max ok 1) n) n=n by (clear r cI H;lia)]at d
 case step=>
  rintro k c a B D ⟨rfl,e,d,m,o⟩;rw[show min k n=k by lia]at d;have F:lo+k<a₀.size:=by lia
  refine aKx (wpS_mono (aMz (I:=λx c b =>b =a /\∃l r,c=(none,l,r)/\l<=r/\r<=k/\r-l<=k-x/\
    (∀i,i<l->lt (eL (arrOf a) (lo+k)) (eL (arrOf a) (lo+i))=false)/\(∀i,r<=i->i<k->lt (eL (arrOf a) (lo+k)) (eL (arrOf a) (lo+i))=true))
   (Q:=λc b =>b =a /\∃l r,c=(none,l,r)/\l<=k/\
    (∀i,i<l->lt (eL (arrOf a) (lo+k)) (eL (arrOf a) (lo+i))=false)/\(∀i,l<=i->i<k->lt (eL (arrOf a) (lo+k)) (eL (arrOf a) (lo+i))=true)) ?istep ?ifin ?iinit) ?ipost)
  case iinit=>exact⟨rfl,0,k,rfl,by lia,by lia,by lia,λi hi=>by lia,λi y M=>by lia⟩
  case ifin=>
   rintro c b ⟨rfl,l,r,rfl,G,u,hm,f,g⟩;obtain rfl:l=r:=by lia
   exact⟨rfl,l,l,rfl,u,f,g⟩
  case istep=>
   rintro x c b _ N ⟨rfl,l,r,rfl,G,u,hm,f,g⟩;dsimp only;by_cases v:l>=r
   ·rw[if_pos v];obtain rfl:l=r:=by lia
    exact aLc ⟨rfl,l,l,rfl,u,f,g⟩
   ·rw[if_neg v];refine aKx (C4 C e F (by lia) ?_)
    cases hless:lt (eL (arrOf b) (lo+k)) (eL (arrOf b) (lo+(l+r) / 2)) with
    | true=>
     simp only[if_true];refine aLc ⟨rfl,l,(l+r) / 2,rfl,by lia,by lia,by lia,f,λi y M=>?_⟩
     cases hx:lt (eL (arrOf b) (lo+k)) (eL (arrOf b) (lo+i)) with
     | true=>rfl
     | false=>rw[O.tr _ _ _ (d (lo+(l+r) / 2) (lo+i) (by lia) (by lia) (by lia)) hx]at hless;cases hless
    | false=>
     simp only[Bool.false_eq_true,if_false];refine aLc ⟨rfl,(l+r) / 2+1,r,rfl,by lia,by lia,by lia,λi y=>?_,g⟩;exact O.tr _ _ _ (d (lo+i) (lo+(l+r) / 2) (by lia) (by lia) (by lia)) hless
  case ipost=>
   rintro c b ⟨rfl,l,r,rfl,P,f,g⟩;show wpS _ _ _ _ (do moveDown' (lo+k) (lo+l);pure (ForInStep.yield (none,()))) _ _;rw[moveDown'_eq];have yF:lo+k<(arrOf b).size:=by rw[e.size];exact F
   have R:lo+k-(lo+l)=k-l:=by lia
   refine aKx (wpS_modify (aLc ⟨rfl,e.arr (bubble_perm _ _ _),?_,λj S=>?_,o⟩))
   ·rw[show min (k+1) n=k+1 by lia];intro p q z t J;show lt (eL (bubble (arrOf b) (lo+k) (lo+k-(lo+l))) q) (eL (bubble (arrOf b) (lo+k) (lo+k-(lo+l))) p)=false;rw[p5 yF (by lia),p5 yF (by lia),show lo+k-(lo+k-(lo+l))=lo+l by (clear J t z R yF F D B cI H;lia)]
    repeat' split
    all_goals first
     | (exfalso;lia)
     | exact O.Q5 _
     | (have:=f (p-lo) (by lia);rwa [show lo+(p-lo)=p by lia]at this)
     | (have:=O.SF _ _ (g (q-1-lo) (by lia) (by lia));rwa [show lo+(q-1-lo)=q-1 by lia]at this)
     | exact d _ _ (by lia) (by lia) (by lia)
   ·show eL (bubble (arrOf b) (lo+k) (lo+k-(lo+l))) j=_;rw[p5 yF (by lia),if_neg (by lia),if_neg (by lia)];exact m j S
end
def upL(lo a d:Nat):StateT SortSt Sem (Option (Option Nat)×Nat):=
 forIn [a:d] ((none,a):Option (Option Nat)×Nat) λ_ c=>do
  let x<-ltAt' (lo+c.snd) (lo+c.snd-1)
  match x with
  | some b=>if b=true then pure (ForInStep.done (none,c.snd)) else pure (ForInStep.yield (none,c.snd+1))
  | _=>pure (ForInStep.done (some none,c.snd))
def EJ(lo n a:Nat):StateT SortSt Sem (Option Nat):=do
 reverseSlice' lo (lo+n)
 let c<-upL lo n a
 match c.fst with
 | some r=>pure r
 | none=>pure (some c.snd)
def KW(lo n d:Nat):StateT SortSt Sem (Option (Option Nat)×Nat×Nat):=
 forIn [n:d] ((none,n,0):Option (Option Nat)×Nat×Nat) λ_ c=>do
  let x<-ltAt' (lo+c.snd.fst) (lo+c.snd.fst-1)
  match x with
  | some a=>
   if a=true then
    if c.snd.snd > 0 then do
     reverseSlice' (lo+c.snd.fst-(c.snd.snd+1)) (lo+c.snd.fst)
     pure (ForInStep.yield (none,c.snd.fst+1,0))
    else pure (ForInStep.yield (none,c.snd.fst+1,0))
   else do
    let y<-ltAt' (lo+c.snd.fst-1) (lo+c.snd.fst)
    match y with
    | some b=>if b=true then pure (ForInStep.done (none,c.snd.fst,c.snd.snd)) else pure (ForInStep.yield (none,c.snd.fst+1,c.snd.snd+1))
    | _=>pure (ForInStep.done (some none,c.snd.fst,c.snd.snd))
  | _=>pure (ForInStep.done (some none,c.snd.fst,c.snd.snd))
def E2(lo n a:Nat):StateT SortSt Sem (Option Nat):=do
 liftM (rule "list.sort.descending-run")
 let c<-KW lo (n+1) a
 match c.fst with
 | some r=>pure r
 | none=>
  if c.snd.snd > 0 then do
   reverseSlice' (lo+c.snd.fst-(c.snd.snd+1)) (lo+c.snd.fst)
   EJ lo c.snd.fst a
  else EJ lo c.snd.fst a
theorem NA(lo e:Nat):countRun' lo e=(do
  let c<-upL lo 1 e
  match c.fst with
  | some r=>pure r
  | none=>
   if (c.snd==e)=true then pure (some c.snd)
   else if c.snd > 1 then do
    let x<-ltAt' lo (lo+c.snd-1)
    match x with
    | some b=>if b=true then pure (some c.snd) else do
      reverseSlice' lo (lo+c.snd)
      E2 lo c.snd e
    | _=>pure none
   else E2 lo c.snd e):=by
 rw[countRun'_eq];dsimp only;unfold E2 EJ KW upL;congr 1;funext c;obtain⟨r,n⟩:=c
 cases r with
 | some r=>rfl
 | none=>
  dsimp only;have h:∀(a:Option (Option Nat)×Nat),(match a.fst with | some r=>(pure r:StateT SortSt Sem (Option Nat)) | none=>pure (some a.snd))=(match a.fst with | some r=>pure r | none=>pure (some a.snd)):=λ_=>rfl;split
  ·rfl
  ·split
   ·congr 1;funext x
    cases x with
    | none=>rfl
    | some b=>
     dsimp only;split
     ·rfl
     ·congr 1;funext u;congr 1;funext u1;congr 1;congr 1;funext c2;obtain⟨f,i,j⟩:=c2
      cases f with
      | some f=>rfl
      | none=>
       dsimp only;split
       ·congr 1;funext v;congr 1;funext v1;congr 1;funext a;obtain⟨d,g⟩:=a;cases d <;> rfl
       ·congr 1;funext v1;congr 1;funext a;obtain⟨d,g⟩:=a;cases d <;> rfl
   ·congr 1;funext u1;congr 1;congr 1;funext c2;obtain⟨f,i,j⟩:=c2
    cases f with
    | some f=>rfl
    | none=>
     dsimp only;split
     ·congr 1;funext v;congr 1;funext v1;congr 1;funext a;obtain⟨d,g⟩:=a;cases d <;> rfl
     ·congr 1;funext v1;congr 1;funext a;obtain⟨d,g⟩:=a;cases d <;> rfl
section
variable {prog:Program}{w:World}{A:Around}{E:aNr}{s:Shared}{a₀:aNu}{κ:SortKind}{lt:aNs}
theorem TH{i j:Nat}{Q:Unit->SortSt->Prop}(h:Q () (setArr st (mirror (arrOf st) i j ((j-i) / 2)))):wpS (model prog w) A E s (reverseSlice' i j) Q st:=by
 rw[reverseSlice'_eq];exact wpS_modify h
def kY(lo:Nat)(st a :SortSt):Prop:=(∀k,k<lo->eL (arrOf a) k=eL (arrOf st) k)/\pendingOf a =pendingOf st
variable{lo:Nat}
theorem kY.refl:kY lo st st:=⟨λ_ _=>rfl,rfl⟩
theorem kY.trans{a b c:SortSt}(h:kY lo a b)(h' :kY lo b c):kY lo a c:=⟨λk d=>(h'.1 k d).trans (h.1 k d),h'.2.trans h.2⟩
theorem kY.mirror{lo i j:Nat}(hi:lo<=i)(a:j<=(arrOf st).size):kY lo st (setArr st (PyProof.Rows.mirror (arrOf st) i j ((j-i) / 2))):=
 ⟨λk b=>by show eL (PyProof.Rows.mirror (arrOf st) i j ((j-i) / 2)) k=_;rw[i5 a,if_neg (by lia)],rfl⟩
theorem wup(O:Wk lt)(C:F7 prog w A s κ lt a₀){lo a e:Nat}{Q:Option (Option Nat)×Nat->SortSt->Prop}(r:lo+e<=a₀.size)(ha:1<=a)(f:a<=e)(m:Base κ a₀ st)(hs:Seg lt (arrOf st) lo (lo+a))
  (h:∀n,a<=n->n<=e->Seg lt (arrOf st) lo (lo+n)->(n=e\/lt (eL (arrOf st) (lo+n)) (eL (arrOf st) (lo+n-1))=true)->Q (none,n) st):wpS (model prog w) A E s (upL lo a e) Q st:=by
 unfold upL;refine aMz (I:=λx c d =>d =st/\c=(none,x)/\Seg lt (arrOf st) lo (lo+x)) ?step ?fin ⟨rfl,rfl,hs⟩
 case fin=>
  rintro c d ⟨rfl,rfl,b⟩;rw[show max a e=e by lia]at b ⊢;exact h e f (aK6 _) b (.inl rfl)
 case step=>
  rintro x c d g o ⟨rfl,rfl,b⟩;dsimp only;refine aKx (C4 C m (by lia) (by lia) ?_)
  cases hless:lt (eL (arrOf d) (lo+x)) (eL (arrOf d) (lo+x-1)) with
  | true=>
   simp only[if_true];exact aLc (h x g (by lia) b (.inr hless))
  | false=>
   simp only[Bool.false_eq_true,if_false];refine aLc ⟨rfl,rfl,λp q l i t=>?_⟩;by_cases j:q<lo+x
   ·exact b p q l i j
   ·obtain rfl:q=lo+x:=by lia
    by_cases k :p=lo+x
    ·subst k;exact O.Q5 _
    ·exact O.tr _ _ _ (b p (lo+x-1) l (by lia) (by lia)) hless
variable{n cE:Nat}{Q:Option Nat->SortSt->Prop}
theorem X6(O:Wk lt)(C:F7 prog w A s κ lt a₀)(g:lo+cE<=a₀.size)(i:1<=n)(c:n<=cE)(f:Base κ a₀ st)(hs:X2 lt (arrOf st) lo (lo+n))
  (h:∀m a,Base κ a₀ a ->1<=m->m<=cE->Seg lt (arrOf a) lo (lo+m)->kY lo st a ->Q (some m) a):wpS (model prog w) A E s (EJ lo n cE) Q st:=by
 unfold EJ;have hsz:lo+n<=(arrOf st).size:=by rw[f.size];lia
 refine aKx (TH ?_);have b :Base κ a₀ (setArr st (mirror (arrOf st) lo (lo+n) ((lo+n-lo) / 2))):=f.arr (mirror_perm _ _ _ _);refine aKx (wup O C g i c b ?_ λm j d e _=>aLc (h m _ b (by lia) d e (kY.mirror (aK6 _) hsz)));intro p q l k o;show lt (eL (mirror (arrOf st) lo (lo+n) ((lo+n-lo) / 2)) q) (eL (mirror (arrOf st) lo (lo+n) ((lo+n-lo) / 2)) p)=false;rw[i5 hsz,i5 hsz,if_pos (by lia),if_pos (by lia)];exact hs _ _ (by lia) (by lia) (by lia)
def Alike(lt:aNs)(xs:aNu)(i j:Nat):Prop:=∀p q,i<=p->p<j->i<=q->q<j->lt (eL xs p) (eL xs q)=false
theorem p7(O:Wk lt){lo i j n:Nat}(c:j<=xs.size)(he:Alike lt xs i j)(hs:X2 lt xs lo n)(hi:lo<=i)(g:j<=n):X2 lt (mirror xs i j ((j-i) / 2)) lo n:=by
 intro p q d b e;rw[i5 c,i5 c];by_cases f:i<=p/\p<j
 ·rw[if_pos f];by_cases a:i<=q/\q<j
  ·rw[if_pos a];exact he _ _ (by lia) (by lia) (by lia) (by lia)
  ·rw[if_neg a];exact hs _ _ (by lia) (by lia) e
 ·rw[if_neg f];by_cases a:i<=q/\q<j
  ·rw[if_pos a];exact hs _ _ d (by lia) (by lia)
  ·rw[if_neg a];exact hs _ _ d b e
theorem aDt(O:Wk lt)(C:F7 prog w A s κ lt a₀){Q:Option (Option Nat)×Nat×Nat->SortSt->Prop}(H:lo+cE<=a₀.size)(t:1<=n)(u:n<=cE)(z:Base κ a₀ st)(hs:X2 lt (arrOf st) lo (lo+n))
  (h:∀m b a,Base κ a₀ a ->n<=m->m<=cE->X2 lt (arrOf a) lo (lo+m)->b+1<=m->Alike lt (arrOf a) (lo+m-(b+1)) (lo+m)->kY lo st a ->Q (none,m,b) a):wpS (model prog w) A E s (KW lo n cE) Q st:=by
 unfold KW
 have one:∀(xs:aNu) (x:Nat),1<=x->Alike lt xs (lo+x-(0+1)) (lo+x):=λxs x hx p q t B D F=>by
  obtain rfl:p=q:=by lia
  exact O.Q5 _
 refine aMz (I:=λx c a =>∃b,c=(none,x,b)/\Base κ a₀ a /\X2 lt (arrOf a) lo (lo+x)/\b+1<=x/\Alike lt (arrOf a) (lo+x-(b+1)) (lo+x)/\kY lo st a) ?step ?fin ⟨0,rfl,z,hs,by lia,one _ _ t,kY.refl⟩
 case fin=>
  rintro c a ⟨b,rfl,d,e,l,he,o⟩;rw[show max n cE=cE by lia]at e l he⊢;exact h cE b a d u (aK6 _) e l he o
 case step=>
  rintro x c a v G ⟨b,rfl,d,e,l,he,o⟩;dsimp only;have hsz:lo+x<=(arrOf a).size:=by rw[d.size];lia
  refine aKx (C4 C d (by lia) (by lia) ?_)
  cases hless:lt (eL (arrOf a) (lo+x)) (eL (arrOf a) (lo+x-1)) with
  | true=>
   simp only[if_true]
   have g:X2 lt (arrOf a) lo (lo+x+1):=by
    intro p q r j l;by_cases f:q<lo+x
    ·exact e p q r j f
    ·obtain rfl:q=lo+x:=by lia
     by_cases k :p=lo+x
     ·subst k;exact O.Q5 _
     ·exact O.tr _ _ _ (O.SF _ _ hless) (e p (lo+x-1) r (by lia) (by lia))
   by_cases i:b > 0
   ·rw[if_pos i];refine aKx (TH (aLc ⟨0,rfl,d.arr (mirror_perm _ _ _ _),?_,by lia,one _ _ (by lia),o.trans (kY.mirror (by lia) hsz)⟩));exact p7 O hsz he g (by lia) (by lia)
   ·rw[if_neg i];exact aLc ⟨0,rfl,d,g,by lia,one _ _ (by lia),o⟩
  | false=>
   simp only[Bool.false_eq_true,if_false];refine aKx (C4 C d (by lia) (by lia) ?_)
   cases hlarger:lt (eL (arrOf a) (lo+x-1)) (eL (arrOf a) (lo+x)) with
   | true=>
    simp only[if_true];exact aLc (h x b a d v (by lia) e l he o)
   | false=>
    simp only[Bool.false_eq_true,if_false];refine aLc ⟨b+1,rfl,d,λp q r j l=>?_,by lia,λp q t B D F=>?_,o⟩
    ·by_cases f:q<lo+x
     ·exact e p q r j f
     ·obtain rfl:q=lo+x:=by lia
      by_cases k :p=lo+x
      ·subst k;exact O.Q5 _
      ·exact O.tr _ _ _ hlarger (e p (lo+x-1) r (by lia) (by lia))
    ·by_cases y:p=lo+x
     ·subst y;by_cases f:q=lo+x
      ·subst f;exact O.Q5 _
      ·exact O.tr _ _ _ (he (lo+x-1) q (by lia) (by lia) (by lia) (by lia)) hless
     ·by_cases f:q=lo+x
      ·subst f;exact O.tr _ _ _ hlarger (he p (lo+x-1) (by lia) (by lia) (by lia) (by lia))
      ·exact he p q (by lia) (by lia) (by lia) (by lia)
theorem X7(O:Wk lt)(C:F7 prog w A s κ lt a₀)(g:lo+cE<=a₀.size)(i:n+1<=cE)(t:Base κ a₀ st)(hs:X2 lt (arrOf st) lo (lo+(n+1)))
  (h:∀m a,Base κ a₀ a ->1<=m->m<=cE->Seg lt (arrOf a) lo (lo+m)->kY lo st a ->Q (some m) a):wpS (model prog w) A E s (E2 lo n cE) Q st:=by
 unfold E2;refine aKx (wpS_lift (aL9 ⟨rfl,?_⟩));refine aKx (aDt O C g (by lia) i t hs λm j a c u e f v he r=>?_);dsimp only;have hsz:lo+m<=(arrOf a).size:=by rw[c.size];lia
 by_cases b:j > 0
 ·rw[if_pos b];refine aKx (TH (X6 O C g (by lia) e (c.arr (mirror_perm _ _ _ _)) ?_ λm d k l o p q=>h m d k l o p (r.trans ((kY.mirror (by lia) hsz).trans q))));exact p7 O hsz he f (by lia) (aK6 _)
 ·rw[if_neg b];exact X6 O C g (by lia) e c f λm d k l o p q=>h m d k l o p (r.trans q)
theorem YZ(O:Wk lt)(C:F7 prog w A s κ lt a₀)(l:lo+cE<=a₀.size)(x:1<=cE)(d:Base κ a₀ st)
  (h:∀m b,Base κ a₀ b ->1<=m->m<=cE->Seg lt (arrOf b) lo (lo+m)->kY lo st b ->Q (some m) b):wpS (model prog w) A E s (countRun' lo cE) Q st:=by
 rw[NA]
 refine aKx (wup O C l (aK6 1) x d (λp q x K L=>by
  obtain rfl:p=q:=by lia
  exact O.Q5 _) λn g i c o=>?_)
 dsimp only;by_cases e:n=cE
 ·rw[if_pos (by simpa using e)];exact aLc (h n st d g i c kY.refl)
 ·rw[if_neg (by simpa using e)];have j:lt (eL (arrOf st) (lo+n)) (eL (arrOf st) (lo+n-1))=true:=o.resolve_left e;by_cases k:n > 1
  ·rw[if_pos k];refine aKx (C4 C d (by lia) (by lia) ?_)
   cases hrose:lt (eL (arrOf st) lo) (eL (arrOf st) (lo+n-1)) with
   | true=>
    simp only[if_true];exact aLc (h n st d g i c kY.refl)
   | false=>
    simp only[Bool.false_eq_true,if_false];have hsz:lo+n<=(arrOf st).size:=by rw[d.size];lia
    have a:Alike lt (arrOf st) lo (lo+n):=λp q M N y P=>by
     have z:=c lo p (aK6 _) (by lia) (by lia);have B:=c q (lo+n-1) y (by lia) (by lia);exact O.tr _ _ _ (O.tr _ _ _ B hrose) z
    have hd:X2 lt (arrOf st) lo (lo+(n+1)):=λp q r t D=>by
     by_cases u:q<lo+n
     ·exact a p q r (by lia) (by lia) u
     ·obtain rfl:q=lo+n:=by lia
      by_cases f :p=lo+n
      ·subst f;exact O.Q5 _
      ·exact O.tr _ _ _ (O.SF _ _ j) (a p (lo+n-1) r (by lia) (by lia) (by lia))
    refine aKx (TH (X7 O C l (by lia) (d.arr (mirror_perm _ _ _ _)) ?_ λm v F G H I J=>h m v F G H I ((kY.mirror (aK6 _) hsz).trans J)));exact p7 O hsz a hd (aK6 _) (by lia)
  ·rw[if_neg k];obtain rfl:n=1:=by lia
   refine X7 O C l (by lia) d (λp q r t D=>?_) h;by_cases f :p=q
   ·subst f;exact O.Q5 _
   ·obtain rfl:p=lo:=by lia
    obtain rfl:q=p+1:=by lia
    exact O.SF _ _ j
end
section
variable {prog:Program}{w:World}{A:Around}{E:aNr}{s:Shared}{a₀:aNu}{κ:SortKind}{lt:aNs}
theorem aDs(O:Wk lt)(C:F7 prog w A s κ lt a₀){Q:Unit->SortSt->Prop}(F:Base κ a₀ st)(u:pendingOf st= #[])(H:2<=a₀.size)(g:a₀.size<64)
  (h:∀a,Base κ a₀ a ->Seg lt (arrOf a) 0 a₀.size->Q () a):wpS (model prog w) A E s sortRuns' Q st:=by
 have k:minRun' a₀.size a₀.size 0=a₀.size:=by
  cases hz:a₀.size with
  | zero=>(clear g;omega)
  | succ f=>rw[minRun'_succ,if_pos (by omega)];try rfl
 have l:=F.size;rw[sortRuns'_eq];refine aKx (wpS_get ?_);dsimp only;simp only[l,k]
 refine aKx (wpS_mono (aMz
  (I:=λx c a =>(x=0/\c=(none,0)/\Base κ a₀ a /\pendingOf a = #[])\/(0<x/\c=(none,a₀.size)/\Base κ a₀ a /\Seg lt (arrOf a) 0 a₀.size/\(pendingOf a).size<=1))
  (Q:=λc a =>c=(none,a₀.size)/\Base κ a₀ a /\Seg lt (arrOf a) 0 a₀.size/\(pendingOf a).size<=1) ?turn ?last (.inl ⟨rfl,rfl,F,u⟩)) ?rest)
 case last=>
  rintro c a (⟨hx,_⟩ | ⟨_,r⟩)
  ·(clear l k g;omega)
  ·exact r
 case turn=>
  have i:∀{d:SortSt},Base κ a₀ d->Seg lt (arrOf d) 0 a₀.size->pendingOf d= #[]->∀n,Base κ a₀ (setPending d ((pendingOf d).push (0,n,0)))/\Seg lt (arrOf (setPending d ((pendingOf d).push (0,n,0)))) 0 a₀.size/\(pendingOf (setPending d ((pendingOf d).push (0,n,0)))).size<=1:=λ{d} b v p n=>by
   refine⟨⟨b.perm,b.kind,b.cY⟩,v,?_⟩;show ((pendingOf d).push (0,n,0)).size<=1;rw[p];simp
  rintro x c a _ hx (⟨rfl,rfl,b,p⟩ | ⟨_,rfl,r⟩)
  ·dsimp only;rw[if_neg (by (clear hx l k g;omega))];simp only[Nat.sub_zero,Nat.min_self,Nat.zero_add];refine aKx (YZ O C (by omega) (by (clear hx l k g;omega)) b λm e G m1 m2 j o=>?_);have y:pendingOf e= #[]:=o.2.trans p;simp only[Nat.zero_add]at j;dsimp only;by_cases less:m<a₀.size
   ·rw[if_pos less];refine aKx (wpS_lift (aL9 ⟨rfl,?_⟩));refine aKx (TJ O C (by omega) m2 G (by simpa using j) λd J q _ K=>?_);have t :pendingOf d= #[]:=K.trans y;simp only[Nat.zero_add]at q;simp only[Bool.not_true,Bool.false_eq_true,if_false];refine aKx (wpS_get ?_);rw[show (pendingOf d).back? =none by rw[t];rfl];dsimp only;obtain⟨z,B,D⟩:=i J q t a₀.size;exact aKx (wpS_modify (aLc (.inr ⟨by omega,rfl,z,B,D⟩)))
   ·obtain rfl:m=a₀.size:=by (clear m1 hx l k g H;omega)
    rw[if_neg less];refine aKx (wpS_get ?_);rw[show (pendingOf e).back? =none by rw[y];rfl];dsimp only;obtain⟨z,B,D⟩:=i G j y a₀.size;exact aKx (wpS_modify (aLc (.inr ⟨by omega,rfl,z,B,D⟩)))
  ·dsimp only;rw[if_pos (Nat.le_refl _)];exact aLc ⟨rfl,r⟩
 case rest=>
  rintro c a ⟨rfl,b,v,p⟩;dsimp only;refine aKx (wpS_mono (aMz (I:=λ_ c e=>c=(none,())/\e=a) (Q:=λc e=>c=(none,())/\e=a) ?_ (λ_ _ r=>r) ⟨rfl,rfl⟩) ?_)
  ·rintro x c e _ _ ⟨rfl,rfl⟩;refine aKx (wpS_get ?_);rw[if_pos p];exact aLc ⟨rfl,rfl⟩
  ·rintro c e ⟨rfl,rfl⟩;exact aLc (h _ b v)
variable{vs:List Value}
theorem T8(g:xs.Perm (pairsOf vs))(m:Seg lt xs 0 vs.length):
  ((xs.map (·.2)).toList).Perm vs/\((xs.map (·.2)).toList).Pairwise (λx y=>lt (y,y) (x,x)=false):=by
 have h:xs.toList.Perm (vs.zip vs):=by rw[<-pairsOf_toList];exact Array.perm_iff_toList_perm.mp g
 have same:∀p∈xs.toList,p=(p.2,p.2):=λp b=>by
  have hm:=h.mem_iff.mp b
  have:∀(l:List Value) (q:Keyed),q∈l.zip l->q=(q.2,q.2):=λl q c=>by
   induction l with
   | nil=>simp at c
   | cons v r n=>
    rw[List.zip_cons_cons]at c;rcases aKd.mp c with e | e
    ·rw[e]
    ·exact n e
  exact this vs p hm
 have hsz:xs.size=vs.length:=by have:=g.size_eq;rw[pairsOf_size]at this;exact this
 refine⟨?_,?_⟩
 ·rw[Array.toList_map];have:=h.map (·.2)
  rwa [show (vs.zip vs).map (·.2)=vs from List.map_snd_zip (aK6 _)]at this
 ·rw[Array.toList_map,List.pairwise_map];rw[List.pairwise_iff_getElem];intro i j hi k d;have f :i<xs.size:=by simpa using hi
  have a :j<xs.size:=by simpa using k
  have q:=m i j (aLb _) (aLy d) (by rw[<-hsz];exact a);have o:eL xs i=xs.toList[i]:=by unfold eL;rw[getElem?_pos xs i f];simp
  have s:eL xs j=xs.toList[j]:=by unfold eL;rw[getElem?_pos xs j a];simp
  rw[o,s]at q;rw[same _ (List.getElem_mem hi),same _ (List.getElem_mem k)]at q;exact q
theorem N8(O:Wk lt){a:Addr}{n:Nat}{P:PySem.Fin->Shared->Prop}(ho:s.heap.get? a=some (seqObj "list" vs.toArray n))(k:vs.length<64)
  (t:2<=vs.length->∀h' :Heap,(∀b o,b≠a->s.heap.get? b=some o->h'.get? b=some o)->F7 prog w A {s with heap:=h'} κ lt (pairsOf vs)/\
   ∀v,v κ {s with heap:=h'}->wpAny (model prog w) A (keyKind' vs.toArray) v E {s with heap:=h'})
  (h:∀out:List Value,out.Perm vs->out.Pairwise (λx y=>lt (y,y) (x,x)=false)->P (.done (.ret .none)) {s with heap:=sortedHeap s.heap a vs out.toArray}):
  wpAny (model prog w) A (Builtin.«list.sort» ⟨[.ref a],[]⟩) P E s:=by
 have la:a<s.heap.objs.size:=aKb ho;have z:sizeLine=16777216:=aKc
 obtain⟨m,B⟩:∃m,(s.heap.update a (Obj.mapSeq λ_=>#[])).get? a=some (seqObj "list" #[] m):=⟨_,get?_update_seq ho λ_=>#[]⟩
 have C:(((s.heap.update a (Obj.mapSeq λ_=>#[])).push (seqObj "tuple" vs.toArray 0)).push (seqObj "list" #[] 0)).get? a=some (seqObj "list" #[] m):=aK4 _ (aK4 _ B)
 have g:∀b o,b≠a->s.heap.get? b=some o->(((s.heap.update a (Obj.mapSeq λ_=>#[])).push (seqObj "tuple" vs.toArray 0)).push (seqObj "list" #[] 0)).get? b=some o:=λb o F e=>
  aK4 _ (aK4 _ (by rw[Heap.get?_update_ne _ _ _ _ F];exact e))
 have d:∀c :SortSt,(arrOf c).Perm (pairsOf vs)->Seg lt (arrOf c) 0 vs.length->failedOf c =none->wpAny (model prog w) A (do
   let touched:=(<-seqEpoch a) !=m
   Builtin.List.listUpdate (.ref a) λ_=>(arrOf c).map (·.2)
   if let some e:=failedOf c then rule "list.sort.comparison-raised";throw e
   if touched then rule "list.sort.modified";raiseError "ValueError" "list modified during sort"
   ret .none) P E {s with heap:=((s.heap.update a (Obj.mapSeq λ_=>#[])).push (seqObj "tuple" vs.toArray 0)).push (seqObj "list" #[] 0)}:=λc D j G=>by
  obtain⟨H,I⟩:=T8 D j
  have L:((arrOf c).map (·.2)).size<=sizeLine:=by
   rw[Array.size_map];have:=D.size_eq;rw[pairsOf_size]at this;omega
  refine aK2 (seqEpoch_at C rfl ?_);refine aK2 (listUpdate_at C rfl ?_ (hsz2:=by (clear z la t k;omega)));rw[G];simp only[bne_self_eq_false,Bool.false_eq_true,if_false];have l:=h _ H I;rw[Array.toArray_toList]at l;exact aK3 l
 rw[list_sort_plain];refine aK2 (listItems_at ho rfl ?_);refine aK2 (listUpdate_at ho rfl ?_ (by rw[List.size_toArray];omega) (aLb _));refine aK2 (seqEpoch_at B rfl ?_);refine aK2 (aMb ?_ (by show vs.length<=_;omega));refine aK2 (wpAny_newList ?_ (aLb _));refine aKq ?_;dsimp only;by_cases F4:vs.length<2
 ·have f :vs.toArray.size<2:=by rw[List.size_toArray];exact F4
  rw[if_pos f,if_pos f];refine aK2 (aK3 ?_);rw[StateT.run_pure];refine aK2 (aK3 ?_)
  exact d (SortSt.mk' general' (vs.toArray.zip vs.toArray) #[] 7 none) (Array.Perm.refl _) (λp q _ J M=>by
   obtain rfl:p=q:=by (clear f z la t k;omega)
   exact O.Q5 _) rfl
 ·have i:¬vs.toArray.size<2:=by rw[List.size_toArray];exact F4
  rw[if_neg i,if_neg i];obtain⟨u,kind⟩:=t (by omega) _ g;refine aK2 (kind _ ?_)
  refine aK2 (aLm (aDs (Q:=λ_ c =>Base κ (pairsOf vs) c /\Seg lt (arrOf c) 0 (pairsOf vs).size) O u (st:=SortSt.mk' κ (vs.toArray.zip vs.toArray) #[] 7 none) ⟨Array.Perm.refl _,rfl,rfl⟩ rfl
   (by rw[pairsOf_size];omega) (by rw[pairsOf_size];omega) λc b j=>⟨b,j⟩) (λr N K=>?_) λ_ _ e=>e)
  obtain⟨⟨⟩,c⟩:=r;obtain⟨rfl,b,j⟩:=K;rw[pairsOf_size]at j;exact d c b.perm j b.cY
theorem DM(O:Wk lt){l:Addr}{Q:aNr}(d:s.heap.IsList l vs.toArray)(c:vs.length<64)
  (f:2<=vs.length->∀h' :Heap,(∀b o,s.heap.get? b=some o->h'.get? b=some o)->F7 prog w A.in1.in1 {s with heap:=h'} κ lt (pairsOf vs)/\
   ∀a g,a κ {s with heap:=h'}->wpAny (model prog w) A.in1.in1 (keyKind' vs.toArray) a g {s with heap:=h'})
  (h:∀out:List Value,out.Perm vs->out.Pairwise (λx y=>lt (y,y) (x,x)=false)->Q (.ref (s.heap.objs.size+1)) {s with heap:=sortedAll s.heap vs out.toArray}):
  wpAny (model prog w) A (call (.builtin "sorted") [.ref l]) Q E s:=by
 have t:sizeLine=16777216:=aKc;have grown:((s.heap.push (seqObj "list" #[] 0)).update s.heap.objs.size (Obj.mapSeq (· ++vs.toArray))).objs.size=s.heap.objs.size+1:=by rw[Heap.size_update,size_push']
 have kept:∀b o,s.heap.get? b=some o->(((s.heap.push (seqObj "list" #[] 0)).update s.heap.objs.size (Obj.mapSeq (· ++vs.toArray))).push (seqObj "list" vs.toArray 0)).get? b=some o:=λb o e=>by
  have lb:=aKb e;refine aK4 _ ?_;rw[Heap.get?_update_ne _ _ _ _ (Nat.ne_of_lt lb)];exact aK4 _ e
 refine aMg kind_sorted plain_sorted entry_sorted (args_sorted1 _) ?_;unfold Builtin.«sorted»;refine aK2 (m:=checkCount "sorted" 1 1 _) (aK3 ?_);refine aK2 (collect_list d ?_ (by omega));refine aK2 (wpAny_newList ?_ (by omega))
 have ob:(((s.heap.push (seqObj "list" #[] 0)).update s.heap.objs.size (Obj.mapSeq (· ++vs.toArray))).push (seqObj "list" vs.toArray 0)).get? (s.heap.objs.size+1)=some (seqObj "list" vs.toArray 0):=by
  rw[<-grown];exact aKa _ rfl
 show wpAny _ _ _ _ _ {s with heap:=((s.heap.push (seqObj "list" #[] 0)).update s.heap.objs.size (Obj.mapSeq (· ++vs.toArray))).push (seqObj "list" vs.toArray 0)};rw[grown];refine aK2 (aKq (aKk slot_list_sort ⟨_,ob,rfl⟩ entry_list_sort (N8 (κ:=κ) (s:={s with heap:=((s.heap.push (seqObj "list" #[] 0)).update s.heap.objs.size (Obj.mapSeq (· ++vs.toArray))).push (seqObj "list" vs.toArray 0)}) O ob c (λi h' k=>?_) λout j n=>⟨_,rfl,aK3 ⟨_,rfl,h out j n⟩⟩) (args_list_sort _)));obtain⟨p,r⟩:=f i h' λb o e=>k b o (aKg (aL7 (aKb e))) (kept b o e);exact⟨p,λa q=>r a _ q⟩
end
end TS
namespace D3
open PySem PySem.Spec PyProof.Rows L2
inductive D where
 | b8 | bl (b:Bool) | int (i:Int) | str (x:Str) | ty (n:String)
 | tup (ds:List D) | fl (ds:List D) | ref (n:Nat)
inductive MO where
 | lst (ds:List D)
 | dic (t:Bool) (kvs:List (D×D))
 | fdc (t:Bool) (kvs:List (D×D)) (ob:Obj)
 | oth (ds:List D) (f:Addr->List V->HO)
abbrev MH:=List MO
abbrev hX:=List (Option D)
def S9(K:aNq)(H:Hp)(a:Addr)(xs:List V):Prop:=
 (∃o,H a=some (.frz o (.lst xs)))\/
  ∃(o:Obj) (aL:Array Value) (n:Nat),K.lookup a=some o/\o.cls= .type "list"/\o.dict=none/\o.data= .seq aL n/\aL.size<=sizeLine/\Vals xs aL.toList
variable{K:aNq}{H:Hp}{a:Addr}{xs:List V}
theorem S9.sq(h:S9 K H a xs):qB K H a xs:=by
 rcases h with h | h
 ·exact .inl (.inr h)
 ·exact .inr h
def CV(K:aNq)(H:Hp)(a:Addr)(xs:List V):Prop:=
 H a=some (.tup xs)\/
  ∃(o:Obj) (aL:Array Value) (n:Nat),K.lookup a=some o/\o.cls= .type "tuple"/\o.dict=none/\o.data= .seq aL n/\aL.size<=sizeLine/\Vals xs aL.toList
theorem CV.of(h:H a=some (.tup xs)):CV K H a xs:= .inl h
theorem CV.sq(h:CV K H a xs):t9 K H a xs:=by
 rcases h with h | h
 ·exact .inl (.inl h)
 ·exact .inr h
mutual
def Is(K:aNq)(μ:List Addr)(H:Hp):D->V->Prop
 | .b8,v=>v= .b8
 | .bl b,v=>v= .bl b
 | .int i,v=>v= .int i
 | .str x,v=>v= .str x
 | .ty n,v=>v= .ty n
 | .tup ds,v=>∃a vs,v= .ref a/\CV K H a vs/\IsL K μ H ds vs
 | .fl ds,v=>∃a vs,v= .ref a/\S9 K H a vs/\IsL K μ H ds vs
 | .ref n,v=>∃a,μ[n]? =some a/\v= .ref a
def IsL(K:aNq)(μ:List Addr)(H:Hp):List D->List V->Prop
 | [],vs=>vs=[]
 | d::ds,vs=>∃v r,vs=v::r/\Is K μ H d v/\IsL K μ H ds r
end
def c6:Key->D
 | .inl i=>.int i
 | .inr x=>.str x
def SQ(o:Option HO)(ks:List D)(vs:List V):Bool->Prop
 | false=>∃kk:List (Key×V),o=some (.dK kk)/\ks=kk.map (λp=>c6 p.1)/\vs=kk.map (·.2)
 | true=>∃kk:List (List Key×V),o=some (.dT kk)/\ks=kk.map (λp=>.tup (p.1.map c6))/\vs=kk.map (·.2)
def Own:Option HO->Prop
 | some (.frz _ (.dK _))=>True
 | some (.frz _ (.dT _))=>True
 | o=>SK o
def pK(K:aNq)(μ:List Addr)(H:Hp):MO->Addr->Prop
 | .lst ds,a=>∃vs,H a=some (.lst vs)/\IsL K μ H ds vs
 | .dic t kvs,a=>∃vs,SQ (H a) (kvs.map (·.1)) vs t/\IsL K μ H (kvs.map (·.2)) vs
 | .fdc t kvs ob,a=>∃vs u,H a=some (.frz ob u)/\SQ (some u) (kvs.map (·.1)) vs t/\IsL K μ H (kvs.map (·.2)) vs
 | .oth ds f,a=>∃vs,(H a=some (f a vs)/\Own (some (f a vs)))/\IsL K μ H ds vs
structure Rep(K:aNq)(μ:List Addr)(mh:MH)(H:Hp):Prop where
 len:μ.length=mh.length
 nd:μ.Nodup
 obj:∀(n:Nat) a o,μ[n]? =some a->mh[n]? =some o->pK K μ H o a
structure aT(μ:List Addr)(H:Hp)(μ' :List Addr)(H' :Hp):Prop where
 pre:∃t,μ' =μ++t
 fr:∀b o,H b=some o->b∉μ->H' b=some o
 nw:∀a∈μ',a∈μ\/H a=none
def c7(K:aNq)(μ:List Addr)(H:Hp)(a:hX)(σ:L2.St):Prop:=
 a.length=σ.length/\∀(i:Nat) d,a[i]? =some (some d)->∃v,σ[i]? =some (some v)/\Is K μ H d v
section
variable {K:aNq}{μ μ1 μ2 μ' :List Addr}{mh mh' :MH}{H H1 H2 H' :Hp}
theorem pK.mut{o:MO}(h:pK K μ H o a):Own (H a):=by
 cases o with
 | lst ds=>obtain⟨vs,e,_⟩:=h;rw[e];trivial
 | dic t kvs=>cases t <;> (obtain⟨vs,⟨kk,e,_⟩,_⟩:=h;rw[e];trivial)
 | fdc t kvs ob=>cases t <;> (obtain⟨vs,u,e,⟨kk,b,_⟩,_⟩:=h;cases b;rw[e];trivial)
 | oth ds f=>obtain⟨vs,⟨e,m⟩,_⟩:=h;rw[e];exact m
theorem Rep.at(R:Rep K μ mh H)(h:a∈μ):∃(n:Nat) (o:MO),μ[n]? =some a/\mh[n]? =some o/\pK K μ H o a:=by
 obtain⟨n,b⟩:=aKv.mp h;have c:n<mh.length:=by rw[<-R.len];exact(aK5.mp b).1
 exact⟨n,mh[n],b,by simp[c],R.obj n a _ b (by simp[c])⟩
theorem Rep.mut(R:Rep K μ mh H)(h:a∈μ):Own (H a):=let ⟨_,_,_,_,q⟩:=R.at h;q.mut
theorem aT.refl:aT μ H μ H:=⟨⟨[],by simp⟩,λ_ _ h _=>h,λ_ h=>.inl h⟩
theorem aT.trans(p:aT μ H μ1 H1)(q:aT μ1 H1 μ2 H2):aT μ H μ2 H2:=by
 refine⟨?_,λb o e n=>?_,λa ha=>?_⟩
 ·obtain⟨t,rfl⟩:=p.pre;obtain⟨u,rfl⟩:=q.pre;exact⟨t++u,by simp⟩
 ·refine q.fr b o (p.fr b o e n) λc=>?_;rcases p.nw b c with z | z
  ·exact n z
  ·rw[e]at z;cases z
 ·rcases q.nw a ha with z | z
  ·exact p.nw a z
  ·by_cases hm:a∈μ
   ·exact .inl hm
   ·right
    cases e:H a with
    | none=>rfl
    | some o=>rw[p.fr a o e hm]at z;cases z
variable{n:Nat}
theorem aT.get(p:aT μ H μ' H')(h:μ[n]? =some a):μ'[n]? =some a:=by
 obtain⟨t,rfl⟩:=p.pre;rw[List.getElem?_append_left (List.getElem?_eq_some_iff.mp h).1];exact h
variable{vs:List V}
theorem Rep.sqT(R:Rep K μ mh H)(p:aT μ H μ' H')(h:CV K H a vs):CV K H' a vs:=by
 rcases h with h | h
 ·refine .inl (p.fr _ _ h λhm=>?_);have:=R.mut hm;rw[h]at this;exact this
 ·exact .inr h
theorem Rep.sqF(R:Rep K μ mh H)(p:aT μ H μ' H')(h:S9 K H a vs):S9 K H' a vs:=by
 rcases h with ⟨o,h⟩ | h
 ·refine .inl ⟨o,p.fr _ _ h λhm=>?_⟩;have:=R.mut hm;rw[h]at this;exact this
 ·exact .inr h
mutual
theorem Is.mono(R:Rep K μ mh H)(p:aT μ H μ' H'):∀(d:D) (v:V),Is K μ H d v->Is K μ' H' d v
 | .b8,v,h=>by unfold Is at*;exact h
 | .bl _,v,h=>by unfold Is at*;exact h
 | .int _,v,h=>by unfold Is at*;exact h
 | .str _,v,h=>by unfold Is at*;exact h
 | .ty _,v,h=>by unfold Is at*;exact h
 | .tup ds,v,h=>by
  unfold Is at*;obtain⟨a,vs,e,s,l⟩:=h;exact⟨a,vs,e,R.sqT p s,IsL.mono R p ds vs l⟩
 | .fl ds,v,h=>by
  unfold Is at*;obtain⟨a,vs,e,s,l⟩:=h;exact⟨a,vs,e,R.sqF p s,IsL.mono R p ds vs l⟩
 | .ref n,v,h=>by
  unfold Is at*;obtain⟨a,e,q⟩:=h;exact⟨a,p.get e,q⟩
theorem IsL.mono(R:Rep K μ mh H)(p:aT μ H μ' H'):∀(ds:List D) (vs:List V),IsL K μ H ds vs->IsL K μ' H' ds vs
 | [],vs,h=>by unfold IsL at*;exact h
 | d::ds,vs,h=>by
  unfold IsL at*;obtain⟨v,r,e,q,l⟩:=h;exact⟨v,r,e,Is.mono R p d v q,IsL.mono R p ds r l⟩
end
theorem c7.mono{a:hX}{σ:L2.St}(R:Rep K μ mh H)(p:aT μ H μ' H')(E:c7 K μ H a σ):c7 K μ' H' a σ:=⟨E.1,λi d e=>by
 obtain⟨v,b,c⟩:=E.2 i d e
 exact⟨v,b,Is.mono R p d v c⟩⟩
theorem pK.mono{o:MO}(R:Rep K μ mh H)(p:aT μ H μ' H')(e:H' a=H a)(h:pK K μ H o a):pK K μ' H' o a:=by
 cases o with
 | lst ds=>obtain⟨vs,q,l⟩:=h;exact⟨vs,by rw[e];exact q,IsL.mono R p ds vs l⟩
 | dic t kvs=>obtain⟨vs,q,l⟩:=h;exact⟨vs,by rw[e];exact q,IsL.mono R p _ vs l⟩
 | fdc t kvs ob=>obtain⟨vs,u,q,b,l⟩:=h;exact⟨vs,u,by rw[e];exact q,b,IsL.mono R p _ vs l⟩
 | oth ds f=>obtain⟨vs,⟨q,m⟩,l⟩:=h;exact⟨vs,⟨by rw[e];exact q,m⟩,IsL.mono R p ds vs l⟩
variable{q:Addr}
theorem aT.new{o:HO}(R:Rep K μ mh H)(a:H q=none):aT μ H μ (upd H q o):=
 ⟨⟨[],by simp⟩,λb u e _=>by rw[aW (bM e a)];exact e,λ_ h=>.inl h⟩
theorem Rep.ne(R:Rep K μ mh H)(b:H q=none)(h:a∈μ):a≠q:=by
 rintro rfl;have:=R.mut h;rw[b]at this;exact this
theorem Rep.new{o:HO}(R:Rep K μ mh H)(b:H q=none):Rep K μ mh (upd H q o):=
 ⟨R.len,R.nd,λn a ob c d=>(R.obj n a ob c d).mono R (aT.new R b) (aW (R.ne b (aK9 c)))⟩
theorem aT.L3{o:HO}(R:Rep K μ mh H)(c:H q=none):aT μ H (μ++[q]) (upd H q o):=
 ⟨⟨[q],rfl⟩,λb u e _=>by rw[aW (bM e c)];exact e,λa h=>by
  rcases aKi.mp h with h | h
  ·exact .inl h
  ·simp at h;subst h;exact .inr c⟩
theorem Rep.L3{ds:List D}(R:Rep K μ mh H)(e:H q=none)(l:IsL K μ H ds vs):Rep K (μ++[q]) (mh++[.lst ds]) (upd H q (.lst vs)):=by
 have P:aT μ H (μ++[q]) (upd H q (.lst vs)):=aT.L3 R e;refine⟨by simp[R.len],?_,λn a ob c d=>?_⟩
 ·rw[List.nodup_append];refine⟨R.nd,by simp,λa ha b f=>?_⟩;simp at f;subst f;exact R.ne e ha
 ·by_cases g:n<μ.length
  ·rw[List.getElem?_append_left g]at c;rw[List.getElem?_append_left (by rw[<-R.len];exact g)]at d;exact(R.obj n a ob c d).mono R P (aW (R.ne e (aK9 c)))
  ·rw[List.getElem?_append_right (by lia)]at c;rw[List.getElem?_append_right (by rw[<-R.len];lia)]at d
   have hz:n-μ.length=0:=by
    have:=(aK5.mp c).1;simp at this;lia
   rw[hz]at c;rw[<-R.len,hz]at d;simp at c d;subst c d;exact⟨vs,b9,l.mono R P⟩
theorem aT.set{o:HO}(R:Rep K μ mh H)(h:μ[n]? =some a):aT μ H μ (upd H a o):=
 ⟨⟨[],by simp⟩,λb u e c=>by rw[aW (λz=>c (by rw[z];exact List.mem_of_getElem? h))];exact e,λ_ h=>.inl h⟩
theorem PY{n m:Nat}(nd:μ.Nodup)(b:μ[n]? =some a)(c:μ[m]? =some a):n=m:=by
 obtain⟨f,d⟩:=aK5.mp b;obtain⟨g,e⟩:=aK5.mp c;exact(aNl nd).mp (d.trans e.symm)
theorem Rep.set{ds:List D}(R:Rep K μ mh H)(h:μ[n]? =some a)(l:IsL K μ H ds vs):Rep K μ (mh.set n (.lst ds)) (upd H a (.lst vs)):=by
 have P:aT μ H μ (upd H a (.lst vs)):=aT.set R h;refine⟨by simp[R.len],R.nd,λm b ob c d=>?_⟩;by_cases hm:m=n
 ·subst hm;rw[h]at c;cases c;have e:m<mh.length:=by rw[<-R.len];exact(aK5.mp h).1
  rw[List.getElem?_set_self e]at d;cases d;exact⟨vs,b9,l.mono R P⟩
 ·rw[List.getElem?_set_ne (Ne.symm hm)]at d;exact(R.obj m b ob c d).mono R P (aW λz=>hm (PY R.nd c (by rw[z];exact h)))
end
abbrev DK:=D->MH->Prop
abbrev WE:=hX->MH->DK->Prop
def Fin(K:aNq)(μ:List Addr)(H:Hp)(R:DK)(Q:VK):Prop:=
 ∀d mh',R d mh' ->∀μ' v H',aT μ H μ' H' ->Rep K μ' mh' H' ->Is K μ' H' d v->Q v H'
def tL(K:aNq)(w:WE):TE:=λσ H Q=>∃μ a mh R,Rep K μ mh H/\c7 K μ H a σ/\w a mh R/\Fin K μ H R Q
def LE(X:Cx)(e:Expr)(w:WE):Prop:=PE X e (tL X.K w)
variable{X:Cx}
theorem PE.imp{e:Expr}{t t' :TE}(h:PE X e t)(i:∀σ H Q,t' σ H Q->t σ H Q):PE X e t' :=λpins s σ H Q I q=>h pins s σ H Q I (i σ H Q q)
variable{R:DK}{Q:VK}
theorem Fin.at{μ a:List Addr}{H b:Hp}(F:Fin K μ H R Q)(P:aT μ H a b):Fin K a b R Q:=
 λd mh' r μ' v H' c e I=>F d mh' r μ' v H' (P.trans c) e I
def aB(i:Nat):WE:=λa mh Q=>∃d,a[i]? =some (some d)/\Q d mh
def wC(d:D):WE:=λ_ mh Q=>Q d mh
section
variable {X:Cx}{a b c:Expr}{wa wb wc:WE}{pos:Pos}
theorem aB8(i:Nat){x:Str}(hN:X.N[i]? =some x:=by rfl)(b:Vis X.env.scope x:=by first | exact Or.inl rfl | exact Or.inr (Or.inl rfl) | exact Or.inr (Or.inr rfl))(hd:(x==("__debug__":Str))=false:=by decide)
  (a:(x==("__classdict__":Str))=false:=by decide):LE X (.Name x pos) (aB i):=PE.imp (Z9 hN b hd a) λσ H Q h=>by
 obtain⟨μ,f,mh,R,r,E,⟨d,hd,c⟩,F⟩:=h;obtain⟨v,e,i⟩:=E.2 _ d hd;exact⟨v,e,F d mh c μ v H aT.refl r i⟩
theorem L8{e:Expr}{v:V}{d:D}(h:PE X e (tC v))(a:∀μ H,Is X.K μ H d v):LE X e (wC d):=PE.imp h λσ H Q h=>by
 obtain⟨μ,c,mh,R,r,E,b,F⟩:=h;exact F d mh b μ v H aT.refl r (a μ H)
theorem le_int{i:Int}{j}:LE X (.Constant (.int i) j pos) (wC (.int i)):=L8 aA6 λ_ _=>by unfold Is;rfl
theorem aFq{i:Bool}{j}:LE X (.Constant (.bool i) j pos) (wC (.bl i)):=L8 aEx λ_ _=>by unfold Is;rfl
theorem aBd{j}:LE X (.Constant .none j pos) (wC .b8):=L8 aA4 λ_ _=>by unfold Is;rfl
theorem le_str{i:Str}{j}:LE X (.Constant (.str i) j pos) (wC (.str i)):=L8 aA1 λ_ _=>by unfold Is;rfl
theorem VZ{x:Str}{d:D}{v:V}{u:Value}(hg:Gl X x)(hm:X.mg x=some u)(r:RelV v u)(a:∀μ H,Is X.K μ H d v)(hd:(x==("__debug__":Str))=false:=by decide):LE X (.Name x pos) (wC d):=L8 (U1 hg hm r hd) a
theorem VY{x:Str}{T:String}(hg:Gl X x)(hm:X.mg x=none)(a:bootBuiltins x=some (.type T))(b:x≠ "__name__":=by decide)(hd:(x==("__debug__":Str))=false:=by decide):LE X (.Name x pos) (wC (.ty T)):=
 L8 (U4 (v:= .ty T) hg hm a rfl b hd) λ_ _=>by unfold Is;rfl
abbrev O1:=D->MH->DK->Prop
abbrev O2:=D->D->MH->DK->Prop
def bY(K:aNq)(f:O2):R2:=λx y H Q=>∃μ mh dx a R,Rep K μ mh H/\Is K μ H dx x/\Is K μ H a y/\f dx a mh R/\Fin K μ H R Q
def QL(K:aNq)(f:O1):V->Hp->VK->Prop:=λx H Q=>∃μ mh dx R,Rep K μ mh H/\Is K μ H dx x/\f dx mh R/\Fin K μ H R Q
def aM(f:O2)(wa wb:WE):WE:=λc mh Q=>wa c mh λx a=>wb c a λy b=>f x y b Q
def NX(f:O1)(wa:WE):WE:=λb mh Q=>wa b mh λx a=>f x a Q
variable{f:O2}{σ:L2.St}
theorem JJ(h:tL K (aM f wa wb) σ H Q):tOp (bY K f) (tL K wa) (tL K wb) σ H Q:=by
 obtain⟨μ,e,mh,R,g,E,h,F⟩:=h;refine⟨μ,e,mh,_,g,E,h,λdx a l b m r i j n=>⟨b,e,a,_,j,E.mono g i,l,λo c p d s t k R2 q=>?_⟩⟩;exact⟨d,c,dx,o,R,R2,Is.mono j k dx m n,q,p,F.at (i.trans k)⟩
theorem aDx{f:O1}(h:tL K (NX f wa) σ H Q):tUn (QL K f) (tL K wa) σ H Q:=by
 obtain⟨μ,c,mh,R,d,E,h,F⟩:=h;exact⟨μ,c,mh,_,d,E,h,λdx a e b k l g i j=>⟨b,a,dx,R,i,j,e,F.at g⟩⟩
theorem aFl{op:Operator}(ho:g7 X (binaryOp op) (bY X.K f))(ha:LE X a wa)(c:LE X b wb):LE X (.BinOp a op b pos) (aM f wa wb):=PE.imp (aEt ho ha c) λ_ _ _ h=>JJ h
theorem aFk{op:UnaryOp}{f:O1}(ho:UnR X (unaryOp op) (QL X.K f))(ha:LE X a wa):LE X (.UnaryOp op a pos) (NX f wa):=PE.imp (aEs ho ha) λ_ _ _ h=>aDx h
theorem aBh{op:CmpOp}(ho:g7 X (compareOp op) (bY X.K f))(ha:LE X a wa)(c:LE X b wb)(hm:behindInMarks op b=false):LE X (.Compare a [op] [b] pos) (aM f wa wb):=PE.imp (U2 ho ha c hm) λ_ _ _ h=>JJ h
theorem YM(ho:YX X (bY X.K f))(ha:LE X a wa)(c:LE X b wb)(hs:LB b):LE X (.Subscript a b pos) (aM f wa wb):=PE.imp (aEv ho ha c hs) λ_ _ _ h=>JJ h
abbrev WT:=hX->MH->(Bool->MH->Prop)->Prop
def X0(K:aNq)(μ:List Addr)(H:Hp)(R:Bool->MH->Prop)(Q:Bool->Hp->Prop):Prop:=
 ∀b mh',R b mh' ->∀μ' H',aT μ H μ' H' ->Rep K μ' mh' H' ->Q b H'
def ZD(K:aNq)(w:WT):TT:=λσ H Q=>∃μ a mh R,Rep K μ mh H/\c7 K μ H a σ/\w a mh R/\X0 K μ H R Q
def LT(X:Cx)(e:Expr)(w:WT):Prop:=PT X e (ZD X.K w)
def LW(X:Cx)(e:Expr)(w:WT):Prop:=PW X e (ZD X.K w)
theorem PT.imp{X:Cx}{e:Expr}{t t' :TT}(h:PT X e t)(i:∀σ H Q,t' σ H Q->t σ H Q):PT X e t' :=λpins s σ H Q I q=>h pins s σ H Q I (i σ H Q q)
theorem PW.imp{X:Cx}{e:Expr}{t t' :TT}(h:PW X e t)(i:∀σ H Q,t' σ H Q->t σ H Q):PW X e t' :=λa pins s σ H Q I q=>h a pins s σ H Q I (i σ H Q q)
variable{Q:Bool->Hp->Prop}
theorem X0.at{μ a:List Addr}{H c:Hp}{R:Bool->MH->Prop}(F:X0 K μ H R Q)(P:aT μ H a c):X0 K a c R Q:=
 λb mh' r μ' H' d e =>F b mh' r μ' H' (P.trans d) e
def cU(w:WE):WT:=λb mh Q=>w b mh λx a=>∃k,x= .bl k/\Q k a
theorem Y7{t:TE}{w:WE}(i:∀σ H Q,tL K w σ H Q->t σ H Q)(h:ZD K (cU w) σ H Q):YA t σ H Q:=by
 obtain⟨μ,e,mh,R,f,E,h,F⟩:=h;refine i σ H _ ⟨μ,e,mh,_,f,E,h,λdx a b c m g j l d=>?_⟩;obtain⟨k,rfl,b⟩:=b;unfold Is at d;exact⟨k,d,F k a b c g j l⟩
theorem aAx{op:CmpOp}(ho:g7 X (compareOp op) (bY X.K f))(ha:LE X a wa)(c:LE X b wb)(hm:behindInMarks op b=false):LT X (.Compare a [op] [b] pos) (cU (aM f wa wb)):=
 PT.imp (UP ho ha c hm) λ_ _ _ h=>Y7 (λ_ _ _ z=>JJ z) h
def eJ(mh:MH):D->Option Bool
 | .b8=>some false
 | .bl b=>some b
 | .int i=>some (i !=0)
 | .str y=>if y.length<=sizeLine then some ((y.length:Int) !=0) else none
 | .tup ds=>some !ds.isEmpty
 | .fl ds=>some !ds.isEmpty
 | .ref n=>match mh[n]? with | some (.lst ds)=>some !ds.isEmpty | _=>none
 | .ty _=>none
theorem aY{K:aNq}{μ:List Addr}{H:Hp}:∀{ds:List D} {vs:List V},IsL K μ H ds vs->vs.length=ds.length
 | [],vs,h=>by unfold IsL at h;subst h;rfl
 | d::ds,vs,h=>by unfold IsL at h;obtain⟨v,r,rfl,_,l⟩:=h;simp[aY l]
theorem BS{μ:List Addr}{ds:List D}{vs:List V}(h:IsL K μ H ds vs):vs.isEmpty=ds.isEmpty:=by
 have:=aY h;cases vs <;> cases ds <;> simp_all
theorem Y9{μ:List Addr}{mh:MH}{d:D}{v:V}{k:Bool}(R:Rep K μ mh H)(h:Is K μ H d v)(e:eJ mh d=some k):aD8 K v H k:=by
 cases d with
 | b8=>unfold Is at h;subst h;simp[eJ]at e;subst e;rfl
 | bl b=>unfold Is at h;subst h;simp[eJ]at e;subst e;rfl
 | int i=>unfold Is at h;subst h;simp[eJ]at e;subst e;rfl
 | str y=>
  unfold Is at h;subst h;simp only[eJ]at e;split at e
  ·rename_i hl;exact⟨hl,(aKn e).symm⟩
  ·cases e
 | ty n=>simp[eJ]at e
 | tup ds=>
  unfold Is at h;obtain⟨a,vs,rfl,s,l⟩:=h;obtain rfl:(!ds.isEmpty)=k:=aKn e;exact .inr (.inl ⟨vs,s.sq,by rw[BS l]⟩)
 | fl ds=>
  unfold Is at h;obtain⟨a,vs,rfl,s,l⟩:=h;obtain rfl:(!ds.isEmpty)=k:=aKn e;exact .inl ⟨vs,s.sq,by rw[BS l]⟩
 | ref n=>
  unfold Is at h;obtain⟨a,q,rfl⟩:=h;simp only[eJ]at e
  cases o:mh[n]? with
  | none=>rw[o]at e;cases e
  | some ob=>
   cases ob with
   | lst ds=>
    rw[o]at e;cases e;obtain⟨vs,c,l⟩:=R.obj n a _ q o;exact .inl ⟨vs,.of c,by rw[BS l]⟩
   | dic t kvs=>rw[o]at e;cases e
   | fdc t kvs ob=>rw[o]at e;cases e
   | oth ds f=>rw[o]at e;cases e
def i8(w:WE):WT:=λb mh Q=>w b mh λx a=>∃k,eJ a x=some k/\Q k a
theorem QD(ha:LE X a wa)(he:∀b,isTrue a X.env b=(do let v<-b;standAt a.pos;holding [v] (truthy v)):=by intro _;rfl):LT X a (i8 wa):=PT.imp (OU ha he) λσ H Q h=>by
 obtain⟨μ,i,mh,R,j,E,h,F⟩:=h;refine⟨μ,i,mh,_,j,E,h,λdx c d f o l m g n=>?_⟩;obtain⟨k,e,d⟩:=d;exact⟨k,Y9 g n e,F k c d f l m g⟩
def tF(t u:WT):WT:=λb mh Q=>t b mh λc a=>if c=true then u b a Q else Q false a
def F8(t u:WT):WT:=λb mh Q=>t b mh λc a=>if c=true then Q true a else u b a Q
def fU(t:WT):WT:=λb mh Q=>t b mh λc a=>Q (!c) a
variable {ta tb:WT}{rest:List Expr}
theorem VL(ha:LT X a ta):LW X (.BoolOp .And [a] pos) ta:=UJ ha
theorem aAu(ha:LT X a ta):LW X (.BoolOp .Or [a] pos) ta:=ZW ha
theorem aAv(ha:LT X a ta)(l:LW X (.BoolOp .And (b::rest) pos) tb):LW X (.BoolOp .And (a::b::rest) pos) (tF ta tb):=PW.imp (ZX ha l) λσ H Q h=>by
 obtain⟨μ,i,mh,R,j,E,h,F⟩:=h;refine⟨μ,i,mh,_,j,E,h,λc d f e m g k=>?_⟩
 cases c with
 | true=>rw[if_pos rfl]at f⊢;exact⟨e,i,d,R,k,E.mono j g,f,F.at g⟩
 | false=>rw[if_neg Bool.false_ne_true]at f⊢;exact F false d f e m g k
theorem aFd(ha:LT X a ta)(l:LW X (.BoolOp .Or (b::rest) pos) tb):LW X (.BoolOp .Or (a::b::rest) pos) (F8 ta tb):=PW.imp (aEn ha l) λσ H Q h=>by
 obtain⟨μ,i,mh,R,j,E,h,F⟩:=h;refine⟨μ,i,mh,_,j,E,h,λc d f e m g k=>?_⟩
 cases c with
 | true=>rw[if_pos rfl]at f⊢;exact F true d f e m g k
 | false=>rw[if_neg Bool.false_ne_true]at f⊢;exact⟨e,i,d,R,k,E.mono j g,f,F.at g⟩
theorem LW.lt(h:LW X a ta):LT X a ta:=PW.pt h
theorem aAw(ha:LT X a ta):LT X (.UnaryOp .Not a pos) (fU ta):=PT.imp (ZY ha) λσ H Q h=>by
 obtain⟨μ,e,mh,R,f,E,h,F⟩:=h;exact⟨μ,e,mh,_,f,E,h,λc b g d i j k=>F (!c) b g d i j k⟩
def m5(wa wb:WE):WE:=λb mh Q=>wa b mh λx a=>∃c,x= .bl c/\if c=true then wb b a Q else Q (.bl false) a
theorem aBb{op}(ha:LE X a wa):LE X (.BoolOp op [a] pos) wa:=aA2 ha
theorem aBi(ha:LE X a wa)(m:LE X (.BoolOp .And (b::rest) pos) wb):LE X (.BoolOp .And (a::b::rest) pos) (m5 wa wb):=PE.imp (aA7 ha m) λσ H Q h=>by
 obtain⟨μ,i,mh,R,j,E,h,F⟩:=h;refine⟨μ,i,mh,_,j,E,h,λdx e d f o n g k l=>?_⟩;obtain⟨c,rfl,d⟩:=d;unfold Is at l;refine⟨c,l,?_⟩
 cases c with
 | true=>rw[if_pos rfl]at d⊢;exact⟨f,i,e,R,k,E.mono j g,d,F.at g⟩
 | false=>rw[if_neg Bool.false_ne_true]at d⊢;exact F _ e d f _ n g k (by unfold Is;rfl)
def IU(wa:WE):WE:=λb mh Q=>wa b mh λx a=>∃c,x= .bl c/\Q (.bl !c) a
theorem aBc(ha:LE X a wa):LE X (.UnaryOp .Not a pos) (IU wa):=PE.imp (aA3 ha) λσ H Q h=>by
 obtain⟨μ,g,mh,R,i,E,h,F⟩:=h;refine⟨μ,g,mh,_,i,E,h,λdx b d e m j k l f=>?_⟩;obtain⟨c,rfl,d⟩:=d;unfold Is at f;exact⟨c,f,F _ b d e _ j k l (by unfold Is;rfl)⟩
def wIf(t:WT)(wa wb:WE):WE:=λb mh Q=>t b mh λc a=>if c=true then wa b a Q else wb b a Q
theorem QO(m:LT X c ta)(ha:LE X a wa)(n:LE X b wb):LE X (.IfExp c a b pos) (wIf ta wa wb):=PE.imp (O5 m ha n) λσ H Q h=>by
 obtain⟨μ,i,mh,R,j,E,h,F⟩:=h;refine⟨μ,i,mh,_,j,E,h,λk d f e o g l=>?_⟩
 cases k with
 | true=>rw[if_pos rfl]at f⊢;exact⟨e,i,d,R,l,E.mono j g,f,F.at g⟩
 | false=>rw[if_neg Bool.false_ne_true]at f⊢;exact⟨e,i,d,R,l,E.mono j g,f,F.at g⟩
end
abbrev WA:=hX->MH->(List D->MH->Prop)->Prop
def FinA(K:aNq)(μ:List Addr)(H:Hp)(R:List D->MH->Prop)(Q:List V->Hp->Prop):Prop:=
 ∀ds mh',R ds mh' ->∀μ' vs H',aT μ H μ' H' ->Rep K μ' mh' H' ->IsL K μ' H' ds vs->Q vs H'
def tLA(K:aNq)(w:WA):TA:=λσ H Q=>∃μ a mh R,Rep K μ mh H/\c7 K μ H a σ/\w a mh R/\FinA K μ H R Q
def LA(X:Cx)(es:List Expr)(w:WA):Prop:=PA X es (tLA X.K w)
theorem PA.imp{e:List Expr}{t t' :TA}(h:PA X e t)(i:∀σ H Q,t' σ H Q->t σ H Q):PA X e t' :=λpos pins s σ H Q I q=>h pos pins s σ H Q I (i σ H Q q)
def aD:WA:=λ_ mh Q=>Q [] mh
def aA(w:WE)(d:WA):WA:=λc mh Q=>w c mh λx a=>d c a λxs b=>Q (x::xs) b
def aAq(ds:List D)(mh:MH)(Q:DK):Prop:=ds.length<=sizeLine/\Q (.tup ds) mh
def PV(ds:List D)(mh:MH)(Q:DK):Prop:=ds.length<=sizeLine/\Q (.ref mh.length) (mh++[.lst ds])
section
variable {K:aNq}{μ:List Addr}{mh:MH}{H:Hp}{R:DK}{Q:VK}{ds:List D}{vs:List V}
theorem rK(a:Rep K μ mh H)(F:Fin K μ H R Q)(l:IsL K μ H ds vs)(h:R (.tup ds) mh):∀p,H p=none->Q (.ref p) (upd H p (.tup vs)):=λp b=>
 F _ mh h μ _ _ (aT.new a b) (a.new b) (by unfold Is;exact⟨p,vs,rfl,.of b9,IsL.mono a (aT.new a b) ds vs l⟩)
theorem iN(a:Rep K μ mh H)(F:Fin K μ H R Q)(l:IsL K μ H ds vs)(h:R (.ref mh.length) (mh++[.lst ds])):∀p,H p=none->Q (.ref p) (upd H p (.lst vs)):=λp b=>
 F _ _ h (μ++[p]) _ _ (aT.L3 a b) (a.L3 b l) (by unfold Is;exact⟨p,by rw[<-a.len];simp,rfl⟩)
end
def cX(w:WA):WE:=λb mh Q=>w b mh λds a=>aAq ds a Q
def fR(w:WA):WE:=λb mh Q=>w b mh λds a=>PV ds a Q
section
variable {X:Cx}{e:Expr}{es:List Expr}{w:WE}{wr:WA}{pos:Pos}
theorem aBn:LA X [] aD:=PA.imp A5 λσ H Q h=>by
 obtain⟨μ,b,mh,R,a,E,h,F⟩:=h;exact F [] mh h μ [] H aT.refl a (by unfold IsL;rfl)
theorem V6(ha:LE X e w)(m:LA X es wr)(hs:starEach (e::es) X.env=(false,eval e X.env)::starEach es X.env:=by rfl):LA X (e::es) (aA w wr):=PA.imp (uN ha m hs) λσ H Q h=>by
 obtain⟨μ,f,mh,R,g,E,h,F⟩:=h;refine⟨μ,f,mh,_,g,E,h,λdx a n b i s j k o=>⟨b,f,a,_,k,E.mono g j,n,λds c p d vs q l R2 r=>?_⟩⟩;exact F _ c p d _ q (j.trans l) R2 (by unfold IsL;exact⟨i,vs,rfl,Is.mono k l dx i o,r⟩)
theorem aB9{x1}(h:LA X es wr):LE X (.Tuple es x1 pos) (cX wr):=PE.imp (aA0 h) λσ H Q h=>by
 obtain⟨μ,c,mh,R,d,E,h,F⟩:=h;refine⟨μ,c,mh,_,d,E,h,λds e a f vs j g i b=>⟨by rw[aY b];exact a.1,rK i (F.at g) b a.2⟩⟩
theorem aBe(h:LA X es wr):LE X (.List es pos) (fR wr):=PE.imp (aA5 h) λσ H Q h=>by
 obtain⟨μ,c,mh,R,d,E,h,F⟩:=h;refine⟨μ,c,mh,_,d,E,h,λds e a f vs j g i b=>⟨by rw[aY b];exact a.1,iN i (F.at g) b a.2⟩⟩
abbrev OA:=List D->MH->DK->Prop
def eF(K:aNq)(f:OA):List V->Hp->VK->Prop:=λxs H Q=>∃μ mh ds R,Rep K μ mh H/\IsL K μ H ds xs/\f ds mh R/\Fin K μ H R Q
def aC(f:OA)(w:WA):WE:=λb mh Q=>w b mh λds a=>f ds a Q
theorem call_in{f:OA}{σ:L2.St}(h:tL K (aC f wr) σ H Q):tCB (eF K f) (tLA K wr) σ H Q:=by
 obtain⟨μ,c,mh,R,d,E,h,F⟩:=h;exact⟨μ,c,mh,_,d,E,h,λds a e b vs k g i j=>⟨b,a,ds,R,i,j,e,F.at g⟩⟩
theorem QR{x:Str}{p:Pos}{id:String}{f:OA}(c:cD X (.builtin id) (eF X.K f))(hg:Gl X x)(hm:X.mg x=none)(d:bootBuiltins x=some (.builtin id))(ha:LA X (e::es) wr)(g:x≠ "__name__":=by decide)(a:(x==("__debug__":Str))=false:=by decide)
  (he:starEach (e::es) X.env=(false,eval e X.env)::starEach es X.env:=by rfl) (b:(backTo pos (starEach es X.env)).any (·.1)=false:=by rfl):LE X (.Call (.Name x p) (e::es) [] pos) (aC f wr):=
 PE.imp (D5 c hg hm d ha g a he b) λ_ _ _ h=>call_in h
theorem L7{x:Str}{p:Pos}{T:String}{f:OA}(c:cD X (.type T) (eF X.K f))(hg:Gl X x)(hm:X.mg x=none)(d:bootBuiltins x=some (.type T))(ha:LA X (e::es) wr)(g:x≠ "__name__":=by decide)(a:(x==("__debug__":Str))=false:=by decide)
  (he:starEach (e::es) X.env=(false,eval e X.env)::starEach es X.env:=by rfl) (b:(backTo pos (starEach es X.env)).any (·.1)=false:=by rfl):LE X (.Call (.Name x p) (e::es) [] pos) (aC f wr):=
 PE.imp (sD c hg hm d ha g a he b) λ_ _ _ h=>call_in h
def SU(K:aNq)(f:OA):Sp:=λvs H Q _=>eF K f vs H Q
theorem V3{k:Nat}{f:Addr}{fd:FuncData}{ps:List Str}{x:Str}{p:Pos}{s:OA}(F:kZ X.prog X.w X.K X.mg X.base F2 k f fd ps (SU X.K s))(g:hU k X.A)(hg:Gl X x)(hm:X.mg x=some (.ref f))(i:PySem.W.keepIn X.K (.ref f)=true)(j:Binds X.K fd ps [])
  (ha:LA X (e::es) wr) (a:(x==("__debug__":Str))=false:=by decide) (he:starEach (e::es) X.env=(false,eval e X.env)::starEach es X.env:=by rfl) (b:(backTo pos (starEach es X.env)).any (·.1)=false:=by rfl):
  LE X (.Call (.Name x p) (e::es) [] pos) (aC s wr):=PE.imp (U3 F g hg hm i j .nil aEy ha a he b) λσ H Q h=>by
 obtain⟨μ,l,mh,R,m,E,h,n⟩:=h;refine⟨μ,l,mh,_,m,E,h,λds c o d vs q r t u=>?_⟩;show eF X.K s (vs++[]) q Q;rw[List.append_nil];exact⟨d,c,ds,R,t,u,o,n.at r⟩
end
section
variable {K:aNq}{μ:List Addr}{mh:MH}{H:Hp}
theorem Is.int{i:Int}:Is K μ H (.int i) (.int i):=by unfold Is;rfl
theorem Is.str{i:Str}:Is K μ H (.str i) (.str i):=by unfold Is;rfl
theorem Is.bl{i:Bool}:Is K μ H (.bl i) (.bl i):=by unfold Is;rfl
theorem Is.b8:Is K μ H .b8 .b8:=by unfold Is;rfl
variable{v:V}
theorem b6{i:Int}(h:Is K μ H (.int i) v):v= .int i:=by unfold Is at h;exact h
theorem j4{i:Str}(h:Is K μ H (.str i) v):v= .str i:=by unfold Is at h;exact h
theorem zS{i:Bool}(h:Is K μ H (.bl i) v):v= .bl i:=by unfold Is at h;exact h
theorem BR(h:Is K μ H .b8 v):v= .b8:=by unfold Is at h;exact h
variable{ds:List D}
theorem BQ(h:Is K μ H (.tup ds) v):∃a vs,v= .ref a/\CV K H a vs/\IsL K μ H ds vs:=by unfold Is at h;exact h
theorem eK(h:Is K μ H (.tup ds) v):∃a vs,v= .ref a/\t9 K H a vs/\IsL K μ H ds vs:=by obtain⟨a,vs,e,s,l⟩:=BQ h;exact⟨a,vs,e,s.sq,l⟩
theorem pH(h:Is K μ H (.fl ds) v):∃a vs,v= .ref a/\S9 K H a vs/\IsL K μ H ds vs:=by unfold Is at h;exact h
theorem nT{n:Nat}(h:Is K μ H (.ref n) v):∃a,μ[n]? =some a/\v= .ref a:=by unfold Is at h;exact h
theorem eY:∀{ds:List D} {vs:List V} {i:Nat} {d:D},IsL K μ H ds vs->ds[i]? =some d->∃v,vs[i]? =some v/\Is K μ H d v
 | [],_,_,_,_,e=>by simp at e
 | x::ds,vs,i,d,h,e=>by
  unfold IsL at h;obtain⟨v,r,rfl,q,l⟩:=h
  cases i with
  | zero=>simp at e;subst e;exact⟨v,rfl,q⟩
  | succ i=>obtain⟨u,a,b⟩:=eY (i:=i) l (by simpa using e);exact⟨u,by simpa using a,b⟩
theorem iM:∀{ds es:List D} {vs us:List V},IsL K μ H ds vs->IsL K μ H es us->IsL K μ H (ds++es) (vs++us)
 | [],es,vs,us,h,q=>by unfold IsL at h;subst h;exact q
 | d::ds,es,vs,us,h,q=>by
  unfold IsL at h;obtain⟨v,r,rfl,i,l⟩:=h;show IsL K μ H (d::(ds++es)) (v::(r++us));unfold IsL;exact⟨v,_,rfl,i,iM l q⟩
variable{d:D}
theorem jQ(h:Is K μ H d v):IsL K μ H [d] [v]:=by unfold IsL;exact⟨v,[],rfl,h,by unfold IsL;rfl⟩
theorem wW:∀(n:Nat) {ds:List D} {vs:List V},IsL K μ H ds vs->IsL K μ H (ds.drop n) (vs.drop n)
 | 0,_,_,h=>by simpa using h
 | n+1,[],vs,h=>by unfold IsL at h;subst h;simp[IsL]
 | n+1,d::ds,vs,h=>by unfold IsL at h;obtain⟨v,r,rfl,_,l⟩:=h;simpa using wW n l
theorem wU:∀(n:Nat) {ds:List D} {vs:List V},IsL K μ H ds vs->IsL K μ H (ds.take n) (vs.take n)
 | 0,_,_,h=>by simp[IsL]
 | n+1,[],vs,h=>by unfold IsL at h;subst h;simp[IsL]
 | n+1,d::ds,vs,h=>by
  unfold IsL at h;obtain⟨v,r,rfl,i,l⟩:=h;simp only[List.take_succ_cons];unfold IsL;exact⟨v,_,rfl,i,wU n l⟩
theorem KG:∀(n:Nat) {ds:List D} {vs:List V} {d:D} {v:V},Is K μ H d v->IsL K μ H ds vs->IsL K μ H (ds.set n d) (vs.set n v)
 | n,[],vs,d,v,_,h=>by unfold IsL at h;subst h;simp[IsL]
 | 0,x::ds,vs,d,v,i,h=>by unfold IsL at h;obtain⟨u,r,rfl,_,l⟩:=h;simp only[List.set_cons_zero];unfold IsL;exact⟨v,r,rfl,i,l⟩
 | n+1,x::ds,vs,d,v,i,h=>by unfold IsL at h;obtain⟨u,r,rfl,q,l⟩:=h;simp only[List.set_cons_succ];unfold IsL;exact⟨u,_,rfl,q,KG n i l⟩
theorem aC1{vs:List V}{i:Int}(l:IsL K μ H ds vs)(e:fY ds i=some d):∃v,fY vs i=some v/\Is K μ H d v:=by
 unfold fY at*;rw[aY l]
 cases q:J9 ds.length i with
 | none=>rw[q]at e;cases e
 | some j=>rw[q]at e;exact eY l e
def bC(mh:MH):D->Option (List D)
 | .tup ds=>some ds
 | .fl ds=>some ds
 | .ref n=>match mh[n]? with | some (.lst ds)=>some ds | _=>none
 | _=>none
theorem vS(R:Rep K μ mh H)(h:Is K μ H d v)(e:bC mh d=some ds):∃a vs,v= .ref a/\(qB K H a vs\/t9 K H a vs)/\IsL K μ H ds vs:=by
 cases d with
 | tup es=>obtain⟨a,vs,rfl,s,l⟩:=eK h;cases e;exact⟨a,vs,rfl,.inr s,l⟩
 | fl es=>obtain⟨a,vs,rfl,s,l⟩:=pH h;cases e;exact⟨a,vs,rfl,.inl s.sq,l⟩
 | ref n=>
  obtain⟨a,q,rfl⟩:=nT h;simp only[bC]at e
  cases o:mh[n]? with
  | none=>rw[o]at e;cases e
  | some ob=>
   cases ob with
   | lst es=>
    rw[o]at e;cases e;obtain⟨vs,b,l⟩:=R.obj n a _ q o;exact⟨a,vs,rfl,.inl (.of b),l⟩
   | dic t kvs=>rw[o]at e;cases e
   | fdc t kvs ob=>rw[o]at e;cases e
   | oth ds f=>rw[o]at e;cases e
 | _=>cases e
def nP(mh:MH):D->Option (List D)
 | .fl ds=>some ds
 | .ref n=>match mh[n]? with | some (.lst ds)=>some ds | _=>none
 | _=>none
theorem sG(R:Rep K μ mh H)(h:Is K μ H d v)(e:nP mh d=some ds):∃a vs,v= .ref a/\qB K H a vs/\IsL K μ H ds vs:=by
 cases d with
 | fl es=>obtain⟨a,vs,rfl,s,l⟩:=pH h;cases e;exact⟨a,vs,rfl,s.sq,l⟩
 | ref n=>
  obtain⟨a,q,rfl⟩:=nT h;simp only[nP]at e
  cases o:mh[n]? with
  | none=>rw[o]at e;cases e
  | some ob=>
   cases ob with
   | lst es=>
    rw[o]at e;cases e;obtain⟨vs,b,l⟩:=R.obj n a _ q o;exact⟨a,vs,rfl,.of b,l⟩
   | dic t kvs=>rw[o]at e;cases e
   | fdc t kvs ob=>rw[o]at e;cases e
   | oth ds f=>rw[o]at e;cases e
 | _=>cases e
theorem j0{n:Nat}(R:Rep K μ mh H)(h:Is K μ H (.ref n) v)(e:mh[n]? =some (.lst ds)):∃a vs,v= .ref a/\μ[n]? =some a/\H a=some (.lst vs)/\IsL K μ H ds vs:=by
 obtain⟨a,q,rfl⟩:=nT h;obtain⟨vs,b,l⟩:=R.obj n a _ q e;exact⟨a,vs,rfl,q,b,l⟩
theorem Fin.here(F:Fin K μ H R Q)(a:Rep K μ mh H)(h:R d mh)(i:Is K μ H d v):Q v H:=F d mh h μ v H aT.refl a i
theorem Fin.put{n:Nat}{vs:List V}(F:Fin K μ H R Q)(b:Rep K μ mh H)(c:μ[n]? =some a)(l:IsL K μ H ds vs)(h:R d (mh.set n (.lst ds)))(i:Is K μ H d v):Q v (upd H a (.lst vs)):=
 F d _ h μ v _ (aT.set b c) (b.set c l) (Is.mono b (aT.set b c) d v i)
end
def D7(C:Int->Int->Prop)(g:Int->Int->D):O2:=λx y mh Q=>∃i j,x= .int i/\y= .int j/\C i j/\Q (g i j) mh
section
variable {X:Cx}
variable{f:Value->Value->Sem Value}{g:Int->Int->V}
theorem v7{C:Int->Int->Prop}{g' :Int->Int->D}(h:g7 X f (rI C g))(hg:∀μ H i j,Is X.K μ H (g' i j) (g i j)):g7 X f (bY X.K (D7 C g')):=by
 intro pins s σ H x y v u Q I a b q;obtain⟨μ,mh,dx,k,R,d,ix,e,⟨i,j,rfl,rfl,c,q⟩,F⟩:=q;cases b6 ix;cases b6 e;exact h pins s σ H _ _ v u Q I a b ⟨i,j,rfl,rfl,c,F.here d q (hg _ _ _ _)⟩
theorem aEk(h:g7 X f (ZV g)):g7 X f (rI (λ_ _=>True) g):=λpins s σ H x y v u Q I b c a=>by obtain⟨i,j,d,e,_,q⟩:=a;exact h pins s σ H x y v u Q I b c ⟨i,j,d,e,q⟩
abbrev GS:O2:=D7 (λ_ _=>True) λi j=>.int (i-j)
abbrev v9:O2:=D7 NO λi j=>.int (i*j)
abbrev JL:O2:=D7 aGp λi j=>.int (i / j)
abbrev oMod:O2:=D7 (λ_ j=>0<j) λi j=>.int (i % j)
abbrev PD:O2:=D7 aDc λi j=>.int (i^j.toNat)
theorem aAe:g7 X (binaryOp .Sub) (bY X.K GS):=v7 (aEk aA8) λ_ _ _ _=>.int
theorem aAh:g7 X (binaryOp .Mult) (bY X.K v9):=v7 aAa λ_ _ _ _=>.int
theorem VA:g7 X (binaryOp .FloorDiv) (bY X.K JL):=v7 U7 λ_ _ _ _=>.int
theorem aAi:g7 X (binaryOp .Mod) (bY X.K oMod):=v7 aAb λ_ _ _ _=>.int
theorem aAf:g7 X (binaryOp .Pow) (bY X.K PD):=v7 aA9 λ_ _ _ _=>.int
def v8:O1:=λx mh Q=>∃i,x= .int i/\Q (.int (-i)) mh
theorem Y2:UnR X (unaryOp .USub) (QL X.K v8):=by
 intro pins s σ H x v Q I a q;obtain⟨μ,mh,dx,R,b,ix,⟨i,rfl,q⟩,F⟩:=q;cases b6 ix;exact Y1 pins s σ H _ v Q I a ⟨i,rfl,F.here b q .int⟩
def i9:O2:=λx y mh Q=>match x with
 | .int i=>match y with | .int j=>Q (.int (i+j)) mh | _=>False
 | .str i=>match y with | .str j=>i.length+j.length<=sizeLine/\Q (.str (i++j)) mh | _=>False
 | .tup i=>match y with | .tup j=>i.length+j.length<=sizeLine/\Q (.tup (i++j)) mh | _=>False
 | .ref n=>match y with | .ref m=>∃i j,mh[n]? =some (.lst i)/\mh[m]? =some (.lst j)/\PV (i++j) mh Q | _=>False
 | _=>False
theorem R7{prog:Program}{w:World}{A:Around}{E:aNr}{s:Shared}{t b:Addr}{g:List Value}{Q:aNr}(ht:IsTup s.heap t ([]:List Value).toArray)(k:IsTup s.heap b g.toArray)
  (h:Q (.ref b) s):wpAny (model prog w) A (binaryOp .Add (.ref t) (.ref b)) Q E s:=by
 obtain⟨⟨cls,l,data,sl⟩,ho,i,n,hd⟩:=id ht;obtain⟨⟨j,e,data2,f⟩,a,c,m,d⟩:=id k;simp only at i hd c d;subst i hd c d
 exact concat_meets ⟨_,ho,rfl⟩ ⟨_,a,rfl⟩ noFill_tuple_add seq_tuple_add aMs aMq (aMk _ _)
   (tuple_addW0 t b _ g.toArray n m l e sl f (by simp)) ⟨ho,a,h⟩
theorem aAk:g7 X (binaryOp .Add) (bY X.K i9):=by
 intro pins s σ H x y v u Q I d f q;obtain⟨μ,mh,dx,h,R,c,ix,g,q,F⟩:=q
 cases dx with
 | int i=>cases h with
  | int j=>cases b6 ix;cases b6 g;exact aAd pins s σ H _ _ v u Q I d f ⟨i,j,rfl,rfl,F.here c q .int⟩
  | _=>exact False.elim q
 | str i=>cases h with
  | str j=>cases j4 ix;cases j4 g;exact GQ pins s σ H _ _ v u Q I d f ⟨i,j,rfl,rfl,q.1,F.here c q.2 .str⟩
  | _=>exact False.elim q
 | tup i=>cases h with
  | tup j=>
   obtain⟨a,xs,rfl,k,la⟩:=eK ix;obtain⟨b,o,rfl,l,lb⟩:=eK g;by_cases hx:xs=[]
   ·subst hx;cases d;cases f;obtain⟨aL,r,t,_⟩:=I.tuple k;obtain⟨p,C,w,_⟩:=I.tuple l;cases r;have hi:i=[]:=by have:=aY la;cases i <;> simp_all
    subst hi;exact R7 t w ⟨.ref b,H,I,rfl,F.here c q.2 g⟩
   ·refine U8 pins s σ H _ _ v u Q I d f ⟨a,b,xs,o,rfl,rfl,k,l,hx,by rw[aY la,aY lb];exact q.1,λe=>?_,λ_=>rK c F (iM la lb) q.2⟩;subst e;have z:j=[]:=by have:=aY lb;cases j <;> simp_all
    subst z;exact F.here c q.2 (by simpa using ix)
  | _=>exact False.elim q
 | ref n=>cases h with
  | ref m=>
   obtain⟨i,j,A,B,q⟩:=q;obtain⟨a,xs,rfl,_,k,la⟩:=j0 c ix A;obtain⟨b,o,rfl,_,l,lb⟩:=j0 c g B;exact aAc pins s σ H _ _ v u Q I d f ⟨a,b,xs,o,rfl,rfl,k,l,by rw[aY la,aY lb,<-List.length_append];exact q.1,iN c F (iM la lb) q.2⟩
  | _=>exact False.elim q
 | _=>exact False.elim q
def aX:O2:=λx y mh Q=>∃i,y= .int i/\match x with
 | .str z=>z.length<=sizeLine/\∃c,fY z.cps.toList i=some c/\Q (.str ⟨#[c]⟩) mh
 | _=>∃ds d,bC mh x=some ds/\fY ds i=some d/\Q d mh
theorem S6:YX X (bY X.K aX):=by
 intro b f pins s σ H x y v u Q I h j q hs;obtain⟨μ,mh,dx,t,R,g,ix,o,⟨i,rfl,q⟩,F⟩:=q;cases b6 o
 have go:(∃ds d,bC mh dx=some ds/\fY ds i=some d/\R d mh)->wpAny (model X.prog X.w) X.A (subscriptTail b f v u) (EP X pins σ Q) X.xe s:=λk=>by
  obtain⟨ds,d,p,r,q⟩:=k;obtain⟨a,vs,rfl,sq,l⟩:=vS g ix p;obtain⟨z,m,n⟩:=aC1 l r;rcases sq with sq | sq
  ·exact WB b f pins s σ H _ _ v u Q I h j ⟨a,vs,i,z,rfl,rfl,sq,m,F.here g q n⟩ hs
  ·exact aBw b f pins s σ H _ _ v u Q I h j ⟨a,vs,i,z,rfl,rfl,sq,m,F.here g q n⟩ hs
 cases dx with
 | str z=>
  obtain⟨hz,c,e,q⟩:=q;cases j4 ix;exact aBx b f pins s σ H _ _ v u Q I h j ⟨z,i,c,rfl,rfl,hz,e,F.here g q .str⟩ hs
 | _=>exact go q
def tV:D->Bool | .b8=>true | _=>false
variable{μ:List Addr}
theorem Q3{d:D}{v:V}(h:Is K μ H d v):decide (v= .b8)=tV d:=by
 cases d with
 | b8=>cases BR h;rfl
 | bl _=>cases zS h;rfl
 | int _=>cases b6 h;rfl
 | str _=>cases j4 h;rfl
 | ty _=>unfold Is at h;subst h;rfl
 | tup _=>obtain⟨a,vs,rfl,_,_⟩:=eK h;rfl
 | fl _=>obtain⟨a,vs,rfl,_,_⟩:=pH h;rfl
 | ref _=>obtain⟨a,_,rfl⟩:=nT h;rfl
def pE:O2:=λx y mh Q=>y= .b8/\Q (.bl !tV x) mh
theorem U9:g7 X (compareOp .IsNot) (bY X.K pE):=by
 intro pins s σ H x y v u Q I a b q;obtain⟨μ,mh,dx,e,R,c,ix,d,⟨rfl,q⟩,F⟩:=q;cases BR d;exact U6 pins s σ H x _ v u Q I a b ⟨rfl,F.here c q (by rw[Q3 ix];exact .bl)⟩
def fT:OA:=λxs mh Q=>∃x,xs=[x]/\match x with
 | .str z=>z.length<=sizeLine/\Q (.int z.length) mh
 | _=>∃ds,bC mh x=some ds/\Q (.int ds.length) mh
variable{vs:List V}
theorem fX{d:D}(h:IsL K μ H [d] vs):∃v,vs=[v]/\Is K μ H d v:=by
 unfold IsL at h;obtain⟨v,r,rfl,i,l⟩:=h;unfold IsL at l;subst l;exact⟨v,rfl,i⟩
theorem KJ{d e:D}(h:IsL K μ H [d,e] vs):∃v u,vs=[v,u]/\Is K μ H d v/\Is K μ H e u:=by
 unfold IsL at h;obtain⟨v,r,rfl,i,l⟩:=h;obtain⟨u,rfl,j⟩:=fX l;exact⟨v,u,rfl,i,j⟩
theorem aCt:cD X (.builtin "len") (eF X.K fT):=by
 intro pins s σ H xs us Q I r q;obtain⟨μ,mh,ds,R,b,f,⟨x,rfl,q⟩,F⟩:=q;obtain⟨v,rfl,d⟩:=fX f
 have go:(∃ds,bC mh x=some ds/\R (.int ds.length) mh)->wpAny (model X.prog X.w) X.A (call (.builtin "len") us) (EP X pins σ Q) X.xe s:=λc=>by
  obtain⟨es,e,q⟩:=c;obtain⟨a,vs,rfl,sq,l⟩:=vS b d e;exact CK pins s σ H _ us Q I r ⟨a,vs,rfl,sq,F.here b q (by rw[aY l];exact .int)⟩
 cases x with
 | str z=>cases j4 d;exact CJ pins s σ H _ us Q I r ⟨z,rfl,q.1,F.here b q.2 .int⟩
 | _=>exact go q
def SJ:OA:=λxs mh Q=>∃i,xs=[.int i]/\Q (.int (if i<0 then -i else i)) mh
theorem aCx:cD X (.builtin "abs") (eF X.K SJ):=by
 intro pins s σ H xs us Q I r q;obtain⟨μ,mh,ds,R,a,b,⟨i,rfl,q⟩,F⟩:=q;obtain⟨v,rfl,c⟩:=fX b;cases b6 c;exact R8 pins s σ H _ us Q I r ⟨i,rfl,F.here a q .int⟩
def FX:OA:=λxs mh Q=>∃i j,xs=[.int i,.int j]/\Q (.int (if j > i then j else i)) mh
def xS:OA:=λxs mh Q=>∃i j,xs=[.int i,.int j]/\Q (.int (if j<i then j else i)) mh
theorem XF(a:X.calm=true):cD X (.builtin "max") (eF X.K FX):=by
 intro pins s σ H xs us Q I r q;obtain⟨μ,mh,ds,R,b,c,⟨i,j,rfl,q⟩,F⟩:=q;obtain⟨v,u,rfl,d,e⟩:=KJ c;cases b6 d;cases b6 e;exact NI a pins s σ H _ us Q I r ⟨i,j,rfl,F.here b q .int⟩
theorem XE(a:X.calm=true):cD X (.builtin "min") (eF X.K xS):=by
 intro pins s σ H xs us Q I r q;obtain⟨μ,mh,ds,R,b,c,⟨i,j,rfl,q⟩,F⟩:=q;obtain⟨v,u,rfl,d,e⟩:=KJ c;cases b6 d;cases b6 e;exact NH a pins s σ H _ us Q I r ⟨i,j,rfl,F.here b q .int⟩
def aD7:OA:=λxs mh Q=>(∃i,xs=[.int i]/\Q (.int i) mh)\/∃k,xs=[.bl k]/\Q (.int (if k then 1 else 0)) mh
theorem aCv:cD X (.type "int") (eF X.K aD7):=by
 intro pins s σ H xs us Q I r q;obtain⟨μ,mh,ds,R,b,c,q,F⟩:=q
 rcases q with ⟨i,rfl,q⟩ | ⟨k,rfl,q⟩
 ·obtain⟨v,rfl,a⟩:=fX c;cases b6 a;exact AH pins s σ H _ us Q I r (.inl ⟨i,rfl,F.here b q .int⟩)
 ·obtain⟨v,rfl,a⟩:=fX c;cases zS a;exact AH pins s σ H _ us Q I r (.inr ⟨k,rfl,F.here b q .int⟩)
theorem ZJ{pins:List (Addr×Obj)}{σ:L2.St}{s:Shared}(I:Inv X pins σ H s)(h:qB X.K H a vs\/t9 X.K H a vs):vs.length<=sizeLine:=by
 rcases h with h | h
 ·obtain⟨_,_,_,z⟩:=I.list h;exact z
 ·obtain⟨_,_,_,z⟩:=I.tuple h;exact z
def FY:OA:=λxs mh Q=>∃x ds,xs=[x]/\bC mh x=some ds/\Q (.ref mh.length) (mh++[.lst ds])
def c5:OA:=λxs mh Q=>∃x ds,xs=[x]/\bC mh x=some ds/\Q (.tup ds) mh
theorem XG:cD X (.type "list") (eF X.K FY):=by
 intro pins s σ H xs us Q I r q;obtain⟨μ,mh,ds,R,b,c,⟨x,es,rfl,e,q⟩,F⟩:=q;obtain⟨v,rfl,d⟩:=fX c;obtain⟨a,vs,rfl,sq,l⟩:=vS b d e;exact CH pins s σ H _ us Q I r ⟨a,vs,rfl,sq,iN b F l q⟩
theorem R6:cD X (.type "tuple") (eF X.K c5):=by
 intro pins s σ H xs us Q I r q;obtain⟨μ,mh,ds,R,b,d,⟨x,es,rfl,e,q⟩,F⟩:=q;obtain⟨v,rfl,c⟩:=fX d
 cases x with
 | tup f=>
  cases e;obtain⟨a,vs,rfl,sq,l⟩:=eK c;exact j6 pins s σ H _ us Q I r ⟨a,vs,rfl,.inr ⟨sq,F.here b q c⟩⟩
 | fl f=>
  cases e;obtain⟨a,vs,rfl,sq,l⟩:=pH c;exact j6 pins s σ H _ us Q I r ⟨a,vs,rfl,.inl ⟨sq.sq,rK b F l q⟩⟩
 | ref n=>
  obtain⟨a,vs,rfl,sq,l⟩:=sG b c (show nP mh (.ref n)=some es from e);exact j6 pins s σ H _ us Q I r ⟨a,vs,rfl,.inl ⟨sq,rK b F l q⟩⟩
 | _=>cases e
end
def Y4(mh:MH):D->Option String
 | .b8=>some "NoneType"
 | .bl _=>some "bool"
 | .int _=>some "int"
 | .str _=>some "str"
 | .tup _=>some "tuple"
 | .fl _=>some "list"
 | .ref n=>match mh[n]? with | some (.lst _)=>some "list" | _=>none
 | .ty _=>none
def vL(t c:String):Bool:=t==c || (t== "bool" && c== "int")
def bT:List String:=["int","bool","str","tuple","list"]
theorem YN:∀t∈ "NoneType"::bT,∀c∈bT,PySem.W.kitOne K (.type t) (.type c)=some (vL t c):=by
 intro t ht c a;simp only[bT,List.mem_cons,List.not_mem_nil,or_false]at ht a;rcases ht with rfl | rfl | rfl | rfl | rfl | rfl <;> rcases a with rfl | rfl | rfl | rfl | rfl <;> kernel_rfl
theorem J4{K:aNq}{t:String}(ht:t∈ "NoneType"::bT):∀cs:List String,(∀c∈cs,c∈bT)->PySem.W.kitAny K (.type t) (cs.map Value.type)=some (cs.any (vL t))
 | [],_=>rfl
 | c::cs,h=>by
  have e:=YN (K:=K) t ht c (h c aK7);have a:=J4 (K:=K) ht cs λx hx=>h x (aK8 _ hx);simp only[List.map_cons,PySem.W.kitAny,e,List.any_cons]
  cases vL t c with
  | true=>rfl
  | false=>simpa using a
def CU:OA:=λxs mh Q=>∃x c t,xs=[x,c]/\Y4 mh x=some t/\
 ((∃T,c= .ty T/\T∈bT/\Q (.bl (vL t T)) mh)\/∃a:List String,c= .tup (a.map .ty)/\(∀T∈a,T∈bT)/\Q (.bl (a.any (vL t))) mh)
section
variable {X:Cx}
theorem aBq{pins:List (Addr×Obj)}{σ:L2.St}{s:Shared}{μ:List Addr}{mh:MH}{d:D}{v:V}{u:Value}{t:String}(I:Inv X pins σ H s)(R:Rep X.K μ mh H)(h:Is X.K μ H d v)(r:RelV v u)(e:Y4 mh d=some t):
  t∈ "NoneType"::bT/\u≠ .builtin "__main__.__loader__#opaque"/\∃P,PySem.W.KitX X.K u (.type t) P/\P s.heap:=by
 have i:∀{a:Addr} {vs:List V},qB X.K H a vs->∃P,PySem.W.KitX X.K (.ref a) (.type "list") P/\P s.heap:=λ{a vs} sq=>by
  obtain⟨aL,_,⟨o,n,c,g,_⟩,_⟩:=I.list sq;exact⟨_,PySem.W.kitx_list,⟨o,c,g⟩⟩
 cases d with
 | b8=>cases BR h;cases r;cases e;exact⟨by simp[bT],nofun,_,PySem.W.kitx_none,trivial⟩
 | bl b=>cases zS h;cases r;cases e;exact⟨by simp[bT],nofun,_,PySem.W.kitx_bool,trivial⟩
 | int b=>cases b6 h;obtain⟨j,rfl⟩:=r;cases e;exact⟨by simp[bT],nofun,_,PySem.W.kitx_int,trivial⟩
 | str b=>cases j4 h;obtain⟨j,rfl⟩:=r;cases e;exact⟨by simp[bT],nofun,_,PySem.W.kitx_str,trivial⟩
 | ty b=>cases e
 | tup ds=>
  obtain⟨a,vs,rfl,sq,_⟩:=eK h;cases r;cases e;obtain⟨aL,_,⟨o,c,g,_⟩,_⟩:=I.tuple sq;exact⟨by simp[bT],nofun,_,PySem.W.kitx_tuple,⟨o,c,g⟩⟩
 | fl ds=>
  obtain⟨a,vs,rfl,sq,_⟩:=pH h;cases r;cases e;exact⟨by simp[bT],nofun,i sq.sq⟩
 | ref n=>
  obtain⟨a,q,rfl⟩:=nT h;cases r;simp only[Y4]at e
  cases o:mh[n]? with
  | none=>rw[o]at e;cases e
  | some ob=>
   cases ob with
   | lst es=>
    rw[o]at e;cases e;obtain⟨vs,k,l⟩:=R.obj n a _ q o;exact⟨by simp[bT],nofun,i (.of k)⟩
   | dic t kvs=>rw[o]at e;cases e
   | fdc t kvs ob=>rw[o]at e;cases e
   | oth ds f=>rw[o]at e;cases e
theorem KD{K:aNq}{μ:List Addr}{H:Hp}:∀{a:List String} {vs:List V} {us:List Value},IsL K μ H (a.map .ty) vs->Vals vs us->us=a.map Value.type
 | [],vs,us,h,r=>by simp only[List.map_nil]at h;unfold IsL at h;subst h;cases r;rfl
 | T::a,vs,us,h,r=>by
  simp only[List.map_cons]at h;unfold IsL at h;obtain⟨v,e,rfl,i,l⟩:=h
  cases r with
  | cons c d=>
   unfold Is at i;subst i;have b :_=Value.type T:=c;subst b;rw[KD l d];rfl
theorem aCu:cD X (.builtin "isinstance") (eF X.K CU):=by
 intro pins s σ H xs us Q I r q;obtain⟨μ,mh,ds,R,e,p,⟨x,c,t,rfl,u,q⟩,F⟩:=q;obtain⟨v,w,rfl,y,f⟩:=KJ p
 cases r with
 | cons z d=>
  cases d with
  | cons d A=>
   cases A;obtain⟨hm,hx,P,i,j⟩:=aBq I e y z u
   rcases q with ⟨T,rfl,g,q⟩ | ⟨B,rfl,g,q⟩
   ·unfold Is at f;subst f;have b :_=Value.type T:=d;subst b
    exact PySem.W.kia_one i I.kIn j (YN t hm T g) hx λh=>⟨.bl _,H,I.tok h,rfl,F.here e q .bl⟩
   ·obtain⟨a,vs,rfl,sq,l⟩:=eK f;have b :_=Value.ref a:=d;subst b;obtain⟨aL,C,⟨o,D,k,n,m⟩,_⟩:=I.tuple sq;have E:=KD l C;obtain⟨oc,od,G,osl⟩:=o;simp only at k m;subst k m
    exact PySem.W.kia_tup i I.kIn j D (by rw[E];exact J4 hm B g) hx λh=>⟨.bl _,H,I.tok h,rfl,F.here e q .bl⟩
def SI:OA:=λxs mh Q=>∃(x:D) (bs:List Bool),xs=[x]/\nP mh x=some (bs.map .bl)/\Q (.bl (bs.all id)) mh
theorem KI{K:aNq}{μ:List Addr}{H:Hp}:∀{bs:List Bool} {vs:List V} {us:List Value},IsL K μ H (bs.map .bl) vs->Vals vs us->us=bs.map Value.bool
 | [],vs,us,h,r=>by simp only[List.map_nil]at h;unfold IsL at h;subst h;cases r;rfl
 | T::Ts,vs,us,h,r=>by
  simp only[List.map_cons]at h;unfold IsL at h;obtain⟨v,d,rfl,i,l⟩:=h
  cases r with
  | cons b c=>
   cases zS i;have a :_=Value.bool T:=b;subst a;rw[KI l c];rfl
theorem range_all:∀bs:List Bool,(List.range bs.length).all (λi=>bs.getD i true)=bs.all id
 | []=>rfl
 | b::bs=>by
  have:=range_all bs;simp only[List.length_cons,List.range_succ_eq_map,List.all_cons,List.all_map];simp only[Function.comp_def,List.getD_cons_zero,List.getD_cons_succ,this,id]
theorem zR{prog:Program}{w:World}{A:Around}{E:aNr}{s:Shared}{l:Addr}{items:Array Value}{Q:aNr}(b:s.heap.IsList l items)
  (h:∀a:Shared,a={s with heap:=s.heap.push {cls:= .type "list_iterator",data:= .fields #[.ref l,.int 0 0]}}->
   (a.heap.IsListIter s.heap.objs.size l 0/\a.heap.IsList l items)->l≠s.heap.objs.size->Q (.ref s.heap.objs.size) a):
  wpAny (model prog w) A (pyIter (.ref l)) Q E s:=by
 have c:l<s.heap.objs.size:=by obtain⟨_,e,_⟩:=b;exact aKb e
 exact aMv b (h _ rfl ⟨⟨_,aKa _ rfl,rfl,rfl⟩,b.push _⟩ (aKg c))
theorem aCw(j:X.calm=true):cD X (.builtin "all") (eF X.K SI):=by
 intro pins s σ H xs us Q I r q;obtain⟨μ,mh,ds,R,f,k,⟨x,bs,rfl,e,q⟩,F⟩:=q;obtain⟨v,rfl,m⟩:=fX k;obtain⟨a,vs,rfl,sq,l⟩:=sG f m e;obtain⟨u,rfl,n⟩:=vals1 r;cases n;obtain⟨aL,p,t,hz⟩:=I.list sq;have w:=KI l p;subst w;refine call_all_walk (zR t.isList λg y st d=>?_);subst y;refine⟨_,_,_,_,_,_,λi=>bs.getD i true,rfl,Walks.list (A:=X.A.in1) (I.ok.hd j) _ a d (bs.map Value.bool).toArray,st,?_,λh' h z=>?_⟩
 ·intro i v G J L B C;have c :(bs.map Value.bool).toArray[i]? =some v:=B;rw[List.getElem?_toArray,List.getElem?_map]at c;obtain⟨b,D,rfl⟩:=aL0.mp c;have:bs.getD i true=b:=by rw[List.getD_eq_getElem?_getD,D];rfl
  refine aM8 ?_;rw[<-this];exact C
 ·have M:Inv X pins σ H {s with heap:=s.heap.push {cls:= .type "list_iterator",data:= .fields #[.ref a,.int 0 0]}}:=I.kept (t' :=s.toks) λb o e=>aK4 _ e;have E:Inv X pins σ H {s with heap:=h',toks:=h}:=I.kept (t' :=h) λb o e=>z b o (by simp;exact aKg (aKb e)) (aK4 _ e);refine⟨.bl (bs.all id),H,E,?_,F.here f q .bl⟩;have:=range_all bs;simp only[List.size_toArray,List.length_map,this];rfl
end
mutual
def Vl(h:Heap):D->Value->Prop
 | .b8,u=>u= .none
 | .bl b,u=>u= .bool b
 | .int i,u=>∃t,u= .int i t
 | .str x,u=>∃t,u= .str x t
 | .ty _,_=>False
 | .tup ds,u=>∃a us,u= .ref a/\IsTup h a us.toArray/\cM h ds us
 | .fl ds,u=>∃a us,u= .ref a/\h.IsList a us.toArray/\cM h ds us
 | .ref _,_=>False
def cM(h:Heap):List D->List Value->Prop
 | [],us=>us=[]
 | d::ds,us=>∃u r,us=u::r/\Vl h d u/\cM h ds r
end
mutual
def bare:D->Bool
 | .ty _=>false
 | .ref _=>false
 | .tup ds=>cL ds
 | .fl ds=>cL ds
 | _=>true
def cL:List D->Bool
 | []=>true
 | d::ds=>bare d && cL ds
end
mutual
def deep:D->Nat
 | .tup ds=>bS ds+1
 | .fl ds=>bS ds+1
 | _=>0
def bS:List D->Nat
 | []=>0
 | d::ds=>max (deep d) (bS ds)
end
mutual
def eB:D->D->Bool
 | .b8,y=>tV y
 | .bl a,y=>match y with | .bl b=>a==b | .int j=>(if a then 1 else 0)==j | _=>false
 | .int i,y=>match y with | .int j=>i==j | .bl b=>i==(if b then 1 else 0) | _=>false
 | .str a,y=>match y with | .str b=>a==b | _=>false
 | .tup as,y=>match y with | .tup bs=>cZ as bs | _=>false
 | .fl as,y=>match y with | .fl bs=>cZ as bs | _=>false
 | .ref _,_=>false
 | .ty _,_=>false
def cZ:List D->List D->Bool
 | [],y=>y.isEmpty
 | a::as,y=>match y with | b::bs=>eB a b && cZ as bs | []=>false
end
theorem cS:∀(as bs:List D),cZ as bs=((List.range (min as.length bs.length)).all (λj=>eB (as.getD j .b8) (bs.getD j .b8)) && as.length==bs.length)
 | [],[]=>by simp[cZ]
 | [],b::bs=>by simp[cZ]
 | a::as,[]=>by simp[cZ]
 | a::as,b::bs=>by
  have c:=cS as bs;simp only[cZ,List.length_cons,Nat.succ_min_succ,List.range_succ_eq_map,List.all_cons,List.all_map,Function.comp_def,List.getD_cons_zero,List.getD_cons_succ,c];cases eB a b <;> simp
theorem bF{h:Heap}:∀{ds:List D} {us:List Value},cM h ds us->us.length=ds.length
 | [],us,q=>by unfold cM at q;subst q;rfl
 | d::ds,us,q=>by unfold cM at q;obtain⟨u,r,rfl,_,l⟩:=q;simp[bF l]
theorem d7{h:Heap}:∀{ds:List D} {us:List Value} {j:Nat} {u:Value},cM h ds us->us[j]? =some u->Vl h (ds.getD j .b8) u
 | [],us,j,u,q,e=>by unfold cM at q;subst q;simp at e
 | d::ds,us,j,u,q,e=>by
  unfold cM at q;obtain⟨w,r,rfl,i,l⟩:=q
  cases j with
  | zero=>simp at e;subst e;exact i
  | succ j=>exact d7 (j:=j) l (by simpa using e)
theorem gF:∀(ds:List D) (j:Nat),deep (ds.getD j .b8)<=bS ds
 | [],j=>by simp[deep]
 | d::ds,0=>by simp[bS];lia
 | d::ds,j+1=>by have:=gF ds j;simp[bS]at*;lia
variable{h:Heap}
theorem uO{x y:Array Value}(d:h.IsList a x)(e:IsTup h a y):False:=by
 obtain⟨o,ho,f,_⟩:=d;obtain⟨g,b,c,_⟩:=e;rw[ho]at b;cases b;rw[f]at c;exact absurd c (by simp)
mutual
theorem AQ{h:Heap}:∀{d e:D} {u:Value},Vl h d u->Vl h e u->eB d e=true
 | .b8,e,u,p,q=>by
  unfold Vl at p;subst p
  cases e <;> unfold Vl at q <;> first | rfl | (cases q;done) | (obtain⟨_,q⟩:=q;cases q;done) | (obtain⟨_,_,q,_⟩:=q;cases q;done)
 | .bl a,e,u,p,q=>by
  unfold Vl at p;subst p
  cases e <;> unfold Vl at q <;> first | (subst q;simp[eB];done) | (cases q;simp[eB];done) | (cases q;done) | (obtain⟨_,q⟩:=q;cases q;done) | (obtain⟨_,_,q,_⟩:=q;cases q;done)
 | .int a,e,u,p,q=>by
  unfold Vl at p;obtain⟨t,rfl⟩:=p
  cases e <;> unfold Vl at q <;> first | (cases q;done) | (obtain⟨_,q⟩:=q;cases q;simp[eB];done) | (obtain⟨_,q⟩:=q;cases q;done) | (obtain⟨_,_,q,_⟩:=q;cases q;done)
 | .str a,e,u,p,q=>by
  unfold Vl at p;obtain⟨t,rfl⟩:=p
  cases e <;> unfold Vl at q <;> first | (cases q;done) | (obtain⟨_,q⟩:=q;cases q;simp[eB];done) | (obtain⟨_,q⟩:=q;cases q;done) | (obtain⟨_,_,q,_⟩:=q;cases q;done)
 | .ty _,e,u,p,q=>by unfold Vl at p;exact p.elim
 | .ref _,e,u,p,q=>by unfold Vl at p;exact p.elim
 | .tup as,e,u,p,q=>by
  unfold Vl at p;obtain⟨a,us,rfl,ht,l⟩:=p
  cases e with
  | tup bs=>
   unfold Vl at q;obtain⟨b,f,e,c,g⟩:=q;cases e;obtain⟨o,k,_,n,m⟩:=ht;obtain⟨v,i,_,w,j⟩:=c;rw[k]at i;cases i;rw[m]at j;injection j with r;have s:us=f:=by simpa using aL4 Array.toList r
   subst s;show cZ as bs=true;exact vH l g
  | fl bs=>
   unfold Vl at q;obtain⟨b,f,e,c,g⟩:=q;cases e;exact(uO c ht).elim
  | _=>unfold Vl at q;first | (cases q;done) | (obtain⟨_,q⟩:=q;cases q;done)
 | .fl as,e,u,p,q=>by
  unfold Vl at p;obtain⟨a,us,rfl,ht,l⟩:=p
  cases e with
  | fl bs=>
   unfold Vl at q;obtain⟨b,f,e,c,g⟩:=q;cases e;obtain⟨o,k,_,n,m⟩:=ht;obtain⟨v,i,_,w,j⟩:=c;rw[k]at i;cases i;rw[m]at j;injection j with r;have s:us=f:=by simpa using aL4 Array.toList r
   subst s;show cZ as bs=true;exact vH l g
  | tup bs=>
   unfold Vl at q;obtain⟨b,f,e,c,g⟩:=q;cases e;exact(uO ht c).elim
  | _=>unfold Vl at q;first | (cases q;done) | (obtain⟨_,q⟩:=q;cases q;done)
theorem vH{h:Heap}:∀{ds es:List D} {us:List Value},cM h ds us->cM h es us->cZ ds es=true
 | [],es,us,p,q=>by unfold cM at p;subst p;cases es with | nil=>rfl | cons=>unfold cM at q;obtain⟨_,_,e,_⟩:=q;cases e
 | d::ds,es,us,p,q=>by
  unfold cM at p;obtain⟨u,r,rfl,i,l⟩:=p
  cases es with
  | nil=>unfold cM at q;cases q
  | cons e es=>
   unfold cM at q;obtain⟨f,g,a,b,c⟩:=q;cases a;simp only[cZ,AQ i b,vH l c,Bool.and_self]
end
open SeqAt in
theorem j5{s:Shared}:∀(k:Nat) {A:Around} {d e:D} {u v:Value},deep d<=k->A.units+k+1<cLine->Vl s.heap d u->Vl s.heap e v->EqAt A s u v (eB d e)
 | k,A,.b8,e,u,v,hk,hu,p,q=>by
  unfold Vl at p;subst p;cases e <;> unfold Vl at q
  ·subst q;exact EqAt.same _
  ·subst q;exact EqAt.none_bool _
  ·obtain⟨t,rfl⟩:=q;exact EqAt.none_int _ t
  ·obtain⟨t,rfl⟩:=q;exact EqAt.none_str _ t
  ·exact q.elim
  ·obtain⟨a,us,rfl,ht,_⟩:=q;exact EqAt.none_tuple ht (by lia)
  ·obtain⟨a,us,rfl,ht,_⟩:=q;exact EqAt.none_list ht (by lia)
  ·exact q.elim
 | k,A,.bl x,e,u,v,hk,hu,p,q=>by
  unfold Vl at p;subst p;cases e <;> unfold Vl at q
  ·subst q;exact EqAt.bool_none _
  ·subst q;exact EqAt.bool_bool _ _
  ·obtain⟨t,rfl⟩:=q;exact EqAt.bool_int _ _ t
  ·obtain⟨t,rfl⟩:=q;exact EqAt.bool_str _ _ t
  ·exact q.elim
  ·obtain⟨a,us,rfl,ht,_⟩:=q;exact EqAt.bool_tuple _ ht (by lia)
  ·obtain⟨a,us,rfl,ht,_⟩:=q;exact EqAt.bool_list _ ht (by lia)
  ·exact q.elim
 | k,A,.int x,e,u,v,hk,hu,p,q=>by
  unfold Vl at p;obtain⟨w,rfl⟩:=p;cases e <;> unfold Vl at q
  ·subst q;exact EqAt.int_none _ _
  ·subst q;exact EqAt.int_bool _ _ _
  ·obtain⟨t,rfl⟩:=q;exact EqAt.int_int _ _ _ t
  ·obtain⟨t,rfl⟩:=q;exact EqAt.int_str _ _ _ t
  ·exact q.elim
  ·obtain⟨a,us,rfl,ht,_⟩:=q;exact EqAt.int_tuple _ _ ht (by lia)
  ·obtain⟨a,us,rfl,ht,_⟩:=q;exact EqAt.int_list _ _ ht (by lia)
  ·exact q.elim
 | k,A,.str x,e,u,v,hk,hu,p,q=>by
  unfold Vl at p;obtain⟨w,rfl⟩:=p;cases e <;> unfold Vl at q
  ·subst q;exact EqAt.str_none _ _
  ·subst q;exact EqAt.str_bool _ _ _
  ·obtain⟨t,rfl⟩:=q;exact EqAt.str_int _ _ _ t
  ·obtain⟨t,rfl⟩:=q;exact EqAt.str_str _ _ _ t
  ·exact q.elim
  ·obtain⟨a,us,rfl,ht,_⟩:=q;exact EqAt.str_tuple _ _ ht (by lia)
  ·obtain⟨a,us,rfl,ht,_⟩:=q;exact EqAt.str_list _ _ ht (by lia)
  ·exact q.elim
 | k,A,.ty x,e,u,v,hk,hu,p,q=>by unfold Vl at p;exact p.elim
 | k,A,.ref x,e,u,v,hk,hu,p,q=>by unfold Vl at p;exact p.elim
 | k,A,.tup as,e,u,v,hk,hu,p,q=>by
  have o:=p;unfold Vl at p;obtain⟨a,us,rfl,ht,l⟩:=p
  cases e with
  | tup bs=>
   by_cases f:Value.ref a=v
   ·subst f;rw[AQ o q];exact EqAt.same _
   unfold Vl at q;obtain⟨b,n,rfl,c,g⟩:=q;have h:a≠b:=λz=>f (by rw[z])
   cases k with
   | zero=>simp[deep]at hk
   | succ k=>
    refine EqAt.of_refs h ?_;have r:=RcAt.tuples (e:=λj=>eB (as.getD j .b8) (bs.getD j .b8)) ht c (by lia) (λj i m=>j5 k (A:=A.in1) (aKr (gF as j) (by simp[deep]at hk;exact hk)) (by show A.units+1+k+1<_;lia) (d7 l (by simp at i;simp[i])) (d7 g (by simp at m;simp[m])));show RcAt A s _ _ (cZ as bs);rw[cS,<-bF l,<-bF g];simpa using r
  | b8=>unfold Vl at q;subst q;exact EqAt.tuple_none ht (by lia)
  | bl x=>unfold Vl at q;subst q;exact EqAt.tuple_bool _ ht (by lia)
  | int x=>unfold Vl at q;obtain⟨t,rfl⟩:=q;exact EqAt.tuple_int _ _ ht (by lia)
  | str x=>unfold Vl at q;obtain⟨t,rfl⟩:=q;exact EqAt.tuple_str _ _ ht (by lia)
  | fl bs=>unfold Vl at q;obtain⟨b,n,rfl,c,g⟩:=q;exact EqAt.tuple_list ht c (by lia)
  | ty x=>unfold Vl at q;exact q.elim
  | ref x=>unfold Vl at q;exact q.elim
 | k,A,.fl as,e,u,v,hk,hu,p,q=>by
  have o:=p;unfold Vl at p;obtain⟨a,us,rfl,ht,l⟩:=p
  cases e with
  | fl bs=>
   by_cases f:Value.ref a=v
   ·subst f;rw[AQ o q];exact EqAt.same _
   unfold Vl at q;obtain⟨b,n,rfl,c,g⟩:=q;have h:a≠b:=λz=>f (by rw[z])
   cases k with
   | zero=>simp[deep]at hk
   | succ k=>
    refine EqAt.of_refs h ?_;show RcAt A s _ _ (cZ as bs);by_cases hsz:us.length=n.length
    ·have r:=RcAt.lists (e:=λj=>eB (as.getD j .b8) (bs.getD j .b8)) ht c (by simpa using hsz) (by lia) (λj i m=>j5 k (A:=A.in1) (aKr (gF as j) (by simp[deep]at hk;exact hk)) (by show A.units+1+k+1<_;lia) (d7 l (by simp at i;simp[i])) (d7 g (by simp at m;simp[m])));rw[cS,<-bF l,<-bF g,<-hsz,Nat.min_self,beq_self_eq_true,Bool.and_true];simpa using r
    ·have r:=RcAt.lists_lengths (A:=A) ht c (by simpa using hsz) (by lia);rw[cS,<-bF l,<-bF g,beq_eq_false_iff_ne.mpr hsz,Bool.and_false];exact r
  | b8=>unfold Vl at q;subst q;exact EqAt.list_none ht (by lia)
  | bl x=>unfold Vl at q;subst q;exact EqAt.list_bool _ ht (by lia)
  | int x=>unfold Vl at q;obtain⟨t,rfl⟩:=q;exact EqAt.list_int _ _ ht (by lia)
  | str x=>unfold Vl at q;obtain⟨t,rfl⟩:=q;exact EqAt.list_str _ _ ht (by lia)
  | tup bs=>unfold Vl at q;obtain⟨b,n,rfl,c,g⟩:=q;exact EqAt.list_tuple ht c (by lia)
  | ty x=>unfold Vl at q;exact q.elim
  | ref x=>unfold Vl at q;exact q.elim
open SeqAt in
theorem OP{s:Shared}{A:Around}{d e:D}{u v:Value}(k:deep d<=40)(n:A.units+64<cLine)(p:Vl s.heap d u)(q:Vl s.heap e v):RcAt A s u v (eB d e):=by
 cases d with
 | b8=>
  unfold Vl at p;subst p;cases e <;> unfold Vl at q
  ·subst q;exact RcAt.none_none
  ·subst q;exact RcAt.none_bool _
  ·obtain⟨t,rfl⟩:=q;exact RcAt.none_int _ _
  ·obtain⟨t,rfl⟩:=q;exact RcAt.none_str _ _
  ·exact q.elim
  ·obtain⟨a,us,rfl,ht,_⟩:=q;exact RcAt.none_tuple ht (by lia)
  ·obtain⟨a,us,rfl,ht,_⟩:=q;exact RcAt.none_list ht (by lia)
  ·exact q.elim
 | bl x=>
  unfold Vl at p;subst p;cases e <;> unfold Vl at q
  ·subst q;exact RcAt.bool_none _
  ·subst q;exact RcAt.bool_bool _ _
  ·obtain⟨t,rfl⟩:=q;exact RcAt.bool_int _ _ _
  ·obtain⟨t,rfl⟩:=q;exact RcAt.bool_str _ _ _
  ·exact q.elim
  ·obtain⟨a,us,rfl,ht,_⟩:=q;exact RcAt.bool_tuple _ ht (by lia)
  ·obtain⟨a,us,rfl,ht,_⟩:=q;exact RcAt.bool_list _ ht (by lia)
  ·exact q.elim
 | int x=>
  unfold Vl at p;obtain⟨m,rfl⟩:=p;cases e <;> unfold Vl at q
  ·subst q;exact RcAt.int_none _ _
  ·subst q;exact RcAt.int_bool _ _ _
  ·obtain⟨t,rfl⟩:=q;exact RcAt.int_int _ _ _ _
  ·obtain⟨t,rfl⟩:=q;exact RcAt.int_str _ _ _ _
  ·exact q.elim
  ·obtain⟨a,us,rfl,ht,_⟩:=q;exact RcAt.int_tuple _ _ ht (by lia)
  ·obtain⟨a,us,rfl,ht,_⟩:=q;exact RcAt.int_list _ _ ht (by lia)
  ·exact q.elim
 | str x=>
  unfold Vl at p;obtain⟨m,rfl⟩:=p;cases e <;> unfold Vl at q
  ·subst q;exact RcAt.str_none _ _
  ·subst q;exact RcAt.str_bool _ _ _
  ·obtain⟨t,rfl⟩:=q;exact RcAt.str_int _ _ _ _
  ·obtain⟨t,rfl⟩:=q;exact RcAt.str_str _ _ _ _
  ·exact q.elim
  ·obtain⟨a,us,rfl,ht,_⟩:=q;exact RcAt.str_tuple _ _ ht (by lia)
  ·obtain⟨a,us,rfl,ht,_⟩:=q;exact RcAt.str_list _ _ ht (by lia)
  ·exact q.elim
 | ty x=>unfold Vl at p;exact p.elim
 | ref x=>unfold Vl at p;exact p.elim
 | tup as=>
  unfold Vl at p;obtain⟨a,us,rfl,ht,l⟩:=p
  cases e with
  | tup bs=>
   unfold Vl at q;obtain⟨b,i,rfl,c,f⟩:=q;have r:=RcAt.tuples (e:=λj=>eB (as.getD j .b8) (bs.getD j .b8)) ht c (by lia) (λj g h=>j5 40 (A:=A.in1) (aKr (gF as j) (by simp[deep]at k;lia)) (by show A.units+1+40+1<_;lia) (d7 l (by simp at g;simp[g])) (d7 f (by simp at h;simp[h])));show RcAt A s _ _ (cZ as bs);rw[cS,<-bF l,<-bF f];simpa using r
  | fl bs=>unfold Vl at q;obtain⟨b,i,rfl,c,f⟩:=q;exact RcAt.tuple_list ht c (by lia)
  | b8=>unfold Vl at q;subst q;exact RcAt.tuple_none ht (by lia)
  | bl x=>unfold Vl at q;subst q;exact RcAt.tuple_bool _ ht (by lia)
  | int x=>unfold Vl at q;obtain⟨t,rfl⟩:=q;exact RcAt.tuple_int _ _ ht (by lia)
  | str x=>unfold Vl at q;obtain⟨t,rfl⟩:=q;exact RcAt.tuple_str _ _ ht (by lia)
  | ty x=>unfold Vl at q;exact q.elim
  | ref x=>unfold Vl at q;exact q.elim
 | fl as=>
  unfold Vl at p;obtain⟨a,us,rfl,ht,l⟩:=p
  cases e with
  | fl bs=>
   unfold Vl at q;obtain⟨b,i,rfl,c,f⟩:=q;show RcAt A s _ _ (cZ as bs);by_cases hsz:us.length=i.length
   ·have r:=RcAt.lists (e:=λj=>eB (as.getD j .b8) (bs.getD j .b8)) ht c (by simpa using hsz) (by lia) (λj g h=>j5 40 (A:=A.in1) (aKr (gF as j) (by simp[deep]at k;lia)) (by show A.units+1+40+1<_;lia) (d7 l (by simp at g;simp[g])) (d7 f (by simp at h;simp[h])));rw[cS,<-bF l,<-bF f,<-hsz,Nat.min_self,beq_self_eq_true,Bool.and_true];simpa using r
   ·have r:=RcAt.lists_lengths (A:=A) ht c (by simpa using hsz) (by lia);rw[cS,<-bF l,<-bF f,beq_eq_false_iff_ne.mpr hsz,Bool.and_false];exact r
  | tup bs=>unfold Vl at q;obtain⟨b,i,rfl,c,f⟩:=q;exact RcAt.list_tuple ht c (by lia)
  | b8=>unfold Vl at q;subst q;exact RcAt.list_none ht (by lia)
  | bl x=>unfold Vl at q;subst q;exact RcAt.list_bool _ ht (by lia)
  | int x=>unfold Vl at q;obtain⟨t,rfl⟩:=q;exact RcAt.list_int _ _ ht (by lia)
  | str x=>unfold Vl at q;obtain⟨t,rfl⟩:=q;exact RcAt.list_str _ _ ht (by lia)
  | ty x=>unfold Vl at q;exact q.elim
  | ref x=>unfold Vl at q;exact q.elim
open SeqAt in
theorem D2{s:Shared}{A:Around}{d e:D}{u v:Value}(k:deep d<=40)(n:A.units+64<cLine)(p:Vl s.heap d u)(q:Vl s.heap e v):RcNeAt A s u v (!eB d e):=by
 cases d with
 | b8=>
  unfold Vl at p;subst p;cases e <;> unfold Vl at q
  ·subst q;exact RcNeAt.none_none
  ·subst q;exact RcNeAt.none_bool _
  ·obtain⟨t,rfl⟩:=q;exact RcNeAt.none_int _ _
  ·obtain⟨t,rfl⟩:=q;exact RcNeAt.none_str _ _
  ·exact q.elim
  ·obtain⟨a,us,rfl,ht,_⟩:=q;exact RcNeAt.none_tuple ht (by lia)
  ·obtain⟨a,us,rfl,ht,_⟩:=q;exact RcNeAt.none_list ht (by lia)
  ·exact q.elim
 | bl x=>
  unfold Vl at p;subst p;cases e <;> unfold Vl at q
  ·subst q;exact RcNeAt.bool_none _
  ·subst q;exact RcNeAt.bool_bool _ _
  ·obtain⟨t,rfl⟩:=q;exact RcNeAt.bool_int _ _ _
  ·obtain⟨t,rfl⟩:=q;exact RcNeAt.bool_str _ _ _
  ·exact q.elim
  ·obtain⟨a,us,rfl,ht,_⟩:=q;exact RcNeAt.bool_tuple _ ht (by lia)
  ·obtain⟨a,us,rfl,ht,_⟩:=q;exact RcNeAt.bool_list _ ht (by lia)
  ·exact q.elim
 | int x=>
  unfold Vl at p;obtain⟨m,rfl⟩:=p;cases e <;> unfold Vl at q
  ·subst q;exact RcNeAt.int_none _ _
  ·subst q;exact RcNeAt.int_bool _ _ _
  ·obtain⟨t,rfl⟩:=q;exact RcNeAt.int_int _ _ _ _
  ·obtain⟨t,rfl⟩:=q;exact RcNeAt.int_str _ _ _ _
  ·exact q.elim
  ·obtain⟨a,us,rfl,ht,_⟩:=q;exact RcNeAt.int_tuple _ _ ht (by lia)
  ·obtain⟨a,us,rfl,ht,_⟩:=q;exact RcNeAt.int_list _ _ ht (by lia)
  ·exact q.elim
 | str x=>
  unfold Vl at p;obtain⟨m,rfl⟩:=p;cases e <;> unfold Vl at q
  ·subst q;exact RcNeAt.str_none _ _
  ·subst q;exact RcNeAt.str_bool _ _ _
  ·obtain⟨t,rfl⟩:=q;exact RcNeAt.str_int _ _ _ _
  ·obtain⟨t,rfl⟩:=q;exact RcNeAt.str_str _ _ _ _
  ·exact q.elim
  ·obtain⟨a,us,rfl,ht,_⟩:=q;exact RcNeAt.str_tuple _ _ ht (by lia)
  ·obtain⟨a,us,rfl,ht,_⟩:=q;exact RcNeAt.str_list _ _ ht (by lia)
  ·exact q.elim
 | ty x=>unfold Vl at p;exact p.elim
 | ref x=>unfold Vl at p;exact p.elim
 | tup as=>
  unfold Vl at p;obtain⟨a,us,rfl,ht,l⟩:=p
  cases e with
  | tup bs=>
   unfold Vl at q;obtain⟨b,i,rfl,c,f⟩:=q;have r:=RcNeAt.tuples (e:=λj=>eB (as.getD j .b8) (bs.getD j .b8)) ht c (by lia) (λj g h=>j5 40 (A:=A.in1) (aKr (gF as j) (by simp[deep]at k;lia)) (by show A.units+1+40+1<_;lia) (d7 l (by simp at g;simp[g])) (d7 f (by simp at h;simp[h])));show RcNeAt A s _ _ (!cZ as bs);rw[cS,<-bF l,<-bF f];simpa using r
  | fl bs=>unfold Vl at q;obtain⟨b,i,rfl,c,f⟩:=q;exact RcNeAt.tuple_list ht c (by lia)
  | b8=>unfold Vl at q;subst q;exact RcNeAt.tuple_none ht (by lia)
  | bl x=>unfold Vl at q;subst q;exact RcNeAt.tuple_bool _ ht (by lia)
  | int x=>unfold Vl at q;obtain⟨t,rfl⟩:=q;exact RcNeAt.tuple_int _ _ ht (by lia)
  | str x=>unfold Vl at q;obtain⟨t,rfl⟩:=q;exact RcNeAt.tuple_str _ _ ht (by lia)
  | ty x=>unfold Vl at q;exact q.elim
  | ref x=>unfold Vl at q;exact q.elim
 | fl as=>
  unfold Vl at p;obtain⟨a,us,rfl,ht,l⟩:=p
  cases e with
  | fl bs=>
   unfold Vl at q;obtain⟨b,i,rfl,c,f⟩:=q;show RcNeAt A s _ _ (!cZ as bs);by_cases hsz:us.length=i.length
   ·have r:=RcNeAt.lists (e:=λj=>eB (as.getD j .b8) (bs.getD j .b8)) ht c (by simpa using hsz) (by lia) (λj g h=>j5 40 (A:=A.in1) (aKr (gF as j) (by simp[deep]at k;lia)) (by show A.units+1+40+1<_;lia) (d7 l (by simp at g;simp[g])) (d7 f (by simp at h;simp[h])));rw[cS,<-bF l,<-bF f,<-hsz,Nat.min_self,beq_self_eq_true,Bool.and_true];simpa using r
   ·have r:=RcNeAt.lists_lengths (A:=A) ht c (by simpa using hsz) (by lia);rw[cS,<-bF l,<-bF f,beq_eq_false_iff_ne.mpr hsz,Bool.and_false];exact r
  | tup bs=>unfold Vl at q;obtain⟨b,i,rfl,c,f⟩:=q;exact RcNeAt.list_tuple ht c (by lia)
  | b8=>unfold Vl at q;subst q;exact RcNeAt.list_none ht (by lia)
  | bl x=>unfold Vl at q;subst q;exact RcNeAt.list_bool _ ht (by lia)
  | int x=>unfold Vl at q;obtain⟨t,rfl⟩:=q;exact RcNeAt.list_int _ _ ht (by lia)
  | str x=>unfold Vl at q;obtain⟨t,rfl⟩:=q;exact RcNeAt.list_str _ _ ht (by lia)
  | ty x=>unfold Vl at q;exact q.elim
  | ref x=>unfold Vl at q;exact q.elim
def hJ(mh:MH):D->D
 | .ref n=>match mh[n]? with | some (.lst ds)=>.fl ds | _=>.ref n
 | d=>d
section
variable {X:Cx}{pins:List (Addr×Obj)}{σ:L2.St}{H:Hp}{s:Shared}{μ:List Addr}{mh:MH}
mutual
theorem m6(I:Inv X pins σ H s):∀(d:D) {v:V} {u:Value},bare d=true->Is X.K μ H d v->RelV v u->Vl s.heap d u
 | .b8,v,u,_,i,r=>by cases BR i;unfold Vl;exact r
 | .bl _,v,u,_,i,r=>by cases zS i;unfold Vl;exact r
 | .int _,v,u,_,i,r=>by cases b6 i;unfold Vl;exact r
 | .str _,v,u,_,i,r=>by cases j4 i;unfold Vl;exact r
 | .ty _,v,u,b,i,r=>by simp[bare]at b
 | .ref _,v,u,b,i,r=>by simp[bare]at b
 | .tup ds,v,u,b,i,r=>by
  obtain⟨a,vs,rfl,sq,l⟩:=eK i;have c :u=Value.ref a:=r;subst c;obtain⟨aL,e,p,_⟩:=I.tuple sq;unfold Vl;exact⟨a,aL,rfl,p,jZ I ds (by simpa[bare] using b) l e⟩
 | .fl ds,v,u,b,i,r=>by
  obtain⟨a,vs,rfl,sq,l⟩:=pH i;have c :u=Value.ref a:=r;subst c;obtain⟨aL,e,p,_⟩:=I.list sq.sq;unfold Vl;exact⟨a,aL,rfl,p.isList,jZ I ds (by simpa[bare] using b) l e⟩
theorem jZ(I:Inv X pins σ H s):∀(ds:List D) {vs:List V} {us:List Value},cL ds=true->IsL X.K μ H ds vs->Vals vs us->cM s.heap ds us
 | [],vs,us,_,l,r=>by unfold IsL at l;subst l;cases r;unfold cM;rfl
 | d::ds,vs,us,b,l,r=>by
  unfold IsL at l;obtain⟨v,e,rfl,i,l⟩:=l
  cases r with
  | cons a c=>
   simp only[cL,Bool.and_eq_true]at b;unfold cM;exact⟨_,_,rfl,m6 I d b.1 i a,jZ I ds b.2 l c⟩
end
theorem vG(I:Inv X pins σ H s)(R:Rep X.K μ mh H){d:D}{v:V}{u:Value}(b:bare (hJ mh d)=true)(i:Is X.K μ H d v)(r:RelV v u):Vl s.heap (hJ mh d) u:=by
 cases d with
 | ref n=>
  simp only[hJ]at b⊢
  cases o:mh[n]? with
  | none=>rw[o]at b;simp[bare]at b
  | some ob=>
   cases ob with
   | lst ds=>
    rw[o]at b;simp only;obtain⟨a,vs,rfl,_,c,l⟩:=j0 R i o;have e :u=Value.ref a:=r;subst e;obtain⟨aL,g,p,_⟩:=I.list (.of c);unfold Vl;exact⟨a,aL,rfl,p.isList,jZ I ds (by simpa[bare] using b) l g⟩
   | dic t kvs=>rw[o]at b;simp[bare]at b
   | fdc t kvs ob=>rw[o]at b;simp[bare]at b
   | oth ds f=>rw[o]at b;simp[bare]at b
 | _=>exact m6 I _ b i r
end
def oEq:O2:=λx y mh Q=>bare (hJ mh x)=true/\bare (hJ mh y)=true/\deep (hJ mh x)<=40/\Q (.bl (eB (hJ mh x) (hJ mh y))) mh
def JK:O2:=λx y mh Q=>bare (hJ mh x)=true/\bare (hJ mh y)=true/\deep (hJ mh x)<=40/\Q (.bl !eB (hJ mh x) (hJ mh y)) mh
section
variable {X:Cx}
theorem aF6(b:X.A.units+64<cLine):g7 X (compareOp .Eq) (bY X.K oEq):=by
 intro pins s σ H x y v u Q I c d q;obtain⟨μ,mh,dx,h,R,a,ix,e,⟨f,g,hd,q⟩,F⟩:=q;exact OP hd b (vG I a f ix c) (vG I a g e d) X.prog X.w X.xe _ ⟨.bl _,H,I,rfl,F.here a q .bl⟩
theorem aF3(b:X.A.units+64<cLine):g7 X (compareOp .NotEq) (bY X.K JK):=by
 intro pins s σ H x y v u Q I c d q;obtain⟨μ,mh,dx,h,R,a,ix,e,⟨f,g,hd,q⟩,F⟩:=q;exact D2 hd b (vG I a f ix c) (vG I a g e d) X.prog X.w X.xe _ ⟨.bl _,H,I,rfl,F.here a q .bl⟩
def tX:D->Bool
 | .b8=>true | .bl _=>true | .int _=>true | .str _=>true | _=>false
def eqW(x:D)(u:Value):Bool:=match u with
 | .none=>eB .b8 x
 | .bool b=>eB (.bl b) x
 | .int i _=>eB (.int i) x
 | .str z _=>eB (.str z) x
 | _=>false
theorem RS{x y:D}{u:Value}(f:tX y=true)(p:Vl h y u):eqW x u=eB y x:=by
 cases y with
 | b8=>unfold Vl at p;subst p;rfl
 | bl b=>unfold Vl at p;subst p;rfl
 | int b=>unfold Vl at p;obtain⟨t,rfl⟩:=p;rfl
 | str b=>unfold Vl at p;obtain⟨t,rfl⟩:=p;rfl
 | _=>simp[tX]at f
theorem JS{A:Around}{s:Shared}{x:D}{v:Value}(a:A.units+64<cLine)(q:Vl s.heap x v):∀{ds:List D} {us:List Value},ds.all tX=true->cM s.heap ds us->∀u∈us,SeqAt.EqAt A.in1 s u v (eqW x u)
 | [],us,_,l=>by unfold cM at l;subst l;intro u a;cases a
 | d::ds,us,f,l=>by
  unfold cM at l;obtain⟨u,r,rfl,p,l⟩:=l;rw[List.all_cons,Bool.and_eq_true]at f;intro b hu';rcases aKd.mp hu' with rfl | hu'
  ·rw[RS f.1 p];refine j5 0 ?_ (by show A.units+1+0+1<_;lia) p q
   cases d <;> first | exact aK6 _ | (simp[tX]at f)
  ·exact JS a q f.2 l b hu'
theorem xQ:∀{ds:List D},ds.all tX=true->cL ds=true
 | [],_=>rfl
 | d::ds,f=>by
  rw[List.all_cons,Bool.and_eq_true]at f;simp only[cL,xQ f.2,Bool.and_true]
  cases d <;> first | rfl | (simp[tX]at f)
end
section
variable {prog:Program}{w:World}{A:Around}{E:aNr}{s:Shared}
open HT in
theorem oO{t sl:Addr}{items:Array Value}{e f:Value}{lo hi:Option Int}{Q:aNr}(ht:IsTup s.heap t items)(hs:s.heap.IsSliceOf sl e f .none)(i:IsPart e lo)(j:IsPart f hi)
  (g:dM items.size 0 lo=0/\dM items.size items.size hi=items.size)
  (h:Q (.ref t) s):wpAny (model prog w) A (getItem (.ref t) (.ref sl)) Q E s:=by
 obtain⟨os,b,c,k⟩:=id hs
 have d:s.TypeIs (.ref sl) "slice":=⟨os,b,c⟩
 unfold getItem
 try with_reducible refine aKq ?_
 first | refine aK2 (aK3 ?_) | skip
 refine aK2 (wpAny_sequenceKey ht.typeIs (by decide) ?_)
 refine aK2 (aKl (name:=Str.ofString "__getitem__") ht.typeIs aL1
  (aKk aL1 ht.typeIs entry_tuple_getitem ?_ (args_tuple_getitem _ _)))
 show wpAny _ _ (Builtin.Tuple.tupleItemsOf (.ref t) >>=_) _ _ s;refine aK2 (tupleItemsOf_ ht ?_);refine aK2 (aMt d ?_);rw[if_pos (by decide)];refine aK2 (kP hs i j ?_)
 have a:((((dM items.size 0 lo:Nat):Int)==0 && (1:Int)==1 && (dM items.size items.size hi-dM items.size 0 lo)==items.size)=true):=by
  rw[g.1,g.2];simp
 show wpAny _ _ (if (((dM items.size 0 lo:Nat):Int)==0 && (1:Int)==1 && (dM items.size items.size hi-dM items.size 0 lo)==items.size)=true then _ else _) _ _ s;rw[if_pos a];have l:=ht.typeIs;refine aK2 ?_
 first
  | (refine aK2 (aMt l (aK3 ?_));simp only[beq_self_eq_true,if_true];refine aK2 (aL9 ?_);first | exact aK3 (aK3 ⟨_,rfl,aK3 h⟩) | exact aK2 (aK3 (aK3 ⟨_,rfl,aK3 h⟩)) | exact aK2 (aK3 (aK3 (aK3 ⟨_,rfl,aK3 h⟩))))
  | trace_state
end
section
variable {X:Cx}
theorem T4:SlR X (λx lo hi H Q=>∃a xs,x= .ref a/\t9 X.K H a xs/\
  ((HT.dM xs.length 0 lo=0/\HT.dM xs.length xs.length hi=xs.length)->Q (.ref a) H)/\(¬(HT.dM xs.length 0 lo=0/\HT.dM xs.length xs.length hi=xs.length)->∀p,H p=none->Q (.ref p) (upd H p (.tup (CD xs lo hi))))):=by
 intro pins s σ H x v g i lo hi sl Q I d hs e f h;obtain⟨a,xs,rfl,hx,j,k⟩:=h;by_cases c:HT.dM xs.length 0 lo=0/\HT.dM xs.length xs.length hi=xs.length
 ·cases d;obtain⟨aL,r,ht,hz⟩:=I.tuple hx;have b:aL.toArray.size=xs.length:=by rw[List.size_toArray];exact r.length.symm
  exact⟨"tuple",_,aL1.lookup,ht.typeIs,oO ht hs e f (by rw[b];exact c) ⟨.ref a,H,I,rfl,j c⟩⟩
 ·exact ZK pins s σ H _ v g i lo hi sl Q I d hs e f ⟨a,xs,rfl,hx,c,k c⟩
def cutD(xs:List D)(lo hi:Option Int):List D:=(xs.drop (HT.dM xs.length 0 lo)).take (HT.dM xs.length xs.length hi-HT.dM xs.length 0 lo)
abbrev OS:=D->Option Int->Option Int->MH->DK->Prop
def YK(K:aNq)(f:OS):V->Option Int->Option Int->Hp->VK->Prop:=λx lo hi H Q=>∃μ mh dx R,Rep K μ mh H/\Is K μ H dx x/\f dx lo hi mh R/\Fin K μ H R Q
def oSl:OS:=λx lo hi mh Q=>match x with
 | .tup ds=>Q (.tup (cutD ds lo hi)) mh
 | _=>∃ds,nP mh x=some ds/\Q (.ref mh.length) (mh++[.lst (cutD ds lo hi)])
theorem KH{μ:List Addr}{ds:List D}{vs:List V}(l:IsL K μ H ds vs)(lo hi:Option Int):IsL K μ H (cutD ds lo hi) (CD vs lo hi):=by
 unfold cutD CD;rw[aY l];exact wU _ (wW _ l)
theorem sll:SlR X (YK X.K oSl):=by
 intro pins s σ H x v d f lo hi sl Q I g hs h i q;obtain⟨μ,mh,dx,R,c,ix,q,F⟩:=q
 have go:(∃ds,nP mh dx=some ds/\R (.ref mh.length) (mh++[.lst (cutD ds lo hi)]))->∃T id,typeLookup (.type T) "__getitem__"=pure (some (.builtin id))/\s.TypeIs v T/\wpAny (model X.prog X.w) X.A (getItem v (.ref sl)) (EP X pins σ Q) X.xe s:=λb=>by
  obtain⟨ds,e,q⟩:=b;obtain⟨a,vs,rfl,sq,l⟩:=sG c ix e;exact T5 pins s σ H _ v d f lo hi sl Q I g hs h i ⟨a,vs,rfl,sq,iN c F (KH l lo hi) q⟩
 cases dx with
 | tup ds=>
  obtain⟨a,vs,rfl,sq,l⟩:=eK ix;refine T4 pins s σ H _ v d f lo hi sl Q I g hs h i ⟨a,vs,rfl,sq,λj=>?_,λ_=>rK c F (KH l lo hi) q⟩
  have e:cutD ds lo hi=ds:=by
   unfold cutD;rw[<-aY l,j.1,j.2,aY l];simp
  have q' :R (.tup (cutD ds lo hi)) mh:=q;rw[e]at q';exact F.here c q' ix
 | _=>exact go q
abbrev WO:=hX->MH->(Option Int->MH->Prop)->Prop
def tLO(K:aNq)(w:WO):TO:=λσ H Q=>∃μ a mh R,Rep K μ mh H/\c7 K μ H a σ/\w a mh R/\∀o mh',R o mh' ->∀μ' H',aT μ H μ' H' ->Rep K μ' mh' H' ->Q o H'
def LO(X:Cx)(e:Option Expr)(w:WO):Prop:=PO X e (tLO X.K w)
def wNo:WO:=λ_ mh Q=>Q none mh
def DC(w:WE):WO:=λb mh Q=>w b mh λx a=>∃i,x= .int i/\Q (some i) a
variable {e:Expr}{w:WE}{lo hi:Option Expr}{wl wh:WO}{pos p2:Pos}
theorem VW:LO X none wNo:=λpins s σ H Q I q=>UX pins s σ H Q I (by
 obtain⟨μ,b,mh,R,a,E,h,F⟩:=q
 exact F none mh h μ H aT.refl a)
theorem VV(h:LE X e w):LO X (some e) (DC w):=λpins s σ H Q I q=>UW h pins s σ H Q I (by
 obtain⟨μ,d,mh,R,f,E,h,F⟩:=q;refine⟨μ,d,mh,_,f,E,h,λdx a b c m g j k l=>?_⟩;obtain⟨i,rfl,b⟩:=b
 exact⟨i,b6 l,F (some i) a b c g j k⟩)
def wSl(f:OS)(w:WE)(wl wh:WO):WE:=λa mh Q=>w a mh λx b=>wl a b λl c=>wh a c λu d=>f x l u d Q
theorem QN{f:OS}(r:SlR X (YK X.K f))(he:LE X e w)(s:LO X lo wl)(t:LO X hi wh):LE X (.Subscript e (.Slice lo hi none p2) pos) (wSl f w wl wh):=PE.imp (O4 r he s t) λσ H Q q=>by
 obtain⟨μ,a,mh,R,b,E,h,F⟩:=q;refine⟨μ,a,mh,_,b,E,h,λdx c v d x C g o y=>⟨d,a,c,_,o,E.mono b g,v,λl i z j D k R2=>⟨j,a,i,_,R2,E.mono b (g.trans k),z,λu m A n G p B=>?_⟩⟩⟩;exact⟨n,m,dx,R,B,Is.mono o (k.trans p) dx x y,A,F.at ((g.trans k).trans p)⟩
abbrev OM:=D->List D->MH->DK->Prop
def liftM(K:aNq)(f:OM):V->List V->Hp->VK->Prop:=λx xs H Q=>∃μ mh dx ds R,Rep K μ mh H/\Is K μ H dx x/\IsL K μ H ds xs/\f dx ds mh R/\Fin K μ H R Q
def l9(mh:MH)(T:String):D->Prop
 | .str _=>T= "str"
 | .int _=>T= "int"
 | .ref n=>T= "list"/\∃ds,mh[n]? =some (.lst ds)
 | .fl _=>T= "list"
 | .tup _=>T= "tuple"
 | _=>False
theorem aBp{μ:List Addr}{mh:MH}{T:String}{d:D}{v:V}(b:Rep K μ mh H)(i:Is K μ H d v)(k:l9 mh T d):tyV K T v H:=by
 cases d with
 | str z=>cases j4 i;exact k
 | int z=>cases b6 i;exact k
 | ref n=>obtain⟨e,ds,o⟩:=k;obtain⟨a,vs,rfl,_,c,_⟩:=j0 b i o;exact .inl ⟨e,vs,.of c⟩
 | fl ds=>obtain⟨a,vs,rfl,sq,_⟩:=pH i;exact .inl ⟨k,vs,sq.sq⟩
 | tup ds=>obtain⟨a,vs,rfl,sq,_⟩:=eK i;exact .inr (.inl ⟨k,vs,sq⟩)
 | _=>exact False.elim k
variable {o:Expr}{es:List Expr}{wo:WE}{wa:WA}{name:Str}{apos c8:Pos}{T id:String}
def uA(T:String)(f:OM)(wo:WE)(wa:WA):WE:=λc mh Q=>wo c mh λx a=>l9 a T x/\wa c a λds b=>f x ds b Q
theorem QS{f:OM}(v:PlainAttrs T)(slot:Slot T name id)(g:typeOf (.builtin id)=pure (.type "method_descriptor"))(hm:MtR X id (liftM X.K f))(ho:LE X o wo)(ha:LA X (e::es) wa)
  (b:attributeBase o name X.env (eval o X.env)=eval o X.env:=by rfl)
  (d:((backTo c8 (starEach (e::es) X.env)).all (λx=>!x.1) && (backToKw c8 (keywordEach [] X.env)).all (λx=>x.1.isSome)
   && decide ((e::es).length+([]:List Keyword).length+(if ([]:List Keyword).isEmpty then 0 else 1)<30))=true:=by rfl)
  (c:(apos.endLine==c8.line)=true:=by rfl) (hs:starEach (e::es) X.env=(false,eval e X.env)::starEach es X.env:=by rfl) (a:(backTo c8 (starEach es X.env)).any (·.1)=false:=by rfl):
  LE X (.Call (.Attribute o name apos) (e::es) [] c8) (uA T f wo wa):=PE.imp (aEw v slot g hm ho ha b d c hs a) λσ H Q q=>by
 obtain⟨μ,n,mh,R,p,E,h,F⟩:=q;refine⟨μ,n,mh,_,p,E,h,λdx i r j w A s k t=>⟨aBp k t r.1,j,n,i,_,k,E.mono p s,r.2,λds l y m vs B u R2 z=>?_⟩⟩;exact⟨m,l,dx,ds,R,R2,Is.mono k u dx w t,z,y,F.at (s.trans u)⟩
def bN:OM:=λx ds mh Q=>∃n es d,x= .ref n/\ds=[d]/\mh[n]? =some (.lst es)/\es.length<sizeLine/\Q .b8 (mh.set n (.lst (es++[d])))
theorem L4:MtR X "list.append" (liftM X.K bN):=by
 intro pins s σ H x xs v us Q I c rs q;obtain⟨μ,mh,dx,ds,R,b,ix,f,⟨n,es,d,rfl,rfl,e,hz,q⟩,F⟩:=q;obtain⟨a,vs,rfl,g,h,l⟩:=j0 b ix e;obtain⟨z,rfl,i⟩:=fX f;exact zH pins s σ H _ _ v us Q I c rs ⟨a,vs,z,rfl,rfl,h,by rw[aY l];exact hz,F.put b g (iM l (jQ i)) q .b8⟩
end
structure f6 where
 nx:hX->MH->Prop
 rt:DK
 bk:hX->MH->Prop:=λ_ _=>False
 ct:hX->MH->Prop:=λ_ _=>False
abbrev WS:=f6->hX->MH->Prop
def IL(K:aNq)(μ:List Addr)(H:Hp)(R:hX->MH->Prop)(Q:L2.St->Hp->Prop):Prop:=
 ∀a mh',R a mh' ->∀μ' b H',aT μ H μ' H' ->Rep K μ' mh' H' ->c7 K μ' H' a b ->Q b H'
structure CY(K:aNq)(μ:List Addr)(H:Hp)(E:f6)(D:Ends):Prop where
 nx:IL K μ H E.nx D.nx
 rt:Fin K μ H E.rt D.rt
 bk:IL K μ H E.bk D.bk
 ct:IL K μ H E.ct D.ct
def tLS(K:aNq)(w:WS):TS:=λD σ H=>∃μ a mh E,Rep K μ mh H/\c7 K μ H a σ/\w E a mh/\CY K μ H E D
def LS(X:Cx)(st:Stmt)(w:WS):Prop:=PS X st (tLS X.K w)
def hZ(X:Cx)(st:List Stmt)(w:WS):Prop:=CW X st (tLS X.K w)
theorem PS.imp{e:Stmt}{t t' :TS}(h:PS X e t)(i:∀D σ H,t' D σ H->t D σ H):PS X e t' :=λpins s σ H D I q=>h pins s σ H D I (i D σ H q)
theorem CW.imp{e:List Stmt}{t t' :TS}(h:CW X e t)(i:∀D σ H,t' D σ H->t D σ H):CW X e t' :=λpins s σ H D I q=>h pins s σ H D I (i D σ H q)
section
variable {K:aNq}{μ μ1:List Addr}{H H1:Hp}
theorem IL.at{R:hX->MH->Prop}{Q:L2.St->Hp->Prop}(F:IL K μ H R Q)(P:aT μ H μ1 H1):IL K μ1 H1 R Q:=λa mh' r μ' b H' c d I=>F a mh' r μ' b H' (P.trans c) d I
theorem CY.at{E:f6}{D:Ends}(F:CY K μ H E D)(P:aT μ H μ1 H1):CY K μ1 H1 E D:=⟨F.nx.at P,F.rt.at P,F.bk.at P,F.ct.at P⟩
theorem c7.set{c:hX}{σ:L2.St}{d:D}{v:V}(E:c7 K μ H c σ)(i:Nat)(h:Is K μ H d v):c7 K μ H (c.set i (some d)) (σ.set i (some v)):=by
 refine⟨by simp[E.1],λj e b=>?_⟩;by_cases a:j=i
 ·subst a
  have f:j<c.length:=by
   have:=(aK5.mp b).1;simpa using this
  rw[List.getElem?_set_self f]at b;cases b;exact⟨v,by rw[List.getElem?_set_self (by rw[<-E.1];exact f)],h⟩
 ·rw[List.getElem?_set_ne (Ne.symm a)]at b;obtain⟨u,g,k⟩:=E.2 j e b;exact⟨u,by rw[List.getElem?_set_ne (Ne.symm a)];exact g,k⟩
end
def bR:WS:=λE a mh=>E.nx a mh
def aN(t u:WS):WS:=λE a mh=>t {E with nx:=u E} a mh
def Y0:WS:=λE a mh=>E.bk a mh
def eM(w:WE):WS:=λE b mh=>w b mh λ_ a=>E.nx b a
def bL(w:WE):WS:=λE a mh=>w a mh E.rt
def dD(t:WT)(a b:WS):WS:=λE e mh=>t e mh λc d=>if c=true then a E e d else b E e d
section
variable {X:Cx}{st:Stmt}{rest a b:List Stmt}{t u:WS}{e:Expr}{w:WE}{wt:WT}{pos:Pos}
theorem aB4:hZ X [] bR:=CW.imp UR λD σ H a=>by obtain⟨μ,b,mh,E,R,En,h,F⟩:=a;exact F.nx b mh h μ σ H aT.refl R En
theorem VU(d:LS X st t)(e:hZ X rest u):hZ X (st::rest) (aN t u):=CW.imp (OV d e) λD σ H a=>by
 obtain⟨μ,f,mh,E,R,En,h,F⟩:=a;exact⟨μ,f,mh,_,R,En,h,⟨λb mh' q μ' g H' i j c =>⟨μ',b,mh',E,j,c,q,F.at i⟩,F.rt,F.bk,F.ct⟩⟩
theorem aB3(a:LS X st t):hZ X [st] t:=UQ a
theorem QI:LS X (.Break pos) Y0:=PS.imp OZ λD σ H a=>by obtain⟨μ,b,mh,E,R,En,h,F⟩:=a;exact F.bk b mh h μ σ H aT.refl R En
theorem VT(he:LE X e w)(hs:swapsWith e none pos.line X.env=pure false:=by rfl):LS X (.Expr e pos) (eM w):=PS.imp (US he hs) λD σ H ⟨μ,c,mh,E,R,En,h,F⟩=>
 ⟨μ,c,mh,_,R,En,h,λd a q b v g f i j=>F.nx c a q b σ g f i (En.mono R f)⟩
theorem aB1(he:LE X e w):LS X (.Return (some e) pos) (bL w):=PS.imp (Z0 he) λD σ H a=>by obtain⟨μ,b,mh,E,R,En,h,F⟩:=a;exact⟨μ,b,mh,_,R,En,h,F.rt⟩
theorem aFf{c:Expr}(l:LT X c wt)(ha:hZ X a t)(m:hZ X b u):LS X (.If c a b pos) (dD wt t u):=PS.imp (aEp l ha m) λD σ H g=>by
 obtain⟨μ,i,mh,E,R,En,h,F⟩:=g;refine⟨μ,i,mh,_,R,En,h,λk d q e n f j=>?_⟩
 cases k with
 | true=>rw[if_pos rfl]at q⊢;exact⟨e,i,d,E,j,En.mono R f,q,F.at f⟩
 | false=>rw[if_neg Bool.false_ne_true]at q⊢;exact⟨e,i,d,E,j,En.mono R f,q,F.at f⟩
abbrev WG:=D->hX->(hX->Prop)->Prop
abbrev NS:=List D->hX->(hX->Prop)->Prop
def rV(K:aNq)(g:TG)(gd:WG):Prop:=∀v σ H Q μ c mh d R,Rep K μ mh H->c7 K μ H c σ->Is K μ H d v->gd d c R->(∀a,R a ->∀b,c7 K μ H a b ->Q b H)->g v σ H Q
def xU(K:aNq)(g:F0)(gd:NS):Prop:=∀vs σ H Q μ c mh ds R,Rep K μ mh H->c7 K μ H c σ->IsL K μ H ds vs->gd ds c R->(∀a,R a ->∀b,c7 K μ H a b ->Q b H)->g vs σ H Q
def gN(i:Nat):WG:=λd a Q=>Q (a.set i (some d))
def eG:NS:=λds a Q=>ds=[]/\Q a
def aQ(t:WG)(u:NS):NS:=λds b Q=>∃d r,ds=d::r/\t d b λa =>u r a Q
def gT(n:Nat)(u:NS):WG:=λd a Q=>∃ds,d= .tup ds/\ds.length=n/\u ds a Q
theorem BY(i:Nat):rV K (tW i) (gN i):=λv σ H Q μ a mh d R b En I h F=>F _ h _ (En.set i I)
theorem W7:xU K RJ eG:=λvs σ H Q μ a mh ds R b En I h F=>by
 obtain⟨rfl,h⟩:=h;unfold IsL at I;exact⟨I,F a h σ En⟩
theorem RD{g:TG}{f:F0}{gd:WG}{a:NS}(k:rV K g gd)(l:xU K f a):xU K (EY g f) (aQ gd a):=λvs σ H Q μ m mh ds R i En I h F=>by
 obtain⟨d,r,rfl,h⟩:=h;unfold IsL at I;obtain⟨v,j,rfl,n,o⟩:=I;exact⟨v,j,rfl,k v σ H _ μ m mh d _ i En n h λb q c e =>l j c H Q μ b mh r R i e o q F⟩
theorem aCf{n:Nat}{c:F0}{b:NS}(h:xU K c b):rV K (aCh K n c) (gT n b):=λv σ H Q μ e mh d R f En I q F=>by
 obtain⟨ds,rfl,g,q⟩:=q;obtain⟨a,vs,rfl,sq,l⟩:=eK I;exact⟨a,vs,rfl,sq,by rw[aY l];exact g,h vs σ H Q μ e mh ds R f En l q F⟩
def bB(w:WE)(g:WG):WS:=λE c mh=>w c mh λd a=>g d c λb =>E.nx b a
theorem II{g:TG}{gd:WG}{D:Ends}{σ:L2.St}(m:rV K g gd)(h:tLS K (bB w gd) D σ H):T1 (tL K w) g D σ H:=by
 obtain⟨μ,i,mh,E,R,En,h,F⟩:=h;refine⟨μ,i,mh,_,R,En,h,λd a q b v j k l n=>?_⟩;exact m v σ j _ b i a d _ l (En.mono R k) n q λc q' e f =>F.nx c a q' b e j k l f
theorem QF(i:Nat){x:Str}{a :Pos}(hN:X.N.Nodup)(he:LE X e w)(hi:X.N[i]? =some x:=by rfl)(hx:Loc X.env.scope x:=by first | exact Or.inl rfl | exact Or.inr rfl)(hs:swapsWith e (some (.Name x a)) pos.line X.env=pure false:=by rfl)(b:X.fn x=true\/X.env.scope.names.lookup x=some .local:=by first | exact .inl rfl | exact .inr rfl | assumption):
  LS X (.Assign [.Name x a] e pos) (bB w (gN i)):=PS.imp (ZZ hN hi hx he hs b) λD σ H h=>II (BY i) h
theorem aB6{tg:Expr}{g:TG}{gd:WG}(he:LE X e w)(hg:PG X tg g)(a:rV X.K g gd)(hs:swapsWithSole [tg] e pos.line X.env=pure false:=by rfl)(b:swappedStores [tg] e X.env=pure none:=by rfl)
  (c:(assignEach [tg] X.env).map (·.2)=[assign tg X.env]:=by rfl):LS X (.Assign [tg] e pos) (bB w gd):=PS.imp (GO he hg hs b c) λD σ H h=>II a h
def T7:D->D->D->MH->(MH->Prop)->Prop:=λo i d mh Q=>∃n ds k j,o= .ref n/\i= .int k/\mh[n]? =some (.lst ds)/\J9 ds.length k=some j/\Q (mh.set n (.lst (ds.set j d)))
def DB(w g wi:WE):WS:=λE a mh=>w a mh λd b=>g a b λo c=>wi a c λi e=>T7 o i d e λf=>E.nx a f
theorem VQ{o i:Expr}{z wi:WE}{b:Pos}(he:LE X e w)(ho:LE X o z)(hi:LE X i wi)
  (ha:∀v,assign (.Subscript o i b) X.env v=(do
   let ov<-holding [v] (eval o X.env)
   let iv<-holding [v,ov] (eval i X.env)
   standAt b
   holding [v,ov,iv] (setItem ov iv v)
   release [v,ov,iv] []):=by intro _;rfl)
  (hs:swapsWithSole [.Subscript o i b] e pos.line X.env=pure false:=by rfl) (G:swappedStores [.Subscript o i b] e X.env=pure none:=by rfl)
  (I:(assignEach [.Subscript o i b] X.env).map (·.2)=[assign (.Subscript o i b) X.env]:=by rfl):LS X (.Assign [.Subscript o i b] e pos) (DB w z wi):=
 PS.imp (GO he (Z7 ho hi set_list ha) hs G I) λD σ H h=>by
  obtain⟨μ,g,mh,E,R,En,h,F⟩:=h;refine⟨μ,g,mh,_,R,En,h,λd m q p v Z r A J=>?_⟩;refine⟨p,g,m,_,A,En.mono R r,q,λK s L t vo H2 u R2 M=>?_⟩;refine⟨t,g,s,_,R2,En.mono R (r.trans u),L,λdi N O c vi B x y P=>?_⟩;obtain⟨n,ds,k,j,rfl,rfl,Q,S,T⟩:=O;obtain⟨a,vs,rfl,C,U,l⟩:=j0 y (Is.mono R2 x _ _ M) Q;cases b6 P;have V:=Is.mono A (u.trans x) d v J;have W:aT c B c (upd B a (.lst (vs.set j v))):=aT.set y C;have Y:=y.set C (KG j V l);have f:=((r.trans u).trans x).trans W;exact⟨a,vs,k,j,rfl,rfl,U,by rw[aY l];exact S,F.nx g _ T c σ _ f Y (En.mono R f)⟩
def rY(t:WT)(b:WS):WS:=λE a mh=>∃W:Nat->hX->MH->Prop,(∃m,W m a mh)/\∀m a mh,W m a mh->∃N:hX->MH->Prop,(∀d mh',N d mh' ->∃f,f<m/\W f d mh')/\
 t a mh λc e=>if c=true then b {E with nx:=N,ct:=N,bk:=E.nx} a e else E.nx a e
theorem QE{c:Expr}{body:List Stmt}(B:PassesOwn (model X.prog X.w) X.A X.env X.xe)(C:LT X c wt)(G:hZ X body t):LS X (.While c body [] pos) (rY wt t):=PS.imp (OX B C G) λD σ H h=>by
 obtain⟨μ,I,mh,E,R,En,⟨W,⟨m,J⟩,o⟩,F⟩:=h;refine⟨λm j H' =>∃μ' e mh',aT μ H μ' H' /\Rep X.K μ' mh' H' /\c7 X.K μ' H' e j /\W m e mh',⟨m,μ,I,mh,aT.refl,R,En,J⟩,?_⟩;rintro m j H' ⟨μ',e,mh',y,x,l,L⟩;obtain⟨N,hN,tt⟩:=o m e mh' L;refine⟨μ',e,mh',_,x,l,tt,λk p q r M v z=>?_⟩
 cases k with
 | false=>rw[if_neg Bool.false_ne_true]at q⊢;exact F.nx e p q r j M (y.trans v) z (l.mono x v)
 | true=>
  rw[if_pos rfl]at q⊢;refine⟨λg n=>∃a b d,aT μ H a n/\Rep X.K a d n/\c7 X.K a n b g/\N b d,?_,?_⟩
  ·rintro g n ⟨a,b,d,s,R2,f,u⟩;obtain⟨O,hm,P⟩:=hN b d u;exact⟨O,hm,a,b,d,s,R2,f,P⟩
  ·have i:=y.trans v;exact⟨r,e,p,_,z,l.mono x v,q,⟨λb d u a g n s R2 f=>⟨a,b,d,i.trans s,R2,f,u⟩,F.rt.at i,F.nx.at i,λb d u a g n s R2 f=>⟨a,b,d,i.trans s,R2,f,u⟩⟩⟩
def eI(t:WT)(b:WS)(E:f6):Nat->hX->MH->Prop
 | 0,_,_=>False
 | n+1,ρ,mh=>t ρ mh λc a=>if c=true then b {E with nx:=eI t b E n,ct:=eI t b E n,bk:=E.nx} ρ a else E.nx ρ a
theorem k5{t:WT}{b:WS}{E:f6}{a:hX}{mh:MH}(n:Nat)(h:eI t b E n a mh):rY t b E a mh:=by
 refine⟨λm a mh=>eI t b E m a mh,⟨n,h⟩,λm a mh c=>?_⟩
 cases m with
 | zero=>exact c.elim
 | succ m=>exact⟨eI t b E m,λd mh' q=>⟨m,aL2 _,q⟩,c⟩
abbrev WI:=hX->MH->(List D->(MH->Prop)->MH->Prop)->Prop
structure kX(μ:List Addr)(H:Hp)(μ' :List Addr)(H' :Hp):Prop where
 pre:∃t,μ' =μ++t
 fr:∀b o,H b=some o->¬Own (some o)->H' b=some o
section
variable {K:aNq}{μ μ' :List Addr}{mh:MH}{H H' :Hp}
theorem aT.weak(R:Rep K μ mh H)(P:aT μ H μ' H'):kX μ H μ' H' :=⟨P.pre,λb o e n=>P.fr b o e λhm=>n (by have:=R.mut hm;rwa [e]at this)⟩
theorem kX.get(p:kX μ H μ' H'){n:Nat}{a:Addr}(h:μ[n]? =some a):μ'[n]? =some a:=by
 obtain⟨t,rfl⟩:=p.pre;rw[List.getElem?_append_left (List.getElem?_eq_some_iff.mp h).1];exact h
theorem kX.sqT(p:kX μ H μ' H'){a:Addr}{vs:List V}(h:CV K H a vs):CV K H' a vs:=by
 rcases h with h | h
 ·exact .inl (p.fr _ _ h id)
 ·exact .inr h
theorem kX.sqF(p:kX μ H μ' H'){a:Addr}{vs:List V}(h:S9 K H a vs):S9 K H' a vs:=by
 rcases h with ⟨o,h⟩ | h
 ·exact .inl ⟨o,p.fr _ _ h id⟩
 ·exact .inr h
mutual
theorem Is.pF(p:kX μ H μ' H'):∀(d:D) (v:V),Is K μ H d v->Is K μ' H' d v
 | .b8,v,h=>by unfold Is at*;exact h
 | .bl _,v,h=>by unfold Is at*;exact h
 | .int _,v,h=>by unfold Is at*;exact h
 | .str _,v,h=>by unfold Is at*;exact h
 | .ty _,v,h=>by unfold Is at*;exact h
 | .tup ds,v,h=>by
  unfold Is at*;obtain⟨a,vs,e,s,l⟩:=h;exact⟨a,vs,e,p.sqT s,IsL.pF p ds vs l⟩
 | .fl ds,v,h=>by
  unfold Is at*;obtain⟨a,vs,e,s,l⟩:=h;exact⟨a,vs,e,p.sqF s,IsL.pF p ds vs l⟩
 | .ref n,v,h=>by
  unfold Is at*;obtain⟨a,e,q⟩:=h;exact⟨a,p.get e,q⟩
theorem IsL.pF(p:kX μ H μ' H'):∀(ds:List D) (vs:List V),IsL K μ H ds vs->IsL K μ' H' ds vs
 | [],vs,h=>by unfold IsL at*;exact h
 | d::ds,vs,h=>by
  unfold IsL at*;obtain⟨v,r,e,q,l⟩:=h;exact⟨v,r,e,Is.pF p d v q,IsL.pF p ds r l⟩
end
end
structure NM(K:aNq)(μ:List Addr)(H:Hp)(ds:List D)(St:MH->Prop)(J:It):Prop where
 small:ds.length<=sizeLine
 go:∀μ' mh' H',kX μ H μ' H' ->Rep K μ' mh' H' ->St mh' ->∀(i:Nat) d,ds[i]? =some d->J.go i H' /\∀x H'',J.yld i H' x H'' ->aT μ' H' μ' H'' /\Rep K μ' mh' H'' /\Is K μ' H'' d x
 stop:∀μ' mh' H',kX μ H μ' H' ->Rep K μ' mh' H' ->St mh' ->J.stop ds.length H'
def tLI(K:aNq)(w:WI):TI:=λσ H R=>∃μ d mh e,Rep K μ mh H/\c7 K μ H d σ/\w d mh e /\
 ∀ds St b,e ds St b->∀a J c,aT μ H a c->Rep K a b c->NM K a c ds St J->R J c
def LI(X:Cx)(tg iter:Expr)(w:WI):Prop:=PI X tg iter (tLI X.K w)
theorem PI.imp{X:Cx}{tg e:Expr}{t t' :TI}(h:PI X tg e t)(i:∀σ H Q,t' σ H Q->t σ H Q):PI X tg e t' :=λpins s σ H Q I q=>h pins s σ H Q I (i σ H Q q)
def l5(g:WG)(b:WS)(E:f6)(St:MH->Prop):List D->hX->MH->Prop
 | [],ρ,mh=>St mh/\E.nx ρ mh
 | d::ds,ρ,mh=>St mh/\g d ρ λa=>b {E with nx:=l5 g b E St ds,ct:=l5 g b E St ds,bk:=E.nx} a mh
def lG(wi:WI)(g:WG)(b:WS):WS:=λE c mh=>wi c mh λds St a=>l5 g b E St ds c a
theorem aB5{tg iter:Expr}{body:List Stmt}{wi:WI}{g:TG}{gd:WG}(V:PassesOwn (model X.prog X.w) X.A X.env X.xe)(W:X.calm=true)(hi:LI X tg iter wi)(hg:PG X tg g)(Y:rV X.K g gd)(Z:hZ X body t)
  (hs:∀x,foldedSetIterable iter X.env x=pure x:=by intro _;rfl):LS X (.For tg iter body [] pos) (lG wi gd t):=PS.imp (Z4 V W hi hg Z hs) λD σ H h=>by
 obtain⟨μ,Q,mh,E,R,En,h,F⟩:=h;refine⟨μ,Q,mh,_,R,En,h,λds St B q j J C G I It=>?_⟩;refine⟨λi m k H' =>∃μ' d mh',aT j C μ' H' /\Rep X.K μ' mh' H' /\c7 X.K μ' H' d k /\i<=ds.length/\m=ds.length-i/\l5 gd t E St (ds.drop i) d mh',⟨ds.length,j,Q,B,aT.refl,I,En.mono R G,aLb _,by simp,by simpa using q⟩,?_⟩;rintro i m k H' ⟨μ',d,mh',v,z,r,hi',rfl,l⟩;by_cases o:i<ds.length
 ·rw[List.drop_eq_getElem_cons o]at l;obtain⟨L,l⟩:=l;obtain⟨M,hy⟩:=It.go μ' mh' H' (v.weak I) z L i ds[i] (by simp[o]);refine .inr ⟨M,λf n=>∃a b c,aT j C a n/\Rep X.K a c n/\c7 X.K a n b f/\l5 gd t E St (ds.drop (i+1)) b c,?_,λx H'' y=>?_⟩
  ·rintro f n ⟨a,b,c,N,R2,p,l2⟩;exact⟨ds.length-(i+1),by lia,a,b,c,N,R2,p,o,rfl,l2⟩
  ·obtain⟨S,T,Iy⟩:=hy x H'' y;refine Y x k H'' _ μ' d mh' _ _ T (r.mono z S) Iy l λO q3 σ3 P=>?_;have U:=v.trans S;have s:=G.trans U
   have u:IL X.K μ' H'' (l5 gd t E St (ds.drop (i+1))) (λf n=>∃a b c,aT j C a n/\Rep X.K a c n/\c7 X.K a n b f/\l5 gd t E St (ds.drop (i+1)) b c):=
    λb c n2 a f n N R2 p=>⟨a,b,c,U.trans N,R2,p,n2⟩
   exact⟨μ',O,mh',_,T,P,q3,⟨u,F.rt.at s,F.nx.at s,u⟩⟩
 ·have e:i=ds.length:=by lia
  subst e;rw[List.drop_of_length_le (Nat.le_refl _)]at l;exact .inl ⟨It.stop μ' mh' H' (v.weak I) z l.1,F.nx d mh' l.2 μ' k H' (G.trans v) z r⟩
end
def dG(w:WE):WI:=λb mh Q=>w b mh λx a=>∃ds,bC a x=some ds/\Q ds (λmh' =>bC mh' x=some ds) a
section
variable {K:aNq}{μ:List Addr}{mh:MH}{H:Hp}{ds:List D}{vs:List V}{a:Addr}
theorem aBy{St:MH->Prop}(R:Rep K μ mh H)(s:CV K H a vs)(l:IsL K μ H ds vs)(hz:ds.length<=sizeLine):NM K μ H ds St (Itt K a):=by
 refine⟨hz,λμ' mh' H' b c _ i d e=>?_,λμ' mh' H' b c _=>⟨vs,(b.sqT s).sq,by rw[aY l];exact aK6 _⟩⟩;have f :=(b.sqT s).sq;obtain⟨v,g,h⟩:=eY (IsL.pF b ds vs l) e;refine⟨⟨vs,v,f,g⟩,λx H'' y=>?_⟩;obtain⟨rfl,y⟩:=y;have:=y vs f;rw[g]at this;cases this;exact⟨aT.refl,c,h⟩
theorem aFu{St:MH->Prop}(R:Rep K μ mh H)(s:S9 K H a vs)(l:IsL K μ H ds vs)(hz:ds.length<=sizeLine):NM K μ H ds St (Itl K a):=by
 refine⟨hz,λμ' mh' H' b c _ i d e=>?_,λμ' mh' H' b c _=>⟨vs,(b.sqF s).sq,by rw[aY l];exact aK6 _⟩⟩;have f :=(b.sqF s).sq;obtain⟨v,g,h⟩:=eY (IsL.pF b ds vs l) e;refine⟨⟨vs,v,f,g⟩,λx H'' y=>?_⟩;obtain⟨rfl,y⟩:=y;have:=y vs f;rw[g]at this;cases this;exact⟨aT.refl,c,h⟩
theorem uM{mh:MH}{n:Nat}{ds:List D}(h:bC mh (.ref n)=some ds):mh[n]? =some (.lst ds):=by
 simp only[bC]at h
 cases o:mh[n]? with
 | none=>rw[o]at h;cases h
 | some ob=>cases ob with
  | lst es=>rw[o]at h;cases h;rfl
  | dic t kvs=>rw[o]at h;cases h
  | fdc t kvs ob=>rw[o]at h;cases h
  | oth ds f=>rw[o]at h;cases h
theorem aC0{n:Nat}(R:Rep K μ mh H)(g:μ[n]? =some a)(hz:ds.length<=sizeLine):NM K μ H ds (λmh' =>bC mh' (.ref n)=some ds) (Itl K a):=by
 refine⟨hz,λμ' mh' H' f b hs i d e=>?_,λμ' mh' H' f b hs=>?_⟩
 ·obtain⟨vs,c,l⟩:=b.obj n a _ (f.get g) (uM hs);obtain⟨v,h,j⟩:=eY l e;refine⟨⟨vs,v,.of c,h⟩,λx H'' y=>?_⟩;obtain⟨rfl,y⟩:=y;have:=y vs (.of c);rw[h]at this;cases this;exact⟨aT.refl,b,j⟩
 ·obtain⟨vs,c,l⟩:=b.obj n a _ (f.get g) (uM hs);exact⟨vs,.of c,by rw[aY l];exact aK6 _⟩
end
section
variable {X:Cx}{tg l:Expr}{w:WE}
theorem aB7(D:LE X l w):LI X tg l (dG w):=by
 intro pins s σ H R I h;obtain⟨μ,E,mh,G,J,En,h,F⟩:=h;refine dJ (D pins s σ H (λv g=>∃c x f ds,aT μ H c g/\Rep X.K c f g/\Is X.K c g x v/\bC f x=some ds/\G ds (λmh' =>bC mh' x=some ds) f) I ⟨μ,E,mh,_,J,En,h,λd f q c v g y m i=>?_⟩) λv s1 ⟨x,g,i,B,L⟩=>?_
 ·obtain⟨ds,e,q⟩:=q;exact⟨c,d,f,ds,y,m,i,e,q⟩
 ·obtain⟨c,dx,f,ds,y,m,ix,e,q⟩:=L;obtain⟨a,vs,rfl,sq,M⟩:=vS m ix e;have hz:ds.length<=sizeLine:=by rw[<-aY M];exact ZJ i sq
  have j:∀{vs:List V},qB X.K g a vs->NM X.K c g ds (λmh' =>bC mh' dx=some ds) (Itl X.K a)->wpAny (model X.prog X.w) X.A (pyIter v) (PIE X pins σ tg R) X.xe s1:=λ{vs} sq It=>by
   obtain⟨aL,N,p,_⟩:=i.list sq;cases B;refine aMv p.isList ?_;refine⟨s1.heap.objs.size,[s1.heap.objs.size],_,_,g,rfl,i.kept (t' :=s1.toks) λb o e=>aK4 _ e,LG a _,⟨_,aKa _ rfl,rfl,rfl⟩,λb z=>?_,F ds _ f q c _ g y m It⟩;have e:b=s1.heap.objs.size:=by simpa using z
   subst e;exact i.RM (aK6 _) (i.cI.fresh (aK6 _))
  cases dx with
  | tup es=>
   cases e;obtain⟨C,t,u,k,r⟩:=BQ ix;cases u;obtain⟨aL,N,p,_⟩:=i.tuple k.sq;cases B;refine aNc (show s1.heap.IsTuple a aL.toArray from p) ?_;refine⟨s1.heap.objs.size,[s1.heap.objs.size],_,_,g,rfl,i.kept (t' :=s1.toks) λb o e=>aK4 _ e,GB a _,⟨_,aKa _ rfl,rfl,rfl⟩,λb z=>?_,F ds _ f q c _ g y m (aBy m k r hz)⟩;have e:b=s1.heap.objs.size:=by simpa using z
   subst e;exact i.RM (aK6 _) (i.cI.fresh (aK6 _))
  | fl es=>
   cases e;obtain⟨C,t,u,k,r⟩:=pH ix;cases u;exact j k.sq (aFu m k r hz)
  | ref n=>
   obtain⟨C,t,u,O,P,r⟩:=j0 m ix (uM e);cases u;exact j (.of P) (aC0 m O hz)
  | _=>cases e
def fA(lo:Int)(n:Nat):List D:=(List.range n).map λ(k:Nat)=>D.int (lo+(k:Int))
theorem aBz{μ:List Addr}{St:MH->Prop}{lo:Int}{n:Nat}(hz:n<=sizeLine):NM K μ H (fA lo n) St (Itr lo n):=by
 refine⟨by simpa[fA] using hz,λμ' mh' H' b a _ i d e=>?_,λμ' mh' H' b a _=>by show n<=_;simp[fA]⟩;simp only[fA,List.getElem?_map]at e;obtain⟨k,c,rfl⟩:=aL0.mp e;obtain⟨hi,rfl⟩:=aK5.mp c;simp at hi;refine⟨hi,λx H'' y=>?_⟩;obtain⟨rfl,rfl⟩:=y;exact⟨aT.refl,a,by simp;exact .int⟩
variable {a b:Expr}{wa:WA}{p pos:Pos}
def kL(wa:WA):WI:=λb mh Q=>wa b mh λds a=>∃j,ds=[.int j]/\ -(2^62)<=j/\j<=sizeLine/\Q (fA 0 j.toNat) (λ_=>True) a
theorem L6(hg:Gl X "range")(hm:X.mg "range"=none)(ha:LA X [a] wa)(hs:starEach [a] X.env=[(false,eval a X.env)]:=by rfl):LI X tg (.Call (.Name "range" p) [a] [] pos) (kL wa):=
 PI.imp (LR hg hm ha hs) λσ H R h=>by
  obtain⟨μ,d,mh,n,e,En,h,F⟩:=h;refine⟨μ,d,mh,_,e,En,h,λds b q c vs f g i k=>?_⟩;obtain⟨j,rfl,l,o,q⟩:=q;obtain⟨v,rfl,m⟩:=fX k;cases b6 m;have r:=nQ;have hs:sizeLine=16777216:=aKc;exact⟨j,rfl,l,by lia,F _ _ b q c _ f g i (aBz (by lia))⟩
def oN:List D->List D->List D
 | a::as,b::bs=>.tup [a,b]::oN as bs
 | _,_=>[]
theorem uW:∀(as bs:List D),(oN as bs).length=min as.length bs.length
 | [],bs=>by simp[oN]
 | a::as,[]=>by simp[oN]
 | a::as,b::bs=>by simp[oN,uW as bs]
theorem C3:∀{as bs:List D} {i:Nat} {d:D},(oN as bs)[i]? =some d->∃x y,as[i]? =some x/\bs[i]? =some y/\d= .tup [x,y]
 | [],bs,i,d,h=>by simp[oN]at h
 | a::as,[],i,d,h=>by simp[oN]at h
 | a::as,b::bs,0,d,h=>by simp[oN]at h;exact⟨a,b,rfl,rfl,h.symm⟩
 | a::as,b::bs,i+1,d,h=>by simpa using C3 (as:=as) (bs:=bs) (i:=i) (by simpa[oN] using h)
def yY(wa:WA):WI:=λb mh Q=>wa b mh λxs a=>∃x y ds es,xs=[x,y]/\bC a x=some ds/\bC a y=some es/\ds.length<=sizeLine/\Q (oN ds es) (λmh' =>bC mh' x=some ds/\bC mh' y=some es) a
def Q4:D->Bool | .tup _=>true | _=>false
theorem r8{μ:List Addr}{mh:MH}{d:D}{v:V}{ds:List D}(R:Rep K μ mh H)(h:Is K μ H d v)(e:bC mh d=some ds):∃a vs,v= .ref a/\F6 K H (Q4 d) a vs/\IsL K μ H ds vs:=by
 cases d with
 | tup es=>obtain⟨a,vs,rfl,s,l⟩:=eK h;cases e;exact⟨a,vs,rfl,s,l⟩
 | fl es=>obtain⟨a,vs,rfl,s,l⟩:=pH h;cases e;exact⟨a,vs,rfl,s.sq,l⟩
 | ref n=>obtain⟨a,vs,rfl,_,b,l⟩:=j0 R h (uM e);exact⟨a,vs,rfl,qB.of b,l⟩
 | _=>cases e
variable {e1 e2:Expr}{elts:List Expr}{x1:Nat}{tpos:Pos}
theorem VX{x1}(hg:Gl X "zip")(hm:X.mg "zip"=none)(ha:LA X [e1,e2] wa)
  (he:starEach [e1,e2] X.env=(false,eval e1 X.env)::starEach [e2] X.env:=by rfl) (C:(backTo pos (starEach [e2] X.env)).any (·.1)=false:=by rfl):
  LI X (.Tuple elts x1 tpos) (.Call (.Name "zip" p) [e1,e2] [] pos) (yY wa):=
 PI.imp (Z5 aDr ⟨by decide,by decide⟩ hg hm ha (by decide+kernel) he C) λσ H R h=>by
  obtain⟨μ,T,mh,g,U,En,h,F⟩:=h;refine⟨μ,T,mh,_,U,En,h,λxs D q o vs M V E W=>?_⟩;obtain⟨x,y,ds,es,rfl,Y,Z,hz,q⟩:=q;obtain⟨v,u,rfl,N,O⟩:=KJ W;obtain⟨a,xs,rfl,sa,la⟩:=r8 E N Y;obtain⟨b,w,rfl,sb,lb⟩:=r8 E O Z;refine⟨[(a,Q4 x),(b,Q4 y)],rfl,rfl,?_,F _ _ D q o _ M V E ?_⟩
  ·intro G r;simp at r;rcases r with rfl | rfl
   ·exact⟨xs,sa⟩
   ·exact⟨w,sb⟩
  ·have l:∀μ' mh' H',kX o M μ' H' ->Rep X.K μ' mh' H' ->(bC mh' x=some ds/\bC mh' y=some es)->∃xs w,F6 X.K H' (Q4 x) a xs/\IsL X.K μ' H' ds xs/\F6 X.K H' (Q4 y) b w/\IsL X.K μ' H' es w:=λμ' mh' H' m g st=>by
    obtain⟨a',c,e1,s1,n⟩:=r8 g (Is.pF m _ _ N) st.1;obtain⟨b',f,e2,s2,s⟩:=r8 g (Is.pF m _ _ O) st.2;cases e1;cases e2;exact⟨c,f,s1,n,s2,s⟩
   refine⟨by rw[uW];lia,λμ' mh' H' m g st i d e=>?_,λμ' mh' H' m g st=>?_⟩
   ·obtain⟨c,f,s1,n,s2,s⟩:=l μ' mh' H' m g st;obtain⟨dx,dy,g1,g2,rfl⟩:=C3 e;obtain⟨A,k1,ix⟩:=eY n g1;obtain⟨B,k2,iy⟩:=eY s g2;refine⟨⟨[A,B],rfl,λk a' t' v I P=>?_⟩,λz H'' yl=>?_⟩
    ·match k with
     | 0=>cases I;cases P;exact⟨c,s1,k1⟩
     | 1=>cases I;cases P;exact⟨f,s2,k2⟩
     | k+2=>simp at I
    ·obtain⟨G,vs,Q,rfl,rfl,J,t⟩:=yl
     match vs,J with
     | [v1,v2],_=>
      have e1:=t 0 a (Q4 x) v1 rfl rfl c s1;have e2:=t 1 b (Q4 y) v2 rfl rfl f s2;rw[k1]at e1;rw[k2]at e2;cases e1;cases e2;have L:aT μ' H' μ' (upd H' G (.tup [A,B])):=aT.new g Q;refine⟨L,g.new Q,?_⟩;unfold Is;refine⟨G,[A,B],rfl,.of b9,?_⟩;unfold IsL;exact⟨A,[B],rfl,Is.mono g L _ _ ix,jQ (Is.mono g L _ _ iy)⟩
   ·obtain⟨c,f,s1,n,s2,s⟩:=l μ' mh' H' m g st;rw[uW];by_cases hle:ds.length<=es.length
    ·refine⟨0,a,Q4 x,c,rfl,s1,by rw[aY n];lia,λj b u S=>absurd S (by lia)⟩
    ·refine⟨1,b,Q4 y,f,rfl,s2,by rw[aY s];lia,λj b u S hs=>?_⟩;have:j=0:=by lia
     subst this;cases hs;exact⟨c,s1,by rw[aY n];lia⟩
end
section
variable {K:aNq}{μ μ' :List Addr}{mh:MH}{H H0:Hp}{q:Addr}{o:HO}
mutual
theorem Is.out(hm:SK (H q)):∀(d:D) (v:V),Is K μ H d v->Is K μ (upd H q o) d v
 | .b8,v,h=>by unfold Is at*;exact h
 | .bl _,v,h=>by unfold Is at*;exact h
 | .int _,v,h=>by unfold Is at*;exact h
 | .str _,v,h=>by unfold Is at*;exact h
 | .ty _,v,h=>by unfold Is at*;exact h
 | .tup ds,v,h=>by
  unfold Is at*;obtain⟨a,vs,e,s,l⟩:=h;refine⟨a,vs,e,?_,IsL.out hm ds vs l⟩;rcases s with s | s
  ·exact .inl (by rw[aW (λz=>by subst z;rw[s]at hm;exact hm)];exact s)
  ·exact .inr s
 | .fl ds,v,h=>by
  unfold Is at*;obtain⟨a,vs,e,s,l⟩:=h;refine⟨a,vs,e,?_,IsL.out hm ds vs l⟩
  rcases s with ⟨ob,s⟩ | s
  ·exact .inl ⟨ob,by rw[aW (λz=>by subst z;rw[s]at hm;exact hm)];exact s⟩
  ·exact .inr s
 | .ref n,v,h=>by unfold Is at*;exact h
theorem IsL.out(hm:SK (H q)):∀(ds:List D) (vs:List V),IsL K μ H ds vs->IsL K μ (upd H q o) ds vs
 | [],vs,h=>by unfold IsL at*;exact h
 | d::ds,vs,h=>by
  unfold IsL at*;obtain⟨v,r,e,i,l⟩:=h;exact⟨v,r,e,Is.out hm d v i,IsL.out hm ds r l⟩
end
mutual
theorem Is.pre(b:∀(n:Nat) a,μ[n]? =some a->μ'[n]? =some a):∀(d:D) (v:V),Is K μ H d v->Is K μ' H d v
 | .b8,v,h=>by unfold Is at*;exact h
 | .bl _,v,h=>by unfold Is at*;exact h
 | .int _,v,h=>by unfold Is at*;exact h
 | .str _,v,h=>by unfold Is at*;exact h
 | .ty _,v,h=>by unfold Is at*;exact h
 | .tup ds,v,h=>by unfold Is at*;obtain⟨a,vs,e,s,l⟩:=h;exact⟨a,vs,e,s,IsL.pre b ds vs l⟩
 | .fl ds,v,h=>by unfold Is at*;obtain⟨a,vs,e,s,l⟩:=h;exact⟨a,vs,e,s,IsL.pre b ds vs l⟩
 | .ref n,v,h=>by unfold Is at*;obtain⟨a,e,q⟩:=h;exact⟨a,b n a e,q⟩
theorem IsL.pre(b:∀(n:Nat) a,μ[n]? =some a->μ'[n]? =some a):∀(ds:List D) (vs:List V),IsL K μ H ds vs->IsL K μ' H ds vs
 | [],vs,h=>by unfold IsL at*;exact h
 | d::ds,vs,h=>by unfold IsL at*;obtain⟨v,r,e,i,l⟩:=h;exact⟨v,r,e,Is.pre b d v i,IsL.pre b ds r l⟩
end
theorem Rep.out(R:Rep K μ mh H)(hm:SK (H q))(d:q∉μ):Rep K μ mh (upd H q o):=⟨R.len,R.nd,λn a ob c g=>by
 have h:=R.obj n a ob c g;have b:a≠q:=λz=>d (z▸aK9 c)
 cases ob with
 | lst ds=>obtain⟨vs,e,l⟩:=h;exact⟨vs,by rw[aW b];exact e,IsL.out hm ds vs l⟩
 | dic t kvs=>obtain⟨vs,e,l⟩:=h;exact⟨vs,by rw[aW b];exact e,IsL.out hm _ vs l⟩
 | fdc t kvs ob=>obtain⟨vs,u,e,i,l⟩:=h;exact⟨vs,u,by rw[aW b];exact e,i,IsL.out hm _ vs l⟩
 | oth ds f=>obtain⟨vs,⟨e,m⟩,l⟩:=h;exact⟨vs,⟨by rw[aW b];exact e,m⟩,IsL.out hm ds vs l⟩⟩
theorem aT.out(P:aT μ H0 μ' H)(h0:H0 q=none):aT μ H0 μ' (upd H q o):=⟨P.pre,λb u e n=>by rw[aW (bM e h0)];exact P.fr b u e n,P.nw⟩
theorem Rep.SG{j:MO}(R:Rep K μ mh H)(p:q∉μ)(e:pK K (μ++[q]) H j q):Rep K (μ++[q]) (mh++[j]) H:=by
 have k:∀{es us},IsL K μ H es us->IsL K (μ++[q]) H es us:=λ{es us} l=>IsL.pre (λn a h=>by rw[List.getElem?_append_left (List.getElem?_eq_some_iff.mp h).1];exact h) es us l;refine⟨by simp[R.len],?_,λn a ob c i=>?_⟩
 ·rw[List.nodup_append];refine⟨R.nd,by simp,λa ha b m=>?_⟩;simp at m;subst m;exact λz=>p (z▸ha)
 ·by_cases o:n<μ.length
  ·rw[List.getElem?_append_left o]at c;rw[List.getElem?_append_left (by rw[<-R.len];exact o)]at i;have h:=R.obj n a ob c i
   cases ob with
   | lst es=>obtain⟨us,d,g⟩:=h;exact⟨us,d,k g⟩
   | dic t kvs=>obtain⟨us,d,g⟩:=h;exact⟨us,d,k g⟩
   | fdc t kvs ob=>obtain⟨us,u,d,r,g⟩:=h;exact⟨us,u,d,r,k g⟩
   | oth ds f=>obtain⟨us,d,g⟩:=h;exact⟨us,d,k g⟩
  ·rw[List.getElem?_append_right (by lia)]at c;rw[List.getElem?_append_right (by rw[<-R.len];lia)]at i
   have hz:n-μ.length=0:=by
    have:=(aK5.mp c).1;simp at this;lia
   rw[hz]at c;rw[<-R.len,hz]at i;simp at c i;subst c i;exact e
theorem Rep.aGj{ds:List D}{vs:List V}(R:Rep K μ mh H)(b:q∉μ)(e:H q=some (.lst vs))(l:IsL K μ H ds vs):Rep K (μ++[q]) (mh++[.lst ds]) H:=
 R.SG b ⟨vs,e,IsL.pre (λn a h=>by rw[List.getElem?_append_left (List.getElem?_eq_some_iff.mp h).1];exact h) ds vs l⟩
end
def iP(own:List Str)(aO:List Nat)(a:hX):hX:=own.map (λ_=>none)++aO.map λi=>(a[i]?).join
def i6(g:WG)(t:WT)(w:WE)(ρe:hX)(St:MH->Prop)(Q:DK):List D->List D->MH->Prop
 | [],ys,mh=>St mh/\Q (.ref mh.length) (mh++[.lst ys])
 | d::ds,ys,mh=>St mh/\g d ρe λa=>t a mh λb c=>if b=true then w a c λy e=>i6 g t w ρe St Q ds (ys++[y]) e else i6 g t w ρe St Q ds ys c
def rW(own:List Str)(aO:List Nat)(wi:WI)(g:WG)(t:WT)(w:WE):WE:=λb mh Q=>wi b mh λds St a=>i6 g t w (iP own aO b) St Q ds [] a
def iX:WT:=λ_ mh Q=>Q true mh
section
variable {K:aNq}{μ μ1:List Addr}{mh:MH}{H H1:Hp}
theorem aT.away{q:Addr}{o:HO}(P:aT μ H μ1 H1)(a:q∉μ)(e:H q=some o):q∉μ1/\H1 q=some o:=by
 refine⟨λh=>?_,P.fr q o e a⟩;rcases P.nw q h with z | z
 ·exact a z
 ·rw[e]at z;cases z
theorem c7.emb{a:hX}{σ:L2.St}{own:List Str}{aO:List Nat}(E:c7 K μ H a σ):c7 K μ H (iP own aO a) (sP own aO σ):=by
 refine⟨by simp[iP,sP],λi d h=>?_⟩;unfold iP at h;unfold sP;by_cases hi:i<own.length
 ·rw[List.getElem?_append_left (by simpa using hi),List.getElem?_map]at h
  cases q:own[i]? with
  | none=>rw[q]at h;simp at h
  | some z=>rw[q]at h;simp at h
 ·rw[List.getElem?_append_right (by simpa using hi),List.getElem?_map]at h⊢;simp only[List.length_map]at h⊢
  cases q:aO[i-own.length]? with
  | none=>rw[q]at h;simp at h
  | some k=>
   rw[q]at h;simp only[Option.map_some,Option.some.injEq]at h⊢
   cases r:a[k]? with
   | none=>rw[r]at h;simp at h
   | some z=>
    rw[r]at h;simp at h;subst h;obtain⟨v,b,c⟩:=E.2 k d r;exact⟨v,by rw[b];rfl,c⟩
end
section
variable {X:Cx}
def TB(X:Cx)(es:List Expr)(w:WT):Prop:=PTs X es (ZD X.K w)
theorem VN:TB X [] iX:=λpins s σ H Q I q=>UM pins s σ H Q I (by
 obtain⟨μ,b,mh,R,a,En,h,F⟩:=q
 exact F true mh h μ H aT.refl a)
theorem VM{c:Expr}{t:WT}(h:LT X c t):TB X [c] t:=UL h
theorem JW{wi:WI}{g:TG}{gd:WG}{t:WT}{w:WE}{own:List Str}{aO:List Nat}(hr:rV X.K g gd){σ:L2.St}(h:tL X.K (rW own aO wi gd t w) σ H Q):tLC own aO (tLI X.K wi) g (ZD X.K t) (tL X.K w) σ H Q:=by
 intro _ _;obtain⟨μ,O,mh,R,RR,En,h,F⟩:=h;refine⟨μ,O,mh,_,RR,En,h,λds St W q n J Y P1 P It d j=>?_⟩;have p:d∉n:=λz=>P.ne j z rfl
 refine⟨λi m v H' =>∃μ' mh' f,aT n Y μ' H' /\Rep X.K μ' mh' H' /\d∉μ' /\H' d=some (.lst v)/\IsL X.K μ' H' f v/\f.length<=i/\i<=ds.length/\m=ds.length-i/\i6 gd t w (iP own aO O) St R (ds.drop i) f mh',
  ⟨ds.length,n,W,[],aT.out aT.refl j,P.new j,p,b9,by unfold IsL;rfl,aK6 _,aLb _,by simp,by simpa using q⟩,?_⟩
 rintro i m v H' ⟨μ',mh',f,r,A,B,Z,l',hd',hi',rfl,c⟩;refine⟨Z,?_⟩;by_cases s:i<ds.length
 ·rw[List.drop_eq_getElem_cons s]at c;obtain⟨hst,c⟩:=c;obtain⟨hgo,hy⟩:=It.go μ' mh' H' (r.weak P) A hst i ds[i] (by simp[s]);refine .inr ⟨hgo,λu C=>∃l o k,aT n Y l C/\Rep X.K l o C/\d∉l/\C d=some (.lst u)/\IsL X.K l C k u/\k.length<=i+1/\i6 gd t w (iP own aO O) St R (ds.drop (i+1)) k o,?_,λx H'' y=>?_⟩
  ·rintro u C ⟨l,o,k,P2,R2,ha2,e2,l2,hd2,c2⟩;exact⟨ds.length-(i+1),by lia,l,o,k,P2,R2,ha2,e2,l2,hd2,s,rfl,c2⟩
  ·obtain⟨S,T,Iy⟩:=hy x H'' y;obtain⟨hay,ey⟩:=S.away B Z;have ly:=IsL.mono A S f v l';have P0y:=P1.trans (r.trans S);refine hr x _ H'' _ μ' (iP own aO O) mh' _ _ T (En.mono RR P0y).emb Iy c λD q2 σ2 E=>?_;refine⟨μ',D,mh',_,T,E,q2,λb G U I H3 V R3=>?_⟩;obtain⟨L,e3⟩:=V.away hay ey;have l3:=IsL.mono T V f v ly;have M:=(r.trans S).trans V
   cases b with
   | false=>rw[if_neg Bool.false_ne_true]at U⊢;exact⟨I,G,f,M,R3,L,e3,l3,by lia,U⟩
   | true=>
    rw[if_pos rfl]at U⊢;refine⟨by have:=It.small;rw[aY l'];lia,I,D,G,_,R3,E.mono T V,U,λy mh4 q4 μ4 vy H4 P4 R4 I4=>?_⟩;obtain⟨N,e4⟩:=P4.away L e3;have hm:SK (H4 d):=by rw[e4];trivial
    have l4:=IsL.mono R3 P4 f v l3;exact⟨e4,μ4,mh4,f++[y],aT.out (M.trans P4) j,R4.out hm N,N,b9,IsL.out hm _ _ (iM l4 (jQ I4)),by simp;lia,q4⟩
 ·have e:i=ds.length:=by lia
  subst e;rw[List.drop_of_length_le (Nat.le_refl _)]at c;refine .inl ⟨It.stop μ' mh' H' (r.weak P) A c.1,?_⟩
  have Pa:aT n Y (μ' ++[d]) H' :=⟨by obtain⟨t,rfl⟩:=r.pre;exact⟨t++[d],by simp⟩,r.fr,λa ha=>by
   rcases aKi.mp ha with ha | ha
   ·exact r.nw a ha
   ·simp at ha;subst ha;exact .inr j⟩
  exact F _ _ c.2 (μ' ++[d]) _ H' (P1.trans Pa) (A.aGj B Z l') (by unfold Is;exact⟨d,by rw[<-A.len];simp,rfl⟩)
theorem YL{tg iter a:Expr}{b:List Expr}{scope sc:Scope}{N:List Str}{pos:Pos}{wi:WI}{g:TG}{gd:WG}{t:WT}{w:WE}(own:List Str)(aO:List Nat)
  (hN:X.N=N) (hsc:X.env.scope=sc) (chk:gQ N sc scope aO=true) (hcalm:X.calm=true) (hi:LI X tg iter wi) (ho:xV own.length g)
  (c:rV X.K g gd)
  (hg:∀cl C fp s₀ H₀,PG (aZ X own aO scope cl C fp s₀ H₀) tg g) (ht:∀cl C fp s₀ H₀,TB (aZ X own aO scope cl C fp s₀ H₀) b t)
  (he:∀cl C fp s₀ H₀,LE (aZ X own aO scope cl C fp s₀ H₀) a w)
  (hs:∀x,foldedSetIterable iter X.env x=pure x:=by intro _;rfl):LE X (.ListComp a [⟨tg,iter,b,0⟩] scope pos) (rW own aO wi gd t w):=
 PE.imp (aEu (wi:=tLI X.K wi) (tt:=ZD X.K t) (te:=tL X.K w) own aO hN hsc chk hcalm hi ho hg (λcl C fp s₀ H₀=>ht cl C fp s₀ H₀) (λcl C fp s₀ H₀=>he cl C fp s₀ H₀) hs) λσ H Q h=>JW c h
theorem QH(i:Nat){x:Str}{a e:Pos}{tg iter b:Expr}{c:List Expr}{scope sc:Scope}{N:List Str}{pos:Pos}{wi:WI}{g:TG}{gd:WG}{t:WT}{w:WE}(nd:X.N.Nodup)(own:List Str)(aO:List Nat)
  (hN:X.N=N) (hsc:X.env.scope=sc) (chk:gQ N sc scope aO=true) (hcalm:X.calm=true) (hi:LI X tg iter wi) (ho:xV own.length g)
  (f:rV X.K g gd)
  (hg:∀cl C fp s₀ H₀,PG (aZ X own aO scope cl C fp s₀ H₀) tg g) (ht:∀cl C fp s₀ H₀,TB (aZ X own aO scope cl C fp s₀ H₀) c t)
  (he:∀cl C fp s₀ H₀,LE (aZ X own aO scope cl C fp s₀ H₀) b w)
  (d:X.N[i]? =some x:=by rfl) (hx:Loc X.env.scope x:=by first | exact Or.inl rfl | exact Or.inr rfl) (j:swapsWith (.ListComp b [⟨tg,iter,c,0⟩] scope pos) (some (.Name x a)) e.line X.env=pure true:=by rfl) (k:X.fn x=true\/X.env.scope.names.lookup x=some .local:=by first | exact .inl rfl | exact .inr rfl | assumption)
  (hs:∀x,foldedSetIterable iter X.env x=pure x:=by intro _;rfl):LS X (.Assign [.Name x a] (.ListComp b [⟨tg,iter,c,0⟩] scope pos) e) (bB (rW own aO wi gd t w) (gN i)):=
 PS.imp (OY (wi:=tLI X.K wi) (tt:=ZD X.K t) (te:=tL X.K w) own aO hN hsc chk hcalm hi ho hg (λcl C fp s₀ H₀=>ht cl C fp s₀ H₀) (λcl C fp s₀ H₀=>he cl C fp s₀ H₀) nd d hx j k hs) λD σ H h=>JW f (II (BY i) h)
end
mutual
def bX(n:Nat):D->Bool
 | .ref k=>decide (k<n)
 | .tup ds=>aS n ds
 | .fl ds=>aS n ds
 | _=>true
def aS(n:Nat):List D->Bool
 | []=>true
 | d::ds=>bX n d && aS n ds
end
def GR(n:Nat):MO->Bool
 | .lst ds=>aS n ds
 | .dic _ kvs=>aS n (kvs.map (·.2))
 | .fdc _ kvs _=>aS n (kvs.map (·.2))
 | .oth ds _=>aS n ds
def fZ(mh:MH):Prop:=∀o∈mh,GR mh.length o=true
section
variable {K:aNq}{μ:List Addr}{mh:MH}{H:Hp}
mutual
theorem UD:∀(d:D) (v:V),Is K μ H d v->bX μ.length d=true
 | .b8,v,h=>rfl
 | .bl _,v,h=>rfl
 | .int _,v,h=>rfl
 | .str _,v,h=>rfl
 | .ty _,v,h=>rfl
 | .tup ds,v,h=>by obtain⟨a,vs,_,_,l⟩:=eK h;simpa[bX] using gZ ds vs l
 | .fl ds,v,h=>by obtain⟨a,vs,_,_,l⟩:=pH h;simpa[bX] using gZ ds vs l
 | .ref n,v,h=>by obtain⟨a,e,_⟩:=nT h;simpa[bX] using (aK5.mp e).1
theorem gZ:∀(ds:List D) (vs:List V),IsL K μ H ds vs->aS μ.length ds=true
 | [],vs,h=>rfl
 | d::ds,vs,h=>by
  unfold IsL at h;obtain⟨v,r,_,i,l⟩:=h;simp only[aS,UD d v i,gZ ds r l,Bool.and_self]
end
theorem Rep.mok(R:Rep K μ mh H):fZ mh:=λo ho=>by
 obtain⟨n,a⟩:=aKv.mp ho;have b:n<μ.length:=by rw[R.len];exact(aK5.mp a).1
 have h:=R.obj n μ[n] o (by simp[b]) a;rw[<-R.len]
 cases o with
 | lst ds=>obtain⟨vs,_,l⟩:=h;exact gZ ds vs l
 | dic t kvs=>obtain⟨vs,_,l⟩:=h;exact gZ _ vs l
 | fdc t kvs ob=>obtain⟨vs,_,_,_,l⟩:=h;exact gZ _ vs l
 | oth ds f=>obtain⟨vs,_,l⟩:=h;exact gZ _ vs l
mutual
theorem Is.cut{n:Nat}:∀(d:D) (v:V),bX n d=true->Is K μ H d v->Is K (μ.take n) H d v
 | .b8,v,_,h=>by unfold Is at*;exact h
 | .bl _,v,_,h=>by unfold Is at*;exact h
 | .int _,v,_,h=>by unfold Is at*;exact h
 | .str _,v,_,h=>by unfold Is at*;exact h
 | .ty _,v,_,h=>by unfold Is at*;exact h
 | .tup ds,v,b,h=>by unfold Is at*;obtain⟨a,vs,e,s,l⟩:=h;exact⟨a,vs,e,s,IsL.cut ds vs (by simpa[bX] using b) l⟩
 | .fl ds,v,b,h=>by unfold Is at*;obtain⟨a,vs,e,s,l⟩:=h;exact⟨a,vs,e,s,IsL.cut ds vs (by simpa[bX] using b) l⟩
 | .ref k,v,b,h=>by unfold Is at*;obtain⟨a,e,q⟩:=h;exact⟨a,by rw[List.getElem?_take_of_lt (by simpa[bX] using b)];exact e,q⟩
theorem IsL.cut{n:Nat}:∀(ds:List D) (vs:List V),aS n ds=true->IsL K μ H ds vs->IsL K (μ.take n) H ds vs
 | [],vs,_,h=>by unfold IsL at*;exact h
 | d::ds,vs,b,h=>by
  unfold IsL at*;simp only[aS,Bool.and_eq_true]at b;obtain⟨v,r,e,i,l⟩:=h;exact⟨v,r,e,Is.cut d v b.1 i,IsL.cut ds r b.2 l⟩
end
theorem Rep.cut{c d:MH}(R:Rep K μ (c++d) H)(ok:fZ c):Rep K (μ.take c.length) c H:=by
 have k:c.length<=μ.length:=by rw[R.len];simp
 refine⟨by simp[k],List.Nodup.sublist (aNh _ _) R.nd,λn a o i g=>?_⟩;have j:n<c.length:=(aK5.mp g).1;rw[List.getElem?_take_of_lt j]at i;have h:=R.obj n a o i (by rw[List.getElem?_append_left j];exact g);have b:=ok o (aK9 g)
 cases o with
 | lst ds=>obtain⟨vs,e,l⟩:=h;exact⟨vs,e,IsL.cut ds vs b l⟩
 | dic t kvs=>obtain⟨vs,e,l⟩:=h;exact⟨vs,e,IsL.cut _ vs b l⟩
 | fdc t kvs ob=>obtain⟨vs,u,e,m,l⟩:=h;exact⟨vs,u,e,m,IsL.cut _ vs b l⟩
 | oth ds f=>obtain⟨vs,e,l⟩:=h;exact⟨vs,e,IsL.cut ds vs b l⟩
end
def Out(n:Nat)(d:D)(c:MH)(R:DK):Prop:=R d c\/(∃a b,c=a++b/\n<=a.length/\fZ a/\bX a.length d=true/\R d a)\/
 ∃a b j o,c=a++b/\n<=a.length/\fZ a/\d= .ref j/\a.length<=j/\c[j]? =some o/\GR a.length o=true/\R (.ref a.length) (a++[o])
variable{μ:List Addr}{mh:MH}
theorem U5(I:Rep K μ mh H)(F:Fin K μ H R Q):Fin K μ H (λd x=>Out mh.length d x R) Q:=by
 intro d x h i v y p A D
 have s:∀{g:MH},mh.length<=g.length->∃t,i.take g.length=μ++t:=λ{g} m=>by
  obtain⟨t,rfl⟩:=p.pre;rw[List.take_append,List.take_of_length_le (by rw[I.len];exact m)];exact⟨_,rfl⟩
 rcases h with h | ⟨g,B,rfl,m,ok,b,h⟩ | ⟨g,B,j,o,rfl,m,ok,rfl,L,ho,b,h⟩
 ·exact F d x h i v y p A D
 ·exact F d g h (i.take g.length) v y ⟨s m,p.fr,λa ha=>p.nw a (aLl ha)⟩ (A.cut ok) (Is.cut d v b D)
 ·have C:=A.cut ok;obtain⟨a,ha,rfl⟩:=nT D;have w:=A.obj j a o ha ho;have q:(i.take g.length).length=g.length:=C.len
  have r:a∉i.take g.length:=λz=>by
   obtain⟨k,E⟩:=aKv.mp z;have G:k<g.length:=by have:=(aK5.mp E).1;lia
   rw[List.getElem?_take_of_lt G]at E;have:=PY A.nd E ha
   lia
  cases o with
  | lst ds=>
   obtain⟨vs,e,l⟩:=w;refine F _ _ h (i.take g.length++[a]) _ y ⟨?_,p.fr,λc hc=>?_⟩ (C.aGj r e (IsL.cut ds vs b l)) (by unfold Is;exact⟨a,by rw[<-q];simp,rfl⟩)
   ·obtain⟨t,ht⟩:=s m;exact⟨t++[a],by rw[ht];simp⟩
   ·rcases aKi.mp hc with hc | hc
    ·exact p.nw c (aLl hc)
    ·simp at hc;subst hc;exact p.nw c (aK9 ha)
  | dic t kvs=>
   obtain⟨vs,e,l⟩:=w;refine F _ _ h (i.take g.length++[a]) _ y ⟨?_,p.fr,λc hc=>?_⟩ (C.SG r ⟨vs,e,IsL.pre (λn a h=>by rw[List.getElem?_append_left (List.getElem?_eq_some_iff.mp h).1];exact h) _ vs (IsL.cut _ vs b l)⟩) (by unfold Is;exact⟨a,by rw[<-q];simp,rfl⟩)
   ·obtain⟨t,ht⟩:=s m;exact⟨t++[a],by rw[ht];simp⟩
   ·rcases aKi.mp hc with hc | hc
    ·exact p.nw c (aLl hc)
    ·simp at hc;subst hc;exact p.nw c (aK9 ha)
  | oth ds f=>
   obtain⟨vs,e,l⟩:=w;refine F _ _ h (i.take g.length++[a]) _ y ⟨?_,p.fr,λc hc=>?_⟩ (C.SG r ⟨vs,e,IsL.pre (λn a h=>by rw[List.getElem?_append_left (List.getElem?_eq_some_iff.mp h).1];exact h) _ vs (IsL.cut _ vs b l)⟩) (by unfold Is;exact⟨a,by rw[<-q];simp,rfl⟩)
   ·obtain⟨t,ht⟩:=s m;exact⟨t++[a],by rw[ht];simp⟩
   ·rcases aKi.mp hc with hc | hc
    ·exact p.nw c (aLl hc)
    ·simp at hc;subst hc;exact p.nw c (aK9 ha)
  | fdc t kvs ob=>
   obtain⟨vs,u,e,J,l⟩:=w;refine F _ _ h (i.take g.length++[a]) _ y ⟨?_,p.fr,λc hc=>?_⟩ (C.SG r ⟨vs,u,e,J,IsL.pre (λn a h=>by rw[List.getElem?_append_left (List.getElem?_eq_some_iff.mp h).1];exact h) _ vs (IsL.cut _ vs b l)⟩) (by unfold Is;exact⟨a,by rw[<-q];simp,rfl⟩)
   ·obtain⟨t,ht⟩:=s m;exact⟨t++[a],by rw[ht];simp⟩
   ·rcases aKi.mp hc with hc | hc
    ·exact p.nw c (aLl hc)
    ·simp at hc;subst hc;exact p.nw c (aK9 ha)
def aG(N:List Str)(ds:List D):hX:=ds.map some++List.replicate (N.length-ds.length) none
variable{N:List Str}{ds:List D}
theorem N7{vs:List V}(l:IsL K μ H ds vs):c7 K μ H (aG N ds) (L2.start N vs):=by
 have a:=aY l;refine⟨by simp[aG,L2.start,a],λi d h=>?_⟩;unfold aG at h;unfold L2.start;by_cases hi:i<ds.length
 ·rw[List.getElem?_append_left (by simpa using hi),List.getElem?_map]at h;obtain⟨d',b,c⟩:=aL0.mp h;cases c;obtain⟨v,e,f⟩:=eY l b;exact⟨v,by rw[List.getElem?_append_left (by simpa[a] using hi),List.getElem?_map,e];rfl,f⟩
 ·rw[List.getElem?_append_right (by simpa using hi)]at h;obtain⟨_,h⟩:=aK5.mp h;simp at h
section
variable {P:Program}{w:World}{K:aNq}{mg:aNt}{base:Heap}
theorem aGa{x qual:Str}{st:Stmt}{f:Addr}{fd:FuncData}{N ps:List Str}{k:Nat}{s:OA}{wB:WS}(F:Fun K x qual st f fd)(S:aP N ps (aF st))(len:∀ds mh R,s ds mh R->ds.length=ps.length)
  (g:∀(cdv:Value) (A:Around) (outer:List Env) (s:Shared) (H:Hp) (E:XK),hU k (A.deeper (envOfC qual (aF st) s.heap.objs.size f cdv))->
   hZ (xF F2 P w K mg base N qual (aF st) f cdv A outer s H E).VD (cR st) wB)
  (i:∀ds mh R,fZ mh->aS mh.length ds=true->s ds mh R->wB {nx:=λ_ a=>Out mh.length .b8 a R,rt:=λd a=>Out mh.length d a R} (aG N ds) mh):kZ P w K mg base F2 (k+1) f fd ps (SU K s):=by
 refine F.ok S (λvs H Q E h=>?_) (λcdv A outer j H vs Q E l h=>?_)
 ·obtain⟨μ,mh,ds,R,b,c,h,_⟩:=h;rw[aY c];exact len ds mh R h
 ·obtain⟨μ,mh,ds,R,b,c,h,m⟩:=h;refine⟨_,g cdv A outer j H E l,μ,aG N ds,mh,_,b,N7 c,i ds mh R b.mok (by rw[<-b.len];exact gZ ds vs c) h,?_⟩;have e:=U5 b m;exact⟨λn mh' q μ' o H' p r t =>e .b8 mh' q μ' .b8 H' p r .b8,e,λ_ _ q=>False.elim q,λ_ _ q=>False.elim q⟩
end
def Fn(P:Program)(w:World)(K:aNq)(mg:aNt)(base:Heap)(k:Nat)(x:Str)(ps:List Str)(s:OA):Prop:=
 ∃f fd,kZ P w K mg base F2 k f fd ps (SU K s)/\mg x=some (.ref f)/\PySem.W.keepIn K (.ref f)=true/\Binds K fd ps []
variable{P:Program}{w:World}{mg:aNt}{x:Str}{ps:List Str}
theorem Fn.mono{base:Heap}{j k:Nat}{s:OA}(h:Fn P w K mg base j x ps s)(e:j<=k):Fn P w K mg base k x ps s:=
 let ⟨f,fd,a,b,c,d⟩:=h;⟨f,fd,a.mono e,b,c,d⟩
theorem Fn.imp{base:Heap}{k:Nat}{s g :OA}(h:Fn P w K mg base k x ps s)(hi:∀ds mh R,g ds mh R->s ds mh R):Fn P w K mg base k x ps g :=
 let ⟨f,fd,a,b,c,d⟩:=h;⟨f,fd,a.imp λvs H Q E e=>by obtain⟨μ,mh,ds,R,i,j,l,m⟩:=e;exact⟨μ,mh,ds,R,i,j,hi ds mh R l,m⟩,b,c,d⟩
def rT(K:aNq)(mg:aNt)(x:Str)(d:D):Prop:=∃v u,mg x=some u/\RelV v u/\∀μ H,Is K μ H d v
section
variable {X:Cx}{e:Expr}{es:List Expr}{wr:WA}{pos p:Pos}{x:Str}
theorem QQ{k:Nat}{s:OA}(F:Fn X.prog X.w X.K X.mg X.base k x ps s)(i:hU k X.A)(ha:LA X (e::es) wr)(hg:Gl X x:=by rfl)(g:(x==("__debug__":Str))=false:=by decide)
  (he:starEach (e::es) X.env=(false,eval e X.env)::starEach es X.env:=by rfl) (h:(backTo pos (starEach es X.env)).any (·.1)=false:=by rfl):LE X (.Call (.Name x p) (e::es) [] pos) (aC s wr):=by
 obtain⟨f,fd,a,b,c,d⟩:=F;exact V3 a i hg b c d ha g he h
theorem aFm{d:D}(h:rT X.K X.mg x d)(hg:Gl X x:=by rfl)(hd:(x==("__debug__":Str))=false:=by decide):LE X (.Name x pos) (wC d):=by
 obtain⟨v,u,a,b,c⟩:=h;exact VZ hg a b c hd
theorem QM{T:String}(hm:X.mg x=none)(a:bootBuiltins x=some (.type T))(hg:Gl X x:=by rfl)(b:x≠ "__name__":=by decide)(hd:(x==("__debug__":Str))=false:=by decide):LE X (.Name x pos) (wC (.ty T)):=VY hg hm a b hd
theorem aFp{id:String}{f:OA}(c:cD X (.builtin id) (eF X.K f))(hm:X.mg x=none)(d:bootBuiltins x=some (.builtin id))(ha:LA X (e::es) wr)(hg:Gl X x:=by rfl)(g:x≠ "__name__":=by decide)(a:(x==("__debug__":Str))=false:=by decide)
  (he:starEach (e::es) X.env=(false,eval e X.env)::starEach es X.env:=by rfl) (b:(backTo pos (starEach es X.env)).any (·.1)=false:=by rfl):LE X (.Call (.Name x p) (e::es) [] pos) (aC f wr):=QR c hg hm d ha g a he b
theorem aFn{T:String}{f:OA}(c:cD X (.type T) (eF X.K f))(hm:X.mg x=none)(d:bootBuiltins x=some (.type T))(ha:LA X (e::es) wr)(hg:Gl X x:=by rfl)(g:x≠ "__name__":=by decide)(a:(x==("__debug__":Str))=false:=by decide)
  (he:starEach (e::es) X.env=(false,eval e X.env)::starEach es X.env:=by rfl) (b:(backTo pos (starEach es X.env)).any (·.1)=false:=by rfl):LE X (.Call (.Name x p) (e::es) [] pos) (aC f wr):=L7 c hg hm d ha g a he b
theorem TY(i:Nat)(hN:X.N.Nodup)(hi:X.N[i]? =some x:=by rfl)(hx:Loc X.env.scope x:=by first | exact Or.inl rfl | exact Or.inr rfl)(a:X.fn x=true\/X.env.scope.names.lookup x=some .local:=by first | exact .inl rfl | exact .inr rfl):PG X (.Name x pos) (tW i):=UZ hN hi hx a
theorem aF7{op:CmpOp}(b:Expr)(h:op≠ .In:=by decide)(a:op≠ .NotIn:=by decide):behindInMarks op b=false:=PL b h a
end
structure Bl(mg:aNt):Prop where
 len:mg "len"=none
 range:mg "range"=none
 zip:mg "zip"=none
 all:mg "all"=none
 any:mg "any"=none
 abs:mg "abs"=none
 min:mg "min"=none
 max:mg "max"=none
 isinstance:mg "isinstance"=none
 sorted:mg "sorted"=none
 int:mg "int"=none
 str:mg "str"=none
 bool:mg "bool"=none
 list:mg "list"=none
 tuple:mg "tuple"=none
 set:mg "set"=none
 dict:mg "dict"=none
 sum:mg "sum"=none
 enumerate:mg "enumerate"=none
theorem SA:bootBuiltins "int"=some (.type "int"):=by decide+kernel
theorem XN:bootBuiltins "bool"=some (.type "bool"):=by decide+kernel
theorem K6:bootBuiltins "list"=some (.type "list"):=by decide+kernel
theorem FI:bootBuiltins "tuple"=some (.type "tuple"):=by decide+kernel
theorem aCz:bootBuiltins "set"=some (.type "set"):=by decide+kernel
theorem R9:bootBuiltins "len"=some (.builtin "len"):=by decide+kernel
theorem aD2:bootBuiltins "all"=some (.builtin "all"):=by decide+kernel
theorem aD3:bootBuiltins "abs"=some (.builtin "abs"):=by decide+kernel
theorem aD0:bootBuiltins "min"=some (.builtin "min"):=by decide+kernel
theorem aD1:bootBuiltins "max"=some (.builtin "max"):=by decide+kernel
theorem yN:bootBuiltins "isinstance"=some (.builtin "isinstance"):=by decide+kernel
theorem oK:bootBuiltins "sorted"=some (.builtin "sorted"):=by decide+kernel
def oLt:O2:=λx y mh Q=>match x with
 | .int i=>match y with | .int j=>Q (.bl (decide (i<j))) mh | _=>False
 | .str a=>match y with | .str b=>Q (.bl (decide (a.cps.toList<b.cps.toList))) mh | _=>False
 | _=>False
def D8:O2:=λx y mh Q=>match x with
 | .int i=>match y with | .int j=>Q (.bl (decide (j<i))) mh | _=>False
 | _=>False
section
variable {X:Cx}
theorem aF4(f:X.A.units+64<cLine):g7 X (compareOp .Lt) (bY X.K oLt):=by
 intro pins s σ H x y v u Q I a b q;obtain⟨μ,mh,dx,c,R,d,ix,e,q,F⟩:=q
 cases dx with
 | int i=>cases c with
  | int j=>cases b6 ix;cases b6 e;exact aEz pins s σ H _ _ v u Q I a b ⟨i,j,rfl,rfl,F.here d q .bl⟩
  | _=>exact False.elim q
 | str i=>cases c with
  | str j=>cases j4 ix;cases j4 e;exact LV pins s σ H _ _ v u Q I a b ⟨i,j,rfl,rfl,F.here d q .bl⟩
  | _=>exact False.elim q
 | _=>exact False.elim q
theorem aF5(f:X.A.units+64<cLine):g7 X (compareOp .Gt) (bY X.K D8):=by
 intro pins s σ H x y v u Q I a b q;obtain⟨μ,mh,dx,c,R,d,ix,e,q,F⟩:=q
 cases dx with
 | int i=>cases c with
  | int j=>cases b6 ix;cases b6 e;exact aF0 pins s σ H _ _ v u Q I a b ⟨i,j,rfl,rfl,F.here d q .bl⟩
  | _=>exact False.elim q
 | _=>exact False.elim q
end
variable{α:Type}
def got(o:Option α)(k:α->Prop):Prop:=match o with | some a=>k a | none=>False
@[simp] theorem aH (a:α)(k:α->Prop):got (some a) k=k a:=rfl
@[simp] theorem aG6 (k:α->Prop):got none k=False:=rfl
theorem eZ(o:Option α)(k:α->Prop):(∃a,o=some a/\k a)↔got o k:=by
 cases o <;> simp[got]
def FV:D->Option Bool | .bl b=>some b | _=>none
def asI:D->Option Int | .int i=>some i | _=>none
@[simp] theorem aJq (b:Bool):FV (.bl b)=some b:=rfl
@[simp] theorem aHd (i:Int):asI (.int i)=some i:=rfl
theorem exB(x:D)(P:Bool->Prop):(∃k,x= .bl k/\P k)=got (FV x) P:=by
 apply propext
 cases x with
 | bl b=>exact⟨λa=>by obtain⟨k,e,h⟩:=a;cases e;exact h,λh=>⟨b,rfl,h⟩⟩
 | _=>exact⟨λc=>by obtain⟨k,e,h⟩:=c;exact(by cases e),λh=>False.elim h⟩
theorem exI(x:D)(P:Int->Prop):(∃k,x= .int k/\P k)=got (asI x) P:=by
 apply propext
 cases x with
 | int b=>exact⟨λa=>by obtain⟨k,e,h⟩:=a;cases e;exact h,λh=>⟨b,rfl,h⟩⟩
 | _=>exact⟨λc=>by obtain⟨k,e,h⟩:=c;exact(by cases e),λh=>False.elim h⟩
section
variable {mh:MH}{Q:DK}{ρ:hX}
@[simp] theorem aEa (i:Nat):aB i ρ mh Q↔got ((ρ[i]?).join) λd=>Q d mh:=by
 unfold aB
 cases h:ρ[i]? with
 | none=>simp
 | some o=>cases o <;> simp
@[simp] theorem s_c (d:D):wC d ρ mh Q=(Q d mh):=rfl
@[simp] theorem aI8 (f:O2)(a b:WE):aM f a b ρ mh Q=(a ρ mh λx c=>b ρ c λy d=>f x y d Q):=rfl
@[simp] theorem s_un (f:O1)(a:WE):NX f a ρ mh Q=(a ρ mh λx b=>f x b Q):=rfl
@[simp] theorem aEd (R:List D->MH->Prop):aD ρ mh R=(R [] mh):=rfl
@[simp] theorem ZM (a:WE)(r:WA)(R:List D->MH->Prop):aA a r ρ mh R=(a ρ mh λx b=>r ρ b λxs c=>R (x::xs) c):=rfl
@[simp] theorem s_call (f:OA)(a:WA):aC f a ρ mh Q=(a ρ mh λds b=>f ds b Q):=rfl
@[simp] theorem s_tup (a:WA):cX a ρ mh Q=(a ρ mh λds b=>ds.length<=sizeLine/\Q (.tup ds) b):=rfl
@[simp] theorem s_lst (a:WA):fR a ρ mh Q=(a ρ mh λds b=>ds.length<=sizeLine/\Q (.ref b.length) (b++[.lst ds])):=rfl
@[simp] theorem aIq (a b:WE):m5 a b ρ mh Q↔a ρ mh λx d=>got (FV x) λc=>if c=true then b ρ d Q else Q (.bl false) d:=by unfold m5;simp only[exB]
@[simp] theorem aI9 (a:WE):IU a ρ mh Q↔a ρ mh λx b=>got (FV x) λc=>Q (.bl !c) b:=by unfold IU;simp only[exB]
@[simp] theorem s_if (t:WT)(a b:WE):wIf t a b ρ mh Q=(t ρ mh λc d=>if c=true then a ρ d Q else b ρ d Q):=rfl
@[simp] theorem s_sl (f:OS)(a:WE)(l h:WO):wSl f a l h ρ mh Q=(a ρ mh λx b=>l ρ b λlo c=>h ρ c λhi d=>f x lo hi d Q):=rfl
@[simp] theorem s_no (R:Option Int->MH->Prop):wNo ρ mh R=(R none mh):=rfl
@[simp] theorem aI7 (a:WE)(R:Option Int->MH->Prop):DC a ρ mh R↔a ρ mh λx b=>got (asI x) λi=>R (some i) b:=by unfold DC;simp only[exI]
@[simp] theorem s_mt (T:String)(f:OM)(a:WE)(r:WA):uA T f a r ρ mh Q=(a ρ mh λx b=>l9 b T x/\r ρ b λds c=>f x ds c Q):=rfl
@[simp] theorem s_lc (own:List Str)(aO:List Nat)(i:WI)(g:WG)(t:WT)(a:WE):rW own aO i g t a ρ mh Q=(i ρ mh λds St b=>i6 g t a (iP own aO ρ) St Q ds [] b):=rfl
variable {R:Bool->MH->Prop}
@[simp] theorem s_tst (a:WE):cU a ρ mh R↔a ρ mh λx b=>got (FV x) λk=>R k b:=by unfold cU;simp only[exB]
@[simp] theorem s_tru (a:WE):i8 a ρ mh R↔a ρ mh λx b=>got (eJ b x) λk=>R k b:=by
 unfold i8
 have:(λx b=>∃k,eJ b x=some k/\R k b)=λx b=>got (eJ b x) λk=>R k b:=by
  funext x m;exact propext (eZ _ _)
 rw[this]
@[simp] theorem aIr (t u:WT):tF t u ρ mh R=(t ρ mh λc a=>if c=true then u ρ a R else R false a):=rfl
@[simp] theorem s_orT (t u:WT):F8 t u ρ mh R=(t ρ mh λc a=>if c=true then R true a else u ρ a R):=rfl
@[simp] theorem aIa (t:WT):fU t ρ mh R=(t ρ mh λc a=>R (!c) a):=rfl
@[simp] theorem OC:iX ρ mh R=(R true mh):=rfl
variable {E:f6}
@[simp] theorem aIc:bR E ρ mh=(E.nx ρ mh):=rfl
@[simp] theorem s_seq (t u:WS):aN t u E ρ mh=(t {E with nx:=u E} ρ mh):=rfl
@[simp] theorem s_brk:Y0 E ρ mh=(E.bk ρ mh):=rfl
@[simp] theorem aIm (a:WE):eM a E ρ mh=(a ρ mh λ_ b=>E.nx ρ b):=rfl
@[simp] theorem s_ret (a:WE):bL a E ρ mh=(a ρ mh E.rt):=rfl
@[simp] theorem s_ifS (t:WT)(a b:WS):dD t a b E ρ mh=(t ρ mh λc d=>if c=true then a E ρ d else b E ρ d):=rfl
@[simp] theorem aEh (a:WE)(g:WG):bB a g E ρ mh=(a ρ mh λd b=>g d ρ λc =>E.nx c b):=rfl
@[simp] theorem aI3 (a o i:WE):DB a o i E ρ mh=(a ρ mh λd b=>o ρ b λob c=>i ρ c λix e=>T7 ob ix d e λf=>E.nx ρ f):=rfl
@[simp] theorem s_for (i:WI)(g:WG)(b:WS):lG i g b E ρ mh=(i ρ mh λds St a=>l5 g b E St ds ρ a):=rfl
@[simp] theorem aIl (i:Nat)(d:D)(P:hX->Prop):gN i d ρ P=(P (ρ.set i (some d))):=rfl
@[simp] theorem aGy (P:hX->Prop):eG [] ρ P↔P ρ:=by simp[eG]
@[simp] theorem aEg (t:WG)(u:NS)(d:D)(r:List D)(P:hX->Prop):aQ t u (d::r) ρ P↔t d ρ λc =>u r c P:=⟨λf=>by obtain⟨a,b,e,h⟩:=f;cases e;exact h,λh=>⟨d,r,rfl,h⟩⟩
@[simp] theorem s_gT (n:Nat)(u:NS)(ds:List D)(P:hX->Prop):gT n u (.tup ds) ρ P↔ds.length=n/\u ds ρ P:=by
 unfold gT;exact⟨λa=>by obtain⟨es,e,h⟩:=a;cases e;exact h,λh=>⟨ds,rfl,h⟩⟩
@[simp] theorem aI4 (a:WE)(P:List D->(MH->Prop)->MH->Prop):dG a ρ mh P↔a ρ mh λx b=>got (bC b x) λds=>P ds (λmh' =>bC mh' x=some ds) b:=by
 unfold dG
 have:(λx b=>∃ds,bC b x=some ds/\P ds (λmh' =>bC mh' x=some ds) b)=λx b=>got (bC b x) λds=>P ds (λmh' =>bC mh' x=some ds) b:=by
  funext x m;exact propext (eZ _ _)
 rw[this]
@[simp] theorem aI5 (a:WA)(P:List D->(MH->Prop)->MH->Prop):kL a ρ mh P=(a ρ mh λds b=>∃j,ds=[.int j]/\ -(2^62)<=j/\j<=sizeLine/\P (fA 0 j.toNat) (λ_=>True) b):=rfl
@[simp] theorem aI2 (a:WA)(P:List D->(MH->Prop)->MH->Prop):yY a ρ mh P↔a ρ mh λxs b=>match xs with
  | [x,y]=>got (bC b x) λds=>got (bC b y) λes=>ds.length<=sizeLine/\P (oN ds es) (λmh' =>bC mh' x=some ds/\bC mh' y=some es) b
  | _=>False:=by
 unfold yY
 have:(λxs b=>∃x y ds es,xs=[x,y]/\bC b x=some ds/\bC b y=some es/\ds.length<=sizeLine/\P (oN ds es) (λmh' =>bC mh' x=some ds/\bC mh' y=some es) b)=λxs b=>match xs with
  | [x,y]=>got (bC b x) λds=>got (bC b y) λes=>ds.length<=sizeLine/\P (oN ds es) (λmh' =>bC mh' x=some ds/\bC mh' y=some es) b
  | _=>False:=by
  funext xs m;apply propext
  match xs with
  | []=>simp
  | [_]=>simp
  | [x,y]=>
   simp only[<-eZ];constructor
   ·rintro⟨f,g,ds,es,e,c,d,h⟩;cases e;exact⟨ds,c,es,d,h⟩
   ·rintro⟨ds,c,es,d,h⟩;exact⟨x,y,ds,es,rfl,c,d,h⟩
  | _::_::_::_=>simp
 rw[this]
@[simp high] theorem aHa (b:Int)(P:Int->Prop):(∃c,[D.int b]=[D.int c]/\P c)↔P b:=⟨λa=>by obtain⟨c,e,h⟩:=a;cases e;exact h,λh=>⟨b,rfl,h⟩⟩
@[simp high] theorem aH9 (a b:Int)(P:Int->Int->Prop):(∃c d,[D.int a,D.int b]=[D.int c,D.int d]/\P c d)↔P a b:=⟨λf=>by obtain⟨c,d,e,h⟩:=f;cases e;exact h,λh=>⟨a,b,rfl,h⟩⟩
@[simp] theorem OF (C:Int->Int->Prop)(g:Int->Int->D)(i j:Int):D7 C g (.int i) (.int j) mh Q↔C i j/\Q (g i j) mh:=by
 unfold D7;exact⟨λc=>by obtain⟨a,b,e,f,h⟩:=c;cases e;cases f;exact h,λh=>⟨i,j,rfl,rfl,h⟩⟩
@[simp] theorem s_neg (i:Int):v8 (.int i) mh Q↔Q (.int (-i)) mh:=by
 unfold v8;exact⟨λb=>by obtain⟨a,e,h⟩:=b;cases e;exact h,λh=>⟨i,rfl,h⟩⟩
@[simp] theorem AZ (i j:Int):i9 (.int i) (.int j) mh Q=(Q (.int (i+j)) mh):=rfl
@[simp] theorem aIt (i j:Str):i9 (.str i) (.str j) mh Q=(i.length+j.length<=sizeLine/\Q (.str (i++j)) mh):=rfl
@[simp] theorem aIs (i j:List D):i9 (.tup i) (.tup j) mh Q=(i.length+j.length<=sizeLine/\Q (.tup (i++j)) mh):=rfl
@[simp] theorem OG (ds:List D)(i:Int):aX (.tup ds) (.int i) mh Q↔got (fY ds i) λd=>Q d mh:=by
 unfold aX;rw[<-eZ];exact⟨λb=>by obtain⟨a,e,es,d,f,g,h⟩:=b;cases e;cases f;exact⟨d,g,h⟩,λc=>by obtain⟨d,f,h⟩:=c;exact⟨i,rfl,ds,d,rfl,f,h⟩⟩
@[simp] theorem aEf (ds:List D)(i:Int):aX (.fl ds) (.int i) mh Q↔got (fY ds i) λd=>Q d mh:=by
 unfold aX;rw[<-eZ];exact⟨λb=>by obtain⟨a,e,es,d,f,g,h⟩:=b;cases e;cases f;exact⟨d,g,h⟩,λc=>by obtain⟨d,f,h⟩:=c;exact⟨i,rfl,ds,d,rfl,f,h⟩⟩
variable{n:Nat}
theorem cA(h:mh[n]? =some (.lst ds))(i:Int):aX (.ref n) (.int i) mh Q↔got (fY ds i) λd=>Q d mh:=by
 unfold aX;rw[<-eZ];have e:bC mh (.ref n)=some ds:=by simp[bC,h]
 exact⟨λb=>by obtain⟨a,j,es,d,f,k,g⟩:=b;cases j;rw[e]at f;cases f;exact⟨d,k,g⟩,λc=>by obtain⟨d,f,g⟩:=c;exact⟨i,rfl,ds,d,e,f,g⟩⟩
@[simp] theorem s_ltI (i j:Int):oLt (.int i) (.int j) mh Q=(Q (.bl (decide (i<j))) mh):=rfl
@[simp] theorem s_gtI (i j:Int):D8 (.int i) (.int j) mh Q=(Q (.bl (decide (j<i))) mh):=rfl
@[simp] theorem s_eqI (i j:Int):oEq (.int i) (.int j) mh Q↔Q (.bl (i==j)) mh:=by simp[oEq,hJ,bare,deep,eB]
@[simp] theorem s_neI (i j:Int):JK (.int i) (.int j) mh Q↔Q (.bl (!(i==j))) mh:=by simp[JK,hJ,bare,deep,eB]
@[simp] theorem s_eqB (i j:Bool):oEq (.bl i) (.bl j) mh Q↔Q (.bl (i==j)) mh:=by simp[oEq,hJ,bare,deep,eB]
@[simp] theorem s_neB (i j:Bool):JK (.bl i) (.bl j) mh Q↔Q (.bl (!(i==j))) mh:=by simp[JK,hJ,bare,deep,eB]
@[simp] theorem s_eqS (i j:Str):oEq (.str i) (.str j) mh Q↔Q (.bl (i==j)) mh:=by simp[oEq,hJ,bare,deep,eB]
@[simp] theorem YB (i j:List D):oEq (.tup i) (.tup j) mh Q↔cL i=true/\cL j=true/\bS i+1<=40/\Q (.bl (cZ i j)) mh:=by simp[oEq,hJ,bare,deep,eB]
@[simp] theorem aIb (x:D):pE x .b8 mh Q↔Q (.bl !tV x) mh:=by simp[pE]
@[simp] theorem aIk (x:D)(T:String):CU [x,.ty T] mh Q↔got (Y4 mh x) λt=>T∈bT/\Q (.bl (vL t T)) mh:=by
 unfold CU;rw[<-eZ];constructor
 ·rintro⟨f,c,t,e,a,⟨g,b,d,h⟩ | ⟨i,b,_⟩⟩
  ·cases e;cases b;exact⟨t,a,d,h⟩
  ·cases e;cases b
 ·rintro⟨t,a,d,h⟩;exact⟨x,_,t,rfl,a,.inl ⟨T,rfl,d,h⟩⟩
@[simp] theorem aIj (x:D)(T U:String):CU [x,.tup [.ty T,.ty U]] mh Q↔got (Y4 mh x) λt=>T∈bT/\U∈bT/\Q (.bl (vL t T || vL t U)) mh:=by
 unfold CU;rw[<-eZ];constructor
 ·rintro⟨k,c,t,e,d,⟨g,f,a,h⟩ | ⟨i,f,a,h⟩⟩
  ·cases e;cases f
  ·cases e;injection f with b
   match i,b with
   | [g,l],b=>
    simp at b;obtain⟨rfl,rfl⟩:=b;exact⟨t,d,a _ (by simp),a _ (by simp),by simpa using h⟩
 ·rintro⟨t,d,a,j,h⟩;exact⟨x,_,t,rfl,d,.inr ⟨[T,U],rfl,by simp[a,j],by simpa using h⟩⟩
@[simp] theorem aIg (ds:List D):fT [.tup ds] mh Q↔Q (.int ds.length) mh:=by
 unfold fT;exact⟨λb=>by obtain⟨a,e,h⟩:=b;cases e;obtain⟨es,c,h⟩:=h;cases c;exact h,λh=>⟨_,rfl,ds,rfl,h⟩⟩
@[simp] theorem aIi (ds:List D):fT [.fl ds] mh Q↔Q (.int ds.length) mh:=by
 unfold fT;exact⟨λb=>by obtain⟨a,e,h⟩:=b;cases e;obtain⟨es,c,h⟩:=h;cases c;exact h,λh=>⟨_,rfl,ds,rfl,h⟩⟩
theorem lI(h:mh[n]? =some (.lst ds)):fT [.ref n] mh Q↔Q (.int ds.length) mh:=by
 unfold fT;have e:bC mh (.ref n)=some ds:=by simp[bC,h]
 exact⟨λb=>by obtain⟨a,f,c⟩:=b;cases f;obtain⟨es,d,c⟩:=c;rw[e]at d;cases d;exact c,λc=>⟨_,rfl,ds,e,c⟩⟩
@[simp] theorem aIh (z:Str):fT [.str z] mh Q↔z.length<=sizeLine/\Q (.int z.length) mh:=by
 unfold fT;exact⟨λb=>by obtain⟨a,e,h⟩:=b;cases e;exact h,λh=>⟨_,rfl,h⟩⟩
@[simp] theorem s_abs (i:Int):SJ [.int i] mh Q↔Q (.int (if i<0 then -i else i)) mh:=by
 unfold SJ;exact⟨λb=>by obtain⟨a,e,h⟩:=b;cases e;exact h,λh=>⟨i,rfl,h⟩⟩
@[simp] theorem aIf (i j:Int):FX [.int i,.int j] mh Q↔Q (.int (if j > i then j else i)) mh:=by
 unfold FX;exact⟨λc=>by obtain⟨a,b,e,h⟩:=c;cases e;exact h,λh=>⟨i,j,rfl,h⟩⟩
@[simp] theorem aIe (i j:Int):xS [.int i,.int j] mh Q↔Q (.int (if j<i then j else i)) mh:=by
 unfold xS;exact⟨λc=>by obtain⟨a,b,e,h⟩:=c;cases e;exact h,λh=>⟨i,j,rfl,h⟩⟩
@[simp] theorem aGx (x:D):FY [x] mh Q↔got (bC mh x) λds=>Q (.ref mh.length) (mh++[.lst ds]):=by
 unfold FY;rw[<-eZ];exact⟨λb=>by obtain⟨a,ds,e,d,h⟩:=b;cases e;exact⟨ds,d,h⟩,λc=>by obtain⟨ds,d,h⟩:=c;exact⟨x,ds,rfl,d,h⟩⟩
@[simp] theorem aEb (x:D):c5 [x] mh Q↔got (bC mh x) λds=>Q (.tup ds) mh:=by
 unfold c5;rw[<-eZ];exact⟨λb=>by obtain⟨a,ds,e,d,h⟩:=b;cases e;exact⟨ds,d,h⟩,λc=>by obtain⟨ds,d,h⟩:=c;exact⟨x,ds,rfl,d,h⟩⟩
@[simp] theorem s_slT (ds:List D)(lo hi:Option Int):oSl (.tup ds) lo hi mh Q=(Q (.tup (cutD ds lo hi)) mh):=rfl
theorem aEc(h:mh[n]? =some (.lst ds))(lo hi:Option Int):oSl (.ref n) lo hi mh Q↔Q (.ref mh.length) (mh++[.lst (cutD ds lo hi)]):=by
 show (∃ds,nP mh (.ref n)=some ds/\Q (.ref mh.length) (mh++[.lst (cutD ds lo hi)]))↔_;have e:nP mh (.ref n)=some ds:=by simp[nP,h]
 exact⟨λa=>by obtain⟨es,c,b⟩:=a;rw[e]at c;cases c;exact b,λb=>⟨ds,e,b⟩⟩
theorem OD{P:MH->Prop}(h:mh[n]? =some (.lst ds))(i:Int)(d:D):T7 (.ref n) (.int i) d mh P↔got (J9 ds.length i) λj=>P (mh.set n (.lst (ds.set j d))):=by
 unfold T7;rw[<-eZ];exact⟨λa=>by obtain⟨m,es,k,j,f,g,c,l,e⟩:=a;cases f;cases g;rw[h]at c;cases c;exact⟨j,l,e⟩,λb=>by obtain⟨j,c,e⟩:=b;exact⟨n,ds,i,j,rfl,rfl,h,c,e⟩⟩
theorem dS{es:List D}(h:mh[n]? =some (.lst es))(d:D):bN (.ref n) [d] mh Q↔es.length<sizeLine/\Q .b8 (mh.set n (.lst (es++[d]))):=by
 unfold bN;exact⟨λa=>by obtain⟨m,fs,d',e,f,c,b⟩:=a;cases e;cases f;rw[h]at c;cases c;exact b,λb=>⟨n,es,d,rfl,rfl,h,b⟩⟩
theorem ZN{bs:List Bool}(h:mh[n]? =some (.lst (bs.map .bl))):SI [.ref n] mh Q↔Q (.bl (bs.all id)) mh:=by
 unfold SI;have e:nP mh (.ref n)=some (bs.map .bl):=by simp[nP,h]
 constructor
 ·rintro⟨x,c,i,g,d⟩;cases i;rw[e]at g;have j:bs.map D.bl=c.map D.bl:=aKn g;have k:bs=c :=(aNe (f:=D.bl) (λa b e=>by injection e)).mp j;subst k;exact d
 ·intro d;exact⟨_,bs,rfl,e,d⟩
@[simp] theorem atI0 (d:D)(ds:List D):fY (d::ds) 0=some d:=by
 have:=bZ (xs:=d::ds) (j:=0) (v:=d) rfl;simpa using this
theorem aJ(mh:MH)(o:MO):(mh++[o])[mh.length]? =some o:=by simp
end
variable{n:Nat}{d:D}
theorem bU(h:R d mh):Out n d mh R:= .inl h
theorem v5{mh a:MH}(ok:fZ mh)(b:bX mh.length d=true)(h:R d mh):Out mh.length d (mh++a) R:= .inr (.inl ⟨mh,a,rfl,aK6 _,ok,b,h⟩)
theorem LU{mh a:MH}(c:n<=mh.length)(ok:fZ mh)(b:bX mh.length d=true)(h:R d mh):Out n d (mh++a) R:= .inr (.inl ⟨mh,a,rfl,c,ok,b,h⟩)
def lx:List Int->List Int->Bool
 | [],[]=>false
 | [],_::_=>true
 | _::_,[]=>false
 | a::as,b::bs=>if a<b then true else if b<a then false else lx as bs
theorem uQ:∀x y:List Int,lx x y=true->lx y x=false
 | [],[],h=>by simp[lx]at h
 | [],_::_,h=>by simp[lx]
 | _::_,[],h=>by simp[lx]at h
 | a::as,b::bs,h=>by
  simp only[lx]at h⊢;by_cases c:a<b
  ·rw[if_neg (by lia),if_pos c]
  ·rw[if_neg c]at h;by_cases d:b<a
   ·rw[if_pos d]at h;cases h
   ·rw[if_neg d]at h⊢;rw[if_neg c];exact uQ as bs h
theorem QA:∀x y z:List Int,lx y x=false->lx z y=false->lx z x=false
 | [],y,z,h1,h2=>by
  cases z with
  | nil=>rfl
  | cons _ _=>rfl
 | a::as,[],z,h1,h2=>by simp[lx]at h1
 | a::as,b::bs,[],h1,h2=>by simp[lx]at h2
 | a::as,b::bs,c::cs,h1,h2=>by
  simp only[lx]at h1 h2⊢;by_cases d:b<a
  ·rw[if_pos d]at h1;cases h1
  ·rw[if_neg d]at h1;by_cases e:c<b
   ·rw[if_pos e]at h2;cases h2
   ·rw[if_neg e]at h2;rw[if_neg (by lia)];by_cases f:a<c
    ·rw[if_pos f]
    ·rw[if_neg f];rw[if_neg (by lia)]at h1 h2;exact QA as bs cs h1 h2
def bW:D->List Int
 | .int i=>[i]
 | .str z=>z.cps.toList.map (λ(c:Nat)=>(c:Int))++[-1]
 | _=>[]
def enc:D->List Int
 | .tup ds=>ds.flatMap bW
 | d=>bW d
theorem sF:∀a b:List Nat,lx (a.map (λ(c:Nat)=>(c:Int))++[-1]) (b.map (λ(c:Nat)=>(c:Int))++[-1])=decide (a<b)
 | [],[]=>by simp[lx]
 | [],b::bs=>by
  have:(-1:Int)<(b:Int):=by lia
  simp[lx,this]
 | a::as,[]=>by
  have d:¬((a:Int) < -1):=by lia
  have f:(-1:Int)<(a:Int):=by lia
  simp[lx,d,f]
 | a::as,b::bs=>by
  have g:=sF as bs;simp only[List.map_cons,List.cons_append,lx,g];by_cases d:a<b
  ·rw[if_pos (by lia)];exact(decide_eq_true (List.cons_lt_cons_iff.mpr (.inl d))).symm
  ·rw[if_neg (by lia)];by_cases f:b<a
   ·rw[if_pos (by lia)];exact(aLg (λq=>by rcases List.cons_lt_cons_iff.mp q with q | q <;> lia)).symm
   ·rw[if_neg (by lia)];have e:a=b:=by lia
    subst e;rw[Bool.eq_iff_iff,decide_eq_true_iff,decide_eq_true_iff,List.cons_lt_cons_iff];simp
inductive Sc where | i | s
def b7:Sc->D->Bool
 | .i,.int _=>true
 | .s,.str _=>true
 | _,_=>false
def aU:List Sc->List D->Bool
 | [],[]=>true
 | c::cs,d::ds=>b7 c d && aU cs ds
 | _,_=>false
theorem rC(x:List Int):∀r b :List Int,lx (x++r) (x++b)=lx r b :=by
 induction x with
 | nil=>intro r b;rfl
 | cons a as ih=>intro r b;simp[lx,ih]
theorem map_inj:∀a b:List Nat,a.map (λ(c:Nat)=>(c:Int))++[-1]=b.map (λ(c:Nat)=>(c:Int))++[-1]->a=b
 | [],[],_=>rfl
 | [],b::bs,h=>by simp at h
 | a::as,[],h=>by simp at h
 | a::as,b::bs,h=>by
  simp only[List.map_cons,List.cons_append,List.cons.injEq]at h;have d:a=b:=by lia
  rw[d,map_inj as bs h.2]
theorem JB{a b:Str}(h:a.cps.toList=b.cps.toList):a=b:=by
 cases a;cases b;simp at h;simp[h]
theorem KU{c:Sc}{d e:D}(a:b7 c d=true)(b:b7 c e=true)(h:bW d=bW e):d=e:=by
 cases c <;> cases d <;> simp[b7]at a <;> cases e <;> simp[b7]at b
 ·simp[bW]at h;rw[h]
 ·simp only[bW]at h;rw[JB (map_inj _ _ h)]
theorem tS:∀(a b:List Nat) (r d :List Int),a≠b->lx ((a.map (λ(c:Nat)=>(c:Int))++[-1])++r) ((b.map (λ(c:Nat)=>(c:Int))++[-1])++d)=lx (a.map (λ(c:Nat)=>(c:Int))++[-1]) (b.map (λ(c:Nat)=>(c:Int))++[-1])
 | [],[],_,_,h=>absurd rfl h
 | [],b::bs,r,d,_=>by
  have:(-1:Int)<(b:Int):=by lia
  simp[lx,this]
 | a::as,[],r,d,_=>by
  have f:¬((a:Int) < -1):=by lia
  have g:(-1:Int)<(a:Int):=by lia
  simp[lx,f,g]
 | a::as,b::bs,r,d,h=>by
  simp only[List.map_cons,List.cons_append,lx];by_cases f:(a:Int)<b
  ·simp[f]
  ·by_cases g:(b:Int)<a
   ·simp[f,g]
   ·have e:a=b:=by lia
    subst e;simp only[f,g,if_false];exact tS as bs r d λq=>h (by rw[q])
theorem iL{c:Sc}{d e:D}(f:b7 c d=true)(k:b7 c e=true)(h:d≠e)(r g :List Int):lx (bW d++r) (bW e++g)=lx (bW d) (bW e):=by
 cases c <;> cases d <;> simp[b7]at f <;> cases e <;> simp[b7]at k
 ·rename_i i j;have:i≠j:=λq=>h (by rw[q]);simp only[bW,List.cons_append,List.nil_append,lx];by_cases f:i<j
  ·simp[f]
  ·have:j<i:=by lia
   simp[f,this]
 ·rename_i a b;simp only[bW];exact tS _ _ r g λq=>h (by rw[JB q])
theorem RT{c:Sc}{d e:D}(a:b7 c d=true)(b:b7 c e=true):eB d e=true↔d=e:=by
 cases c <;> cases d <;> simp[b7]at a <;> cases e <;> simp[b7]at b
 ·simp[eB]
 ·simp[eB]
mutual
theorem F9{h:Heap}:∀{d e:D} {u:Value},Vl h d u->Vl h e u->d=e
 | .b8,e,u,p,q=>by
  unfold Vl at p;subst p
  cases e <;> unfold Vl at q <;> first | rfl | (cases q;done) | (obtain⟨_,q⟩:=q;cases q;done) | (obtain⟨_,_,q,_⟩:=q;cases q;done)
 | .bl a,e,u,p,q=>by
  unfold Vl at p;subst p
  cases e <;> unfold Vl at q <;> first | (cases q;rfl) | (cases q;done) | (obtain⟨_,q⟩:=q;cases q;done) | (obtain⟨_,_,q,_⟩:=q;cases q;done)
 | .int a,e,u,p,q=>by
  unfold Vl at p;obtain⟨t,rfl⟩:=p
  cases e <;> unfold Vl at q <;> first | (cases q;done) | (obtain⟨_,q⟩:=q;cases q;rfl) | (obtain⟨_,q⟩:=q;cases q;done) | (obtain⟨_,_,q,_⟩:=q;cases q;done)
 | .str a,e,u,p,q=>by
  unfold Vl at p;obtain⟨t,rfl⟩:=p
  cases e <;> unfold Vl at q <;> first | (cases q;done) | (obtain⟨_,q⟩:=q;cases q;rfl) | (obtain⟨_,q⟩:=q;cases q;done) | (obtain⟨_,_,q,_⟩:=q;cases q;done)
 | .ty _,e,u,p,q=>by unfold Vl at p;exact p.elim
 | .ref _,e,u,p,q=>by unfold Vl at p;exact p.elim
 | .tup as,e,u,p,q=>by
  unfold Vl at p;obtain⟨a,us,rfl,ht,l⟩:=p
  cases e with
  | tup bs=>
   unfold Vl at q;obtain⟨b,f,e,c,g⟩:=q;cases e;obtain⟨o,k,_,n,m⟩:=ht;obtain⟨v,i,_,w,j⟩:=c;rw[k]at i;cases i;rw[m]at j;injection j with r;have s:us=f:=by simpa using aL4 Array.toList r
   subst s;rw[AR l g]
  | fl bs=>
   unfold Vl at q;obtain⟨b,f,e,c,g⟩:=q;cases e;exact(uO c ht).elim
  | _=>unfold Vl at q;first | (cases q;done) | (obtain⟨_,q⟩:=q;cases q;done)
 | .fl as,e,u,p,q=>by
  unfold Vl at p;obtain⟨a,us,rfl,ht,l⟩:=p
  cases e with
  | fl bs=>
   unfold Vl at q;obtain⟨b,f,e,c,g⟩:=q;cases e;obtain⟨o,k,_,n,m⟩:=ht;obtain⟨v,i,_,w,j⟩:=c;rw[k]at i;cases i;rw[m]at j;injection j with r;have s:us=f:=by simpa using aL4 Array.toList r
   subst s;rw[AR l g]
  | tup bs=>
   unfold Vl at q;obtain⟨b,f,e,c,g⟩:=q;cases e;exact(uO ht c).elim
  | _=>unfold Vl at q;first | (cases q;done) | (obtain⟨_,q⟩:=q;cases q;done)
theorem AR{h:Heap}:∀{ds es:List D} {us:List Value},cM h ds us->cM h es us->ds=es
 | [],es,us,p,q=>by unfold cM at p;subst p;cases es with | nil=>rfl | cons=>unfold cM at q;obtain⟨_,_,e,_⟩:=q;cases e
 | d::ds,es,us,p,q=>by
  unfold cM at p;obtain⟨u,r,rfl,i,l⟩:=p
  cases es with
  | nil=>unfold cM at q;cases q
  | cons e es=>
   unfold cM at q;obtain⟨f,g,a,b,c⟩:=q;cases a;rw[F9 i b,AR l c]
end
mutual
theorem Vl.keep{h h' :Heap}(k:∀b o,h.get? b=some o->h'.get? b=some o):∀(d:D) (u:Value),Vl h d u->Vl h' d u
 | .b8,u,q=>by unfold Vl at*;exact q
 | .bl _,u,q=>by unfold Vl at*;exact q
 | .int _,u,q=>by unfold Vl at*;exact q
 | .str _,u,q=>by unfold Vl at*;exact q
 | .ty _,u,q=>by unfold Vl at*;exact q
 | .ref _,u,q=>by unfold Vl at*;exact q
 | .tup ds,u,q=>by
  unfold Vl at*;obtain⟨a,us,e,⟨o,c,f⟩,l⟩:=q;exact⟨a,us,e,⟨o,k _ _ c,f⟩,cM.keep k ds us l⟩
 | .fl ds,u,q=>by
  unfold Vl at*;obtain⟨a,us,e,⟨o,c,f⟩,l⟩:=q;exact⟨a,us,e,⟨o,k _ _ c,f⟩,cM.keep k ds us l⟩
theorem cM.keep{h h' :Heap}(k:∀b o,h.get? b=some o->h'.get? b=some o):∀(ds:List D) (us:List Value),cM h ds us->cM h' ds us
 | [],us,q=>by unfold cM at*;exact q
 | d::ds,us,q=>by
  unfold cM at*;obtain⟨u,r,e,i,l⟩:=q;exact⟨u,r,e,Vl.keep k d u i,cM.keep k ds r l⟩
end
def FZ(ds:List D):Prop:=(∃c,∀d∈ds,b7 c d=true)\/∃c cs,∀d∈ds,∃es,d= .tup es/\aU (c::cs) es=true
open Classical in
noncomputable def dv(h:Heap)(u:Value):D:=if q:∃d,Vl h d u then q.choose else .b8
theorem jT{u:Value}(p:Vl h d u):dv h u=d:=by
 unfold dv;rw[dif_pos ⟨d,p⟩];exact F9 (Exists.choose_spec (⟨d,p⟩:∃d,Vl h d u)) p
noncomputable def ltV(h:Heap)(x y:Keyed):Bool:=lx (enc (dv h x.1)) (enc (dv h y.1))
theorem G2(h:Heap):TS.Wk (ltV h):=⟨λx y=>uQ _ _,λx y z=>QA _ _ _⟩
theorem jM{h:Heap}:∀{ds:List D} {us:List Value},cM h ds us->∀u∈us,∃d∈ds,Vl h d u
 | [],us,q,u,hu=>by unfold cM at q;subst q;cases hu
 | d::ds,us,q,u,hu=>by
  unfold cM at q;obtain⟨w,r,rfl,i,l⟩:=q;rcases aKd.mp hu with rfl | hu
  ·exact⟨d,aK7,i⟩
  ·obtain⟨e,he,p⟩:=jM l u hu;exact⟨e,aK8 _ he,p⟩
open PySem.W in
theorem zO{prog:Program}{w:World}{A:Around}{Q:Bool->Shared->Prop}{s:Shared}(n:A.units+32<cLine):∀(cs:List Sc) (as bs:List D) (us vs:List Value) (i:Nat) (b:Bool),(b=true->i=0->True)->aU cs as=true->aU cs bs=true->cM s.heap as us->cM s.heap bs vs->
  Q (lx (as.flatMap bW) (bs.flatMap bW)) s->KatLex prog w A b false Q (us.zip vs) i s
 | [],[],[],us,vs,i,b,_,_,_,f,g,q=>by unfold cM at f g;subst f g;exact kat_nil q
 | [],[],_::_,_,_,_,_,_,_,h2,_,_,_=>by simp[aU]at h2
 | [],_::_,_,_,_,_,_,_,h1,_,_,_,_=>by simp[aU]at h1
 | _::_,[],_,_,_,_,_,_,h1,_,_,_,_=>by simp[aU]at h1
 | _::_,_::_,[],_,_,_,_,_,_,h2,_,_,_=>by simp[aU]at h2
 | c::cs,a::as,d::bs,us,vs,i,b,hb,h1,h2,f,g,q=>by
  unfold cM at f g;obtain⟨u,o,rfl,h,f⟩:=f;obtain⟨v,p,rfl,j,g⟩:=g;simp only[aU,Bool.and_eq_true]at h1 h2;rw[List.zip_cons_cons];have r:deep a<=0:=by cases c <;> cases a <;> simp[b7]at h1 <;> simp[deep]
  refine kat_cons (j5 (s:=s) 0 r (by lia) h j prog w _ _ ?_);simp only[List.flatMap_cons]at q;refine kat_go (λe=>kat_yes ?_) (λe=>kat_no ?_)
  ·have l:a=d:=(RT h1.1 h2.1).mp e;subst l;rw[rC]at q;exact zO n cs as bs o p (i+1) b (λ_ _=>trivial) h1.2 h2.2 f g q
  ·have m:a≠d:=λz=>by rw[(RT h1.1 h2.1).mpr z]at e;cases e
   rw[iL h1.1 h2.1 m]at q
   cases c with
   | i=>
    cases a <;> simp[b7]at h1;cases d <;> simp[b7]at h2;rename_i x y;unfold Vl at h j;obtain⟨t,rfl⟩:=h;obtain⟨B,rfl⟩:=j
    have q' :Q (decide (x<y)) s:=by
     have:lx (bW (.int x)) (bW (.int y))=decide (x<y):=by
      simp only[bW,lx];by_cases k:x<y
      ·simp[k]
      ·simp[k]
     rw[<-this];exact q
    cases hbi:(b && i==0) with
    | true=>exact oneLt_int q'
    | false=>exact kat_one _ _ (lt_int q')
   | s=>
    cases a <;> simp[b7]at h1;cases d <;> simp[b7]at h2;rename_i x y;unfold Vl at h j;obtain⟨t,rfl⟩:=h;obtain⟨B,rfl⟩:=j
    have q' :Q (decide (x.cps.toList<y.cps.toList)) s:=by
     have:lx (bW (.str x)) (bW (.str y))=decide (x.cps.toList<y.cps.toList):=sF _ _;rw[<-this];exact q
    cases hbi:(b && i==0) with
    | true=>exact oneLt_str q'
    | false=>exact kat_one _ _ (lt_str q')
def scT:Sc->String | .i=>"int" | .s=>"str"
section
variable {prog:Program}{w:World}{A:Around}
theorem sL:∀{cs:List Sc} {ds:List D},aU cs ds=true->ds.length=cs.length
 | [],[],_=>rfl
 | [],_::_,h=>by simp[aU]at h
 | _::_,[],h=>by simp[aU]at h
 | c::cs,d::ds,h=>by simp only[aU,Bool.and_eq_true]at h;simp[sL h.2]
theorem iQ{vs:List Value}{x:Keyed}(h:x∈(pairsOf vs).toList):x=(x.1,x.1)/\x.1∈vs:=by
 rw[pairsOf_toList]at h
 induction vs with
 | nil=>simp at h
 | cons v r ih=>
  rw[List.zip_cons_cons]at h;rcases aKd.mp h with e | e
  ·rw[e];exact⟨rfl,aK7⟩
  ·obtain⟨a,b⟩:=ih e;exact⟨a,aK8 _ b⟩
theorem vP{s:Shared}{vs:List Value}(hu:A.units+40<cLine)(U:FZ ds)(l:cM s.heap ds vs)(P:2<=vs.length):
  ∃κ,∀h' :Heap,(∀b o,s.heap.get? b=some o->h'.get? b=some o)->TS.F7 prog w A {s with heap:=h'} κ (ltV s.heap) (pairsOf vs)/\
   ∀B E,B κ {s with heap:=h'}->wpAny (model prog w) A (keyKind' vs.toArray) B E {s with heap:=h'}:=by
 rcases U with ⟨c,f⟩ | ⟨c,cs,f⟩
 ·refine⟨oneType',λh' k=>⟨λx y hx F Q q=>?_,λB E q=>?_⟩⟩
  ·obtain⟨_,G⟩:=iQ hx;obtain⟨_,H⟩:=iQ F;obtain⟨d,g,dp⟩:=jM l _ G;obtain⟨e,em,ep⟩:=jM l _ H
   have q' :Q (lx (enc d) (enc e)) {s with heap:=h'}:=by
    have:ltV s.heap x y=lx (enc d) (enc e):=by unfold ltV;rw[jT dp,jT ep]
    rw[<-this];exact q
   have hd:=f d g;have he:=f e em;obtain⟨x1,X⟩:=x;obtain⟨R,Y⟩:=y
   cases c with
   | i=>
    cases d <;> simp[b7]at hd;cases e <;> simp[b7]at he;rename_i i j;unfold Vl at dp ep;obtain⟨h,rfl⟩:=dp;obtain⟨Z,rfl⟩:=ep;refine PySem.W.kat_lt_int ?_
    have:lx (enc (.int i)) (enc (.int j))=decide (i<j):=by
     simp only[enc,bW,lx];by_cases m:i<j
     ·simp[m]
     ·simp[m]
    rw[<-this];exact q'
   | s=>
    cases d <;> simp[b7]at hd;cases e <;> simp[b7]at he;rename_i i j;unfold Vl at dp ep;obtain⟨h,rfl⟩:=dp;obtain⟨Z,rfl⟩:=ep;refine PySem.W.kas_lt_str ?_;have:lx (enc (.str i)) (enc (.str j))=decide (i.cps.toList<j.cps.toList):=sF _ _;rw[<-this];exact q'
  ·have ty:∀v∈vs,PySem.W.Looks (model prog w) h' (typeOf v) (.type (scT c)):=λv hv=>by
    obtain⟨d,g,dp⟩:=jM l _ hv;have hd:=f d g
    cases c with
    | i=>cases d <;> simp[b7]at hd;unfold Vl at dp;obtain⟨h,rfl⟩:=dp;exact aLr rfl
    | s=>cases d <;> simp[b7]at hd;unfold Vl at dp;obtain⟨h,rfl⟩:=dp;exact aLr rfl
   exact PySem.W.kas_kind (s:={s with heap:=h'}) P ty (by cases c <;> rfl) (by cases c <;> rfl) q
 ·refine⟨tuples' true,λh' k=>⟨λx y hx F Q q=>?_,λB E q=>?_⟩⟩
  ·obtain⟨_,G⟩:=iQ hx;obtain⟨_,H⟩:=iQ F;obtain⟨d,g,dp⟩:=jM l _ G;obtain⟨e,em,ep⟩:=jM l _ H
   have q' :Q (lx (enc d) (enc e)) {s with heap:=h'}:=by
    have:ltV s.heap x y=lx (enc d) (enc e):=by unfold ltV;rw[jT dp,jT ep]
    rw[<-this];exact q
   obtain⟨as,rfl,ha⟩:=f d g;obtain⟨bs,rfl,S⟩:=f e em;obtain⟨x1,X⟩:=x;obtain⟨R,Y⟩:=y;unfold Vl at dp ep;obtain⟨a,us,ea,⟨o,ho,t,n,hd⟩,z⟩:=dp;obtain⟨b,I,eb,⟨o2,J,T,n2,K⟩,lw⟩:=ep;have L :x1=Value.ref a:=ea;have M :R=Value.ref b:=eb;subst L M;refine PySem.W.kat_lt (s:={s with heap:=h'}) (k _ _ ho) hd (k _ _ J) K ?_;have z1:=bF z;have z2:=bF lw;have z3:=sL ha;have z4:=sL S;have zz:decide (us.toArray.size<I.toArray.size)=false:=aLg (by simp only[List.size_toArray];lia);rw[zz];exact zO (s:={s with heap:=h'}) (by lia) (c::cs) as bs us I 0 true (λ_ _=>trivial) ha S (cM.keep k as us z) (cM.keep k bs I lw) q'
  ·have fs:∃fs:List Value,PySem.W.KatTups h' vs fs/\fs.length=vs.length/\∀v∈fs,PySem.W.Looks (model prog w) h' (typeOf v) (.type (scT c)):=by
    clear q P
    have go:∀(ds:List D) (vs:List Value),(∀d∈ds,∃es,d= .tup es/\aU (c::cs) es=true)->cM s.heap ds vs->∃fs:List Value,PySem.W.KatTups h' vs fs/\fs.length=vs.length/\∀v∈fs,PySem.W.Looks (model prog w) h' (typeOf v) (.type (scT c)):=by
     intro ds
     induction ds with
     | nil=>intro vs _ l;unfold cM at l;subst l;exact⟨[],PySem.W.KatTups.nil,rfl,λv hv=>by cases hv⟩
     | cons d r ih=>
      intro vs f l;unfold cM at l;obtain⟨u,ur,rfl,p,l⟩:=l;obtain⟨fs,N,V,O⟩:=ih ur (λe he=>f e (aK8 _ he)) l;obtain⟨es,rfl,he⟩:=f d aK7;unfold Vl at p;obtain⟨a,us,rfl,⟨o,ho,t,n,hd⟩,z⟩:=p
      cases es with
      | nil=>simp[aU]at he
      | cons e0 er=>
       unfold cM at z;obtain⟨u0,u1,rfl,C,_⟩:=z;simp only[aU,Bool.and_eq_true]at he;refine⟨u0::fs,PySem.W.KatTups.cons (k _ _ ho) t hd (by simp) N,by simp[V],λv hv=>?_⟩;rcases aKd.mp hv with rfl | hv
       ·cases c with
        | i=>cases e0 <;> simp[b7]at he;unfold Vl at C;obtain⟨h,rfl⟩:=C;exact aLr rfl
        | s=>cases e0 <;> simp[b7]at he;unfold Vl at C;obtain⟨h,rfl⟩:=C;exact aLr rfl
       ·exact O v hv
    exact go ds vs f l
   obtain⟨fs,N,V,O⟩:=fs;refine PySem.W.kat_kind (s:={s with heap:=h'}) N (by lia) O (by cases c <;> rfl) ?_;have:(Value.type (scT c) !=Value.type "tuple")=true:=by cases c <;> rfl
   rw[this];exact q
end
theorem nN{α c:Type}(f:α->c):∀{l:List c} {m:List c},l.Perm m->∀t:List α,m=t.map f->∃t' :List α,t'.Perm t/\t'.map f=l:=by
 intro l m h
 induction h with
 | nil=>intro t e;cases t <;> simp at e;exact⟨[],.refl _,rfl⟩
 | cons x _ ih=>
  intro t e
  cases t with
  | nil=>simp at e
  | cons a r=>
   simp at e;obtain⟨t',p,q⟩:=ih r e.2;exact⟨a::t',p.cons a,by simp[q,e.1]⟩
 | swap x y l=>
  intro t e
  match t,e with
  | [],e=>simp at e
  | [_],e=>simp at e
  | a::b::r,e=>
   simp at e;exact⟨b::a::r,.swap _ _ _,by simp[e]⟩
 | trans _ _ ih1 ih2=>
  intro t e;obtain⟨d,g,i⟩:=ih2 t e;obtain⟨j,k,n⟩:=ih1 d i.symm;exact⟨j,k.trans g,n⟩
def eD:OA:=λxs mh Q=>∃x ds,xs=[x]/\nP mh x=some ds/\ds.length<64/\FZ ds/\
 ∀a,a.Perm ds->a.Pairwise (λd e=>lx (enc e) (enc d)=false)->Q (.ref mh.length) (mh++[.lst a])
theorem oM(U:FZ ds):cL ds=true:=by
 have sc:∀{cs:List Sc} {es:List D},aU cs es=true->cL es=true:=λ{cs}=>by
  induction cs with
  | nil=>intro es h;cases es with | nil=>rfl | cons=>simp[aU]at h
  | cons c cs ih=>
   intro es h
   cases es with
   | nil=>simp[aU]at h
   | cons e es=>
    simp only[aU,Bool.and_eq_true]at h;simp only[cL,ih h.2,Bool.and_true];cases c <;> cases e <;> simp[b7]at h <;> rfl
 rcases U with ⟨c,a⟩ | ⟨c,cs,a⟩
 ·induction ds with
  | nil=>rfl
  | cons d r ih=>
   have hd:=a d aK7;simp only[cL,ih λe he=>a e (List.mem_cons_of_mem _ he),Bool.and_true];cases c <;> cases d <;> simp[b7]at hd <;> rfl
 ·induction ds with
  | nil=>rfl
  | cons d r ih=>
   obtain⟨es,rfl,he⟩:=a d aK7;simp only[cL,ih λe he=>a e (List.mem_cons_of_mem _ he),Bool.and_true];simpa[bare] using sc he
structure Tri where
 d:D
 v:V
 u:Value
theorem TV{K:aNq}{μ:List Addr}{H:Hp}{h:Heap}:∀{ds:List D} {vs:List V} {us:List Value},IsL K μ H ds vs->Vals vs us->cM h ds us->∃g:List Tri,g.map (·.d)=ds/\g.map (·.v)=vs/\g.map (·.u)=us/\∀t∈g,Is K μ H t.d t.v/\RelV t.v t.u/\Vl h t.d t.u
 | [],vs,us,l,r,q=>by unfold IsL at l;subst l;cases r;exact⟨[],rfl,rfl,rfl,λt ht=>by cases ht⟩
 | d::ds,vs,us,l,r,q=>by
  unfold IsL at l;obtain⟨v,x,rfl,i,l⟩:=l
  cases r with
  | @cons _ j _ k m n=>
   unfold cM at q;obtain⟨w,y,e,p,q⟩:=q;injection e with o s;subst o s;obtain⟨g,a,b,c,f⟩:=TV l n q
   exact⟨⟨d,v,j⟩::g,by simp[a],by simp[b],by simp[c],λt ht=>by
    rcases aKd.mp ht with rfl | ht
    ·exact⟨i,m,p⟩
    ·exact f t ht⟩
theorem uU{K:aNq}{μ:List Addr}{H:Hp}:∀{a:List Tri},(∀t∈a,Is K μ H t.d t.v)->IsL K μ H (a.map (·.d)) (a.map (·.v))
 | [],_=>by simp[IsL]
 | t::a,h=>by
  simp only[List.map_cons];unfold IsL;exact⟨_,_,rfl,h t aK7,uU λx hx=>h x (aK8 _ hx)⟩
theorem qL:∀{a:List Tri},(∀t∈a,RelV t.v t.u)->Vals (a.map (·.v)) (a.map (·.u))
 | [],_=>.nil
 | t::a,h=>.cons (h t aK7) (qL λx hx=>h x (aK8 _ hx))
section
variable {X:Cx}
theorem ND(hu:X.A.units+64<cLine):cD X (.builtin "sorted") (eF X.K eD):=by
 intro pins s σ H xs us Q I r q;obtain⟨μ,mh,ds,R,n,G,⟨x,es,rfl,e,J,U,q⟩,F⟩:=q;obtain⟨v,rfl,L⟩:=fX G;obtain⟨a,vs,rfl,sq,l⟩:=sG n L e;obtain⟨u,rfl,M⟩:=vals1 r;cases M;obtain⟨aL,p,N,hz⟩:=I.list sq;have g:=jZ I es (oM U) l p;have y:aL.length=es.length:=bF g;have O:X.A.in1.in1.units+40<cLine:=by show X.A.units+1+1+40<_;lia
 have ask:∃κ,2<=aL.length->∀h' :Heap,(∀b o,s.heap.get? b=some o->h'.get? b=some o)->TS.F7 X.prog X.w X.A.in1.in1 {s with heap:=h'} κ (ltV s.heap) (pairsOf aL)/\
   ∀B P,B κ {s with heap:=h'}->wpAny (model X.prog X.w) X.A.in1.in1 (keyKind' aL.toArray) B P {s with heap:=h'}:=by
  by_cases C:2<=aL.length
  ·obtain⟨κ,S⟩:=vP (prog:=X.prog) (w:=X.w) (A:=X.A.in1.in1) O U g C;exact⟨κ,λ_=>S⟩
  ·exact⟨general',λz=>absurd z C⟩
 obtain⟨κ,ask⟩:=ask;refine TS.DM (κ:=κ) (G2 s.heap) N.isList (by lia) ask λout D h=>?_;obtain⟨T,V,W,Y,Z⟩:=TV l p g;rw[<-Y]at D;obtain⟨c,i,E⟩:=nN (·.u) D T rfl;have f:∀t∈c,Is X.K μ H t.d t.v/\RelV t.v t.u/\Vl s.heap t.d t.u:=λt ht=>Z t (i.mem_iff.mp ht);have pd:(c.map (·.d)).Perm es:=by rw[<-V];exact i.map _
 have pw:(c.map (·.d)).Pairwise (λd e=>lx (enc e) (enc d)=false):=by
  rw[<-E]at h;rw[List.pairwise_map]at h⊢;refine h.imp_of_mem λ{t t'} m m' j=>?_;have e1:dv s.heap t.u=t.d:=jT (f t m).2.2;have e2:dv s.heap t'.u=t'.d:=jT (f t' m').2.2;unfold ltV at j;rw[e1,e2]at j;exact j
 obtain⟨ep,he⟩:=sortedAll_at s.heap aL out.toArray
 have ln:(c.map (·.v)).length<=sizeLine:=by
  have:=i.length_eq;have k :=aL4 List.length W;simp at k ⊢
  lia
 have I1:Inv X pins σ (upd H (s.heap.objs.size+1) (.lst (c.map (·.v)))) {s with heap:=sortedAll s.heap aL out.toArray}:=
  I.laid (t' :=s.toks) (λb o hb=>sortedAll_old hb) (aN6 _) ⟨ln,out,ep,by rw[<-E];exact qL λt ht=>(f t ht).2.1,he⟩
 exact⟨.ref (s.heap.objs.size+1),_,I1,rfl,iN n F (uU λt ht=>(f t ht).1) (q _ pd pw) _ (I.cI.fresh (aN6 _))⟩
end
theorem cH{g:WG}{b:WS}{E:f6}{St:MH->Prop}(e:Nat->hX->MH->Prop)(ds:List D)(f:∀i a mh,e i a mh->St mh)
  (hs:∀i d a mh (N:hX->MH->Prop),ds[i]? =some d->e i a mh->(∀c mh',e (i+1) c mh' ->N c mh')->g d a λj=>b {E with nx:=N,ct:=N,bk:=E.nx} j mh)
  (hd:∀a mh,e ds.length a mh->E.nx a mh) {a:hX}  (h0:e 0 a mh):l5 g b E St ds a mh:=by
 have go:∀(k i:Nat),i+k=ds.length->∀a mh,e i a mh->l5 g b E St (ds.drop i) a mh:=by
  intro k
  induction k with
  | zero=>
   intro i hi a mh p;have:i=ds.length:=by lia
   subst this;rw[List.drop_of_length_le (Nat.le_refl _)];exact⟨f _ _ _ p,hd a mh p⟩
  | succ k ih=>
   intro i hi a mh p;have h:i<ds.length:=by lia
   rw[List.drop_eq_getElem_cons h];exact⟨f _ _ _ p,hs i ds[i] a mh _ (by simp[h]) p λc mh' l =>ih (i+1) (by lia) c mh' l⟩
 have:=go ds.length 0 (by simp) a mh h0;simpa using this
theorem kS{g:WG}{t:WT}{w:WE}{ρe:hX}{St:MH->Prop}{Q:DK}(e:Nat->List D->MH->Prop)(ds:List D)(f:∀i a mh,e i a mh->St mh)
  (hs:∀i d a mh (N:List D->MH->Prop),ds[i]? =some d->e i a mh->(∀c mh',e (i+1) c mh' ->N c mh')->g d ρe λh=>t h mh λb j=>if b=true then w h j λy m=>N (a++[y]) m else N a j)
  (hd:∀a mh,e ds.length a mh->Q (.ref mh.length) (mh++[.lst a]))  (h0:e 0 [] mh):i6 g t w ρe St Q ds [] mh:=by
 have go:∀(k i:Nat),i+k=ds.length->∀a mh,e i a mh->i6 g t w ρe St Q (ds.drop i) a mh:=by
  intro k
  induction k with
  | zero=>
   intro i hi a mh p;have:i=ds.length:=by lia
   subst this;rw[List.drop_of_length_le (Nat.le_refl _)];exact⟨f _ _ _ p,hd a mh p⟩
  | succ k ih=>
   intro i hi a mh p;have l:i<ds.length:=by lia
   rw[List.drop_eq_getElem_cons l];exact⟨f _ _ _ p,hs i ds[i] a mh (λc mh' =>i6 g t w ρe St Q (ds.drop (i+1)) c mh') (by simp[l]) p λc mh' n =>ih (i+1) (by lia) c mh' n⟩
 have:=go ds.length 0 (by simp) [] mh h0;simpa using this
theorem jO{lo:Int}{n i:Nat}(h:(fA lo n)[i]? =some d):i<n/\d= .int (lo+i):=by
 simp only[fA,List.getElem?_map]at h;obtain⟨k,a,rfl⟩:=aL0.mp h;obtain⟨hi,rfl⟩:=aK5.mp a;simp at hi;exact⟨hi,by simp⟩
@[simp] theorem aH3 (lo:Int)(n:Nat):(fA lo n).length=n:=by simp[fA]
def C1(mh:MH)(b:Nat):Prop:=∃c m:Int,mh[b]? =some (.lst [.int c,.int m])/\0<=c/\0<=m/\m<2147483629
variable{b:Nat}
theorem C1.lt(h:C1 mh b):b<mh.length:=let ⟨_,_,e,_⟩:=h;(aK5.mp e).1
def dH(mh:MH)(b:Nat)(mh' :MH):Prop:=C1 mh' b/\∃o,mh' =mh.set b o
theorem dH.len{mh mh' :MH}(h:dH mh b mh'):mh'.length=mh.length:=by obtain⟨_,o,rfl⟩:=h;simp
theorem dH.trans{mh a c:MH}(h:dH mh b a)(h' :dH a b c):dH mh b c:=by
 obtain⟨_,o,rfl⟩:=h;obtain⟨d,e,rfl⟩:=h';exact⟨d,e,by simp⟩
theorem dH.refl(h:C1 mh b):dH mh b mh:=by
 refine⟨h,mh[b]'h.lt,?_⟩;simp
theorem dH.other{mh mh' :MH}(h:dH mh b mh')(a:n≠b):mh'[n]? =mh[n]? :=by
 obtain⟨_,o,rfl⟩:=h;exact List.getElem?_set_ne (aLh a)
theorem C1.GR(h:C1 mh b)(k:Nat):∀o,mh[b]? =some o->GR k o=true:=by
 obtain⟨c,m,e,_⟩:=h;intro o ho;rw[e]at ho;cases ho;rfl
theorem dH.mok{mh mh' :MH}(h:dH mh b mh')(ok:fZ mh):fZ mh' :=by
 have d:=h.1;obtain⟨_,o,e⟩:=h;intro x hx;have f:mh'.length=mh.length:=by rw[e];simp
 obtain⟨n,c⟩:=aKv.mp hx;by_cases a:n=b
 ·subst a;exact d.GR _ x c
 ·rw[e,List.getElem?_set_ne (Ne.symm a)]at c;rw[f];exact ok x (aK9 c)
def bP:OA:=λds mh Q=>∃b a,ds=[.ref b,.int a]/\1<=a/\a<=1073741789/\C1 mh b/\∀r mh',0<=r->r<a->dH mh b mh' ->Q (.int r) mh'
def vW:OA:=λds mh Q=>∃(ns:List Int) (a:Int),ds=[.fl (ns.map .int),.int a]/\ns.length<=63/\0<=a/\a<=100/\∀mh',(∃o,mh' =mh++[o])->C1 mh' mh.length->Q (.ref mh.length) mh'
def cV(K:aNq)(x:Str)(st:Stmt):Prop:=∃f oc od kV doc pm an a ct sl,PySem.W.nsIn K mainGlobals x=some (some (.ref f))/\
 K.lookup f=some ⟨oc,od,.func (PySem.W.fnOf x x (e8 st) (cR st) (aF st) .none kV doc pm an a ct),sl⟩/\PySem.W.codeIn K a x=true/\PySem.W.keepIn K (.ref f)=true
variable{st:Stmt}
theorem aHc{f:Addr}{oc:Value}{od an:Option Addr}{sl:Array (Option Value)}{kV doc pm b ct:Value}(a:PySem.W.nsIn K mainGlobals x=some (some (.ref f)))
  (l:K.lookup f=some ⟨oc,od,.func (PySem.W.fnOf x x (e8 st) (cR st) (aF st) .none kV doc pm an b ct),sl⟩) (c:PySem.W.codeIn K b x=true) (k:PySem.W.keepIn K (.ref f)=true):cV K x st:=⟨f,oc,od,kV,doc,pm,an,b,ct,sl,a,l,c,k⟩
def bG(x:Str)(st:Stmt)(ps:List Str):Prop:=∀(kV doc pm:Value) (an:Option Addr) (cdv ct:Value) (us:List Value),us.length=ps.length->bindArgs (PySem.W.fnOf x x (e8 st) (cR st) (aF st) .none kV doc pm an cdv ct) ⟨us,[]⟩=pure (ps.zip us)
section
variable {P:Program}{w:World}{K:aNq}{mg:aNt}{base:Heap}{h:Heap}
theorem aCj{k:Nat}{s:OA}{wB:WS}(e:cV K x st)(KX:K.In h)(G:h.Ns mainGlobals mg)(g:bG x st ps)(S:aP N ps (aF st))(len:∀ds mh R,s ds mh R->ds.length=ps.length)
  (i:∀(f:Addr) (cdv:Value) (A:Around) (outer:List Env) (s:Shared) (H:Hp) (E:XK),hU k (A.deeper (envOfC x (aF st) s.heap.objs.size f cdv))->
   hZ (xF F2 P w K mg base N x (aF st) f cdv A outer s H E).VD (cR st) wB)
  (j:∀ds mh R,fZ mh->aS mh.length ds=true->s ds mh R->wB {nx:=λ_ b=>Out mh.length .b8 b R,rt:=λd b=>Out mh.length d b R} (aG N ds) mh):Fn P w K mg base (k+1) x ps s:=by
 obtain⟨f,oc,od,kV,doc,pm,an,n,ct,sl,a,l,c,kp⟩:=e;have F:=HK (st:=st) l c kp;exact⟨f,_,aGa F S len (λcdv A outer s H E m=>i f cdv A outer s H E m) j,aNk KX G a,kp,F.binds g⟩
theorem E1{k:Nat}(b:cV K x st)(KX:K.In h)(G:h.Ns mainGlobals mg)(d:bG x st ps):Fn P w K mg base k x ps (λ_ _ _=>False):=by
 obtain⟨f,oc,od,kV,doc,pm,an,e,ct,sl,a,l,c,kp⟩:=b;have F:=HK (st:=st) l c kp;refine⟨f,_,⟨λvs H Q E q=>?_,λA outer s H args us vs Q E _ _ _ _ q=>?_⟩,aNk KX G a,kp,F.binds d⟩
 ·obtain⟨_,_,_,_,_,_,q,_⟩:=q;exact q.elim
 ·obtain⟨_,_,_,_,_,_,q,_⟩:=q;exact q.elim
end
def x3:OA:=λds mh Q=>∃ns:List Int,ds=[.fl (ns.map .int)]/\ns.length<=63/\∀mh',Q (.bl true) mh'
theorem wV{K:aNq}{μ:List Addr}{H:Hp}:∀ns:List Int,IsL K μ H (ns.map .int) (ns.map .int)
 | []=>by simp[IsL]
 | n::ns=>by simp only[List.map_cons];unfold IsL;exact⟨_,_,rfl,.int,wV ns⟩
theorem aBk{ns:List Int}(b:ns.length<=63)(c:XY H)(hS:qB K H a (ns.map V.int)):SU K x3 [.ref a] H (λv _=>v= .bl true) λ_ _ _=>False:=by
 have e:S9 K H a (ns.map V.int):=by
  rcases hS with (hS | hS) | hS
  ·rcases c a with z | ⟨o,xs,z⟩
   ·rw[hS]at z;cases z
   ·rw[hS]at z;cases z
  ·exact .inl hS
  ·exact .inr hS
 refine⟨[],[],[.fl (ns.map .int)],λd _=>d= .bl true,⟨rfl,List.nodup_nil,λn a o f=>by simp at f⟩,?_,⟨ns,rfl,b,λ_=>rfl⟩,λd mh' q μ' v H' _ _ I=>?_⟩
 ·refine jQ ?_;unfold Is;exact⟨a,_,rfl,e,wV ns⟩
 ·subst q;exact zS I
theorem walkD{l:PySem.W.OpenLaw}{k:Nat}{q:Program}{loose:List Str}{XP:(aNt)->Heap->Prop}{c:World->Heap->Prop}{d:DefRec}{K:Params->aNq}(g:l.most=some 63)(b:d.params.defaults=[])(i:hU k callerA)
  (j:∀(w:World) (h:Heap),c w h->(K w.params).In h)
  (F:∀(w:World) (mg:aNt) (e:Addr) (h:Heap),(K w.params).In h->h.Ns mainGlobals mg->mg d.name=some (.ref e)->
   ∃fd:FuncData,(∀(s:Shared) (u:Value),BindsTo s fd ⟨[u],[]⟩ [(x,u)])/\∀base:Heap,(K w.params).In base->base.Ns mainGlobals mg->kZ l.prog w (K w.params) mg base F2 k e fd [x] (SU (K w.params) x3)):
  PySem.W.WalkO q loose XP c l.row.toRowW d [] (λf vs=>PySem.call f vs):=
 L2.TK (n:=63) (k:=k) (x:=x) (CX:=λ_=>F2) (sp:=λw=>SU (K w.params) x3) g (by decide) b i j F (λ_ _ a ns m o p=>aBk m o p) λ_ _ _ _ _ z=>z
theorem aBm{k:Nat}{g:Addr}(KX:K.In h)(G:h.Ns mainGlobals mg)(i:mg "law"=some (.ref g))(j:cV K "law" st)(S:aP N [x] (aF st))(m:bG "law" st [x])
  (n:∀base:Heap,∃wB:WS,(∀(f:Addr) (cdv:Value) (A:Around) (outer:List Env) (s:Shared) (H:Hp) (E:XK),hU k (A.deeper (envOfC "law" (aF st) s.heap.objs.size f cdv))->
   hZ (xF F2 P w K mg base N "law" (aF st) f cdv A outer s H E).VD (cR st) wB)/\
   ∀ds mh R,fZ mh->aS mh.length ds=true->x3 ds mh R->wB {nx:=λ_ b=>Out mh.length .b8 b R,rt:=λd b=>Out mh.length d b R} (aG N ds) mh):
  ∃fd:FuncData,(∀(s:Shared) (u:Value),BindsTo s fd ⟨[u],[]⟩ [(x,u)])/\∀base:Heap,kZ P w K mg base F2 (k+1) g fd [x] (SU K x3):=by
 obtain⟨f,oc,od,kV,doc,pm,an,o,ct,sl,a,l,c,kp⟩:=j;have e:=i.symm.trans (aNk KX G a);cases e;have F:=HK (st:=st) l c kp;refine⟨_,λs u=>.of_eq (m kV doc pm an o ct [u] rfl),λbase=>?_⟩;obtain⟨wB,p,q⟩:=n base;exact aGa F S (λds mh R hs=>by obtain⟨ns,rfl,_⟩:=hs;rfl) (λcdv A outer s H E r=>p g cdv A outer s H E r) q
theorem bl_mk(KX:K.In h)(G:h.Ns mainGlobals mg)
  (l:PySem.W.nsIn K mainGlobals "len"=some none) (m:PySem.W.nsIn K mainGlobals "range"=some none) (n:PySem.W.nsIn K mainGlobals "zip"=some none) (o:PySem.W.nsIn K mainGlobals "all"=some none) (p:PySem.W.nsIn K mainGlobals "any"=some none) (q:PySem.W.nsIn K mainGlobals "abs"=some none) (r:PySem.W.nsIn K mainGlobals "min"=some none) (s:PySem.W.nsIn K mainGlobals "max"=some none) (t:PySem.W.nsIn K mainGlobals "isinstance"=some none) (a:PySem.W.nsIn K mainGlobals "sorted"=some none) (b:PySem.W.nsIn K mainGlobals "int"=some none) (c:PySem.W.nsIn K mainGlobals "str"=some none) (d:PySem.W.nsIn K mainGlobals "bool"=some none) (e:PySem.W.nsIn K mainGlobals "list"=some none) (f:PySem.W.nsIn K mainGlobals "tuple"=some none) (g:PySem.W.nsIn K mainGlobals "set"=some none) (i:PySem.W.nsIn K mainGlobals "dict"=some none) (j:PySem.W.nsIn K mainGlobals "sum"=some none) (k:PySem.W.nsIn K mainGlobals "enumerate"=some none):Bl mg:=
 ⟨aKj KX G l,aKj KX G m,aKj KX G n,aKj KX G o,aKj KX G p,aKj KX G q,aKj KX G r,aKj KX G s,aKj KX G t,aKj KX G a,aKj KX G b,aKj KX G c,aKj KX G d,aKj KX G e,aKj KX G f,aKj KX G g,aKj KX G i,aKj KX G j,aKj KX G k⟩
theorem wN{a b:Key}(h:c6 a=c6 b):a=b:=by
 cases a <;> cases b <;> simp[c6]at h <;> rw[h]
open Classical in
noncomputable def putD(kvs:List (D×D))(k v:D):List (D×D):=if ∃p∈kvs,p.1=k then kvs.map (λp=>if p.1=k then (p.1,v) else p) else kvs++[(k,v)]
theorem OT(kvs:List (D×D))(k v:D):(putD kvs k v).length<=kvs.length+1:=by
 unfold putD;split <;> simp
section
variable {K:aNq}{μ:List Addr}{H:Hp}{κ:Type}[DecidableEq κ]{f:κ->D}
theorem DY(g:∀{a b},f a=f b->a=b)(k:κ){d:D}{v:V}(hd:Is K μ H d v):∀(kvs:List (D×D)) (kk:List (κ×V)),kvs.map (·.1)=kk.map (λp=>f p.1)->IsL K μ H (kvs.map (·.2)) (kk.map (·.2))->
  IsL K μ H ((open Classical in kvs.map λp=>if p.1=f k then (p.1,d) else p).map (·.2)) ((kk.map λp=>if p.1=k then (p.1,v) else p).map (·.2))
 | [],[],_,_=>by simp[IsL]
 | [],_::_,h,_=>by simp at h
 | _::_,[],h,_=>by simp at h
 | p::kvs,q::kk,h,l=>by
  simp only[List.map_cons,List.cons.injEq]at h;simp only[List.map_cons]at l⊢;unfold IsL at l⊢;obtain⟨w,r,e,i,l⟩:=l;simp only[List.cons.injEq]at e;obtain⟨rfl,rfl⟩:=e;have j:=DY g k hd kvs kk h.2 l;by_cases c:q.1=k
  ·have:p.1=f k:=by rw[h.1,c]
   simp only[if_pos c,if_pos this];exact⟨_,_,rfl,hd,j⟩
  ·have:¬p.1=f k:=λz=>c (g (h.1.symm.trans z));simp only[if_neg c,if_neg this];exact⟨_,_,rfl,i,j⟩
theorem UK(m:∀{a b},f a=f b->a=b)(k:κ){v:V}(hd:Is K μ H d v){kvs:List (D×D)}{kk:List (κ×V)}(h:kvs.map (·.1)=kk.map (λp=>f p.1))(l:IsL K μ H (kvs.map (·.2)) (kk.map (·.2))):
  (putD kvs (f k) d).map (·.1)=(putK kk k v).map (λp=>f p.1)/\IsL K μ H ((putD kvs (f k) d).map (·.2)) ((putK kk k v).map (·.2)):=by
 have same:(∃p∈kvs,p.1=f k)↔(kk.any λn=>decide (n.1=k))=true:=by
  rw[List.any_eq_true];constructor
  ·rintro⟨p,i,e⟩;have:f k∈kk.map (λp=>f p.1):=by rw[<-h,<-e];exact aKe.mpr ⟨p,i,rfl⟩
   obtain⟨q,j,g⟩:=aKe.mp this;exact⟨q,j,by simpa using m g⟩
  ·rintro⟨q,j,e⟩;have:f q.1∈kvs.map (·.1):=by rw[h];exact aKe.mpr ⟨q,j,rfl⟩
   obtain⟨p,i,g⟩:=aKe.mp this;exact⟨p,i,by rw[g];simp at e;rw[e]⟩
 unfold putD putK;by_cases c:∃p∈kvs,p.1=f k
 ·rw[if_pos c,if_pos (same.mp c)];refine⟨?_,DY m k hd kvs kk h l⟩
  have o:(open Classical in kvs.map λp=>if p.1=f k then (p.1,d) else p).map (·.1)=kvs.map (·.1):=by
   rw[List.map_map];apply aKo;intro p _;simp only[Function.comp];split <;> rfl
  have g:(kk.map λp=>if p.1=k then (p.1,v) else p).map (λp=>f p.1)=kk.map (λp=>f p.1):=by
   rw[List.map_map];apply aKo;intro p _;simp only[Function.comp];split <;> rfl
  rw[o,g,h]
 ·rw[if_neg c,if_neg (λz=>c (same.mpr z))];refine⟨by simp[h],?_⟩;simp only[List.map_append,List.map_cons,List.map_nil];exact iM l (jQ hd)
end
theorem KZ{o:MO}{ob:HO}(R:Rep K μ mh H)(h:μ[n]? =some a)(hm:SK (some ob))(l:pK K μ (upd H a ob) o a):Rep K μ (mh.set n o) (upd H a ob):=by
 have P:aT μ H μ (upd H a ob):=aT.set R h;refine⟨by simp[R.len],R.nd,λm b f d e=>?_⟩;by_cases c:m=n
 ·subst c;rw[h]at d;cases d;have g:m<mh.length:=by rw[<-R.len];exact(aK5.mp h).1
  rw[List.getElem?_set_self g]at e;cases e;exact l
 ·rw[List.getElem?_set_ne (Ne.symm c)]at e;exact(R.obj m b f d e).mono R P (aW λz=>c (PY R.nd d (by rw[z];exact h)))
theorem Rep.aFb{q:Addr}{o:MO}{ob:HO}(R:Rep K μ mh H)(a:H q=none)(l:pK K (μ++[q]) (upd H q ob) o q):Rep K (μ++[q]) (mh++[o]) (upd H q ob):=by
 have b:Rep K μ mh (upd H q ob):=R.new a;exact b.SG (λz=>R.ne a z rfl) l
def TM(t:Bool):WE:=λ_ mh Q=>Q (.ref mh.length) (mh++[.dic t []])
section
variable {X:Cx}{pos:Pos}
theorem V1:LE X (.Dict [] [] pos) (TM false):=PE.imp O8 λσ H Q h=>by
 obtain⟨μ,c,mh,R,a,E,h,F⟩:=h;intro p b;exact F _ _ h (μ++[p]) _ _ (aT.L3 a b) (a.aFb b ⟨[],⟨[],b9,rfl,rfl⟩,by simp[IsL]⟩) (by unfold Is;exact⟨p,by rw[<-a.len];simp,rfl⟩)
end
theorem uT{k:Key}{v:V}(h:Is K μ H (c6 k) v):v=kV k:=by
 cases k <;> (simp only[c6]at h;unfold Is at h;exact h)
theorem zT{K:aNq}{μ:List Addr}{H:Hp}:∀{ks:List Key} {vs:List V},IsL K μ H (ks.map c6) vs->vs=ks.map kV
 | [],vs,h=>by simp only[List.map_nil]at h;unfold IsL at h;exact h
 | k::ks,vs,h=>by
  simp only[List.map_cons]at h;unfold IsL at h;obtain⟨v,r,rfl,i,l⟩:=h;rw[uT i,zT l];rfl
theorem B5{v:V}{t:Bool}{kvs:List (D×D)}(R:Rep K μ mh H)(h:Is K μ H (.ref n) v)(e:mh[n]? =some (.dic t kvs)):∃a vs,v= .ref a/\μ[n]? =some a/\SQ (H a) (kvs.map (·.1)) vs t/\IsL K μ H (kvs.map (·.2)) vs:=by
 obtain⟨a,q,rfl⟩:=nT h;obtain⟨vs,b,l⟩:=R.obj n a _ q e;exact⟨a,vs,rfl,q,b,l⟩
def YF(o k d:D)(mh:MH)(Q:MH->Prop):Prop:=∃n kvs a,o= .ref n/\mh[n]? =some (.dic false kvs)/\k=c6 a/\kvs.length<sizeLine/\Q (mh.set n (.dic false (putD kvs k d)))
def NY(w g wi:WE):WS:=λE a mh=>w a mh λd b=>g a b λo c=>wi a c λi e=>YF o i d e λf=>E.nx a f
section
variable {X:Cx}{pos pos' tpos:Pos}{o i e:Expr}{es:List Expr}{w wo wi:WE}{wa:WA}
theorem VS(hu:X.A.units+64<cLine)(he:LE X e w)(ho:LE X o wo)(hi:LE X i wi)(hs:swapsWith e (some (.Subscript o i pos')) pos.line X.env=pure false:=by rfl):LS X (.Assign [.Subscript o i pos'] e pos) (NY w wo wi):=
 PS.imp (UT (by lia) ho hi he hs) λD σ H h=>by
  obtain⟨μ,j,mh,E,R,En,h,F⟩:=h;refine⟨μ,j,mh,_,R,En,h,λd p q r v H1 s C L=>?_⟩;refine⟨r,j,p,_,C,En.mono R s,q,λM t N u vo H2 x R2 O=>?_⟩;refine⟨u,j,t,_,R2,En.mono R (s.trans x),N,λdi y P b vi z B m Q=>?_⟩;obtain⟨n,kvs,c,rfl,S,rfl,hz,T⟩:=P;obtain⟨a,vs,rfl,G,⟨kk,U,I,rfl⟩,l⟩:=B5 m (Is.mono R2 B _ _ O) S;cases uT Q;have V:=Is.mono C (x.trans B) d v L;have J:aT b z b (upd z a (.dK (putK kk c v))):=aT.set m G;have ln:kk.length=kvs.length:=by have:=aL4 List.length I;simp at this;lia
  obtain⟨W,Y⟩:=UK (f:=c6) wN c V I l;have Z:Rep X.K b (y.set n (.dic false (putD kvs (c6 c) d))) (upd z a (.dK (putK kk c v))):=KZ m G (by trivial) ⟨_,⟨_,b9,W,rfl⟩,Y.mono m J⟩;have g:=((s.trans x).trans B).trans J;exact⟨a,_,rfl,.k U (by lia),F.nx j _ T b σ _ g Z (En.mono R g)⟩
end
def CZ(h:Heap)(d:Addr)(es:Array DictEntry)(ep:Nat):Prop:=∃o,h.get? d=some o/\o.ExactDict/\o.data= .dict es ep
theorem CZ.typeIs{s:Shared}{d:Addr}{es:Array DictEntry}{ep:Nat}(x:CZ s.heap d es ep):s.TypeIs (.ref d) "dict":=let ⟨o,a,b,c⟩:=x;⟨o,a,b.1⟩
end D3
namespace TS
open PySem PySem.Spec PyProof.Rows L2
end TS
namespace D3
open PySem PySem.Spec PyProof.Rows L2
theorem aFv{K:aNq}{μ:List Addr}{H:Hp}(k:Key):Is K μ H (c6 k) (kV k):=by
 cases k <;> (simp only[c6];unfold Is;rfl)
theorem BU{K:aNq}{μ:List Addr}{H:Hp}:∀ks:List Key,IsL K μ H (ks.map c6) (ks.map kV)
 | []=>by simp[IsL]
 | k::ks=>by simp only[List.map_cons];unfold IsL;exact⟨_,_,rfl,aFv k,BU ks⟩
theorem uR:∀x y:List Int,lx x y=false->lx y x=false->x=y
 | [],[],_,_=>rfl
 | [],b::y,h,_=>by simp[lx]at h
 | a::x,[],_,h=>by simp[lx]at h
 | a::x,b::y,h1,h2=>by
  unfold lx at h1 h2;by_cases e:a=b
  ·subst e;simp at h1 h2;rw[uR x y h1 h2]
  ·have c :¬b=a:=λz=>e z.symm;simp[e,c]at h1 h2
   lia
theorem pY(x:List Int):lx x x=false:=by
 cases h:lx x x with
 | false=>rfl
 | true=>have:=uQ x x h;rw[h]at this;cases this
theorem w9:∀{cs:List Sc} {es fs:List D},aU cs es=true->aU cs fs=true->(es.map bW).flatten=(fs.map bW).flatten->es=fs
 | [],[],[],_,_,_=>rfl
 | [],_::_,_,h,_,_=>by simp[aU]at h
 | [],_,_::_,_,h,_=>by simp[aU]at h
 | _::_,[],_,h,_,_=>by simp[aU]at h
 | _::_,_::_,[],_,h,_=>by simp[aU]at h
 | c::cs,e::es,f::fs,h1,h2,h=>by
  simp only[aU,Bool.and_eq_true]at h1 h2;simp only[List.map_cons,List.flatten_cons]at h
  have he:e=f:=by
   apply aKf;intro ne;have a:=iL h1.1 h2.1 ne (es.map bW).flatten (fs.map bW).flatten;have b:=iL h2.1 h1.1 (λz=>ne z.symm) (fs.map bW).flatten (es.map bW).flatten;rw[h,pY]at a;rw[<-h,pY]at b;exact ne (KU h1.1 h2.1 (uR _ _ a.symm b.symm))
  subst he;rw[w9 h1.2 h2.2 (List.append_cancel_left h)]
theorem TR{ds:List D}(U:FZ ds){d e:D}(hd:d∈ds)(he:e∈ds)(h:enc d=enc e):d=e:=by
 rcases U with ⟨c,a⟩ | ⟨c,cs,a⟩
 ·have b:=a d hd;have f:=a e he;cases c <;> cases d <;> simp[b7]at b <;> cases e <;> simp[b7]at f
  ·simpa[enc,bW] using h
  ·exact KU (c:= .s) rfl rfl h
 ·obtain⟨es,rfl,b⟩:=a d hd;obtain⟨fs,rfl,f⟩:=a e he;rw[w9 b f h]
theorem fC{ds:List D}(U:FZ ds):∀{f c:List D},(∀d∈f,d∈ds)->f.Perm c->f.Pairwise (λd e=>lx (enc e) (enc d)=false)->c.Pairwise (λd e=>lx (enc e) (enc d)=false)->f=c
 | [],c,_,p,_,_=>(List.nil_perm.mp p).symm
 | a::t,c,hm,p,s1,s2=>by
  cases c with
  | nil=>exact absurd p.length_eq (by simp)
  | cons b u=>
   have ha:lx (enc b) (enc a)=false:=by
    rcases aKd.mp (p.mem_iff.mpr aK7) with z | z
    ·rw[z];exact pY _
    ·exact(aLj.mp s1).1 b z
   have g:lx (enc a) (enc b)=false:=by
    rcases aKd.mp (p.mem_iff.mp aK7) with z | z
    ·rw[z];exact pY _
    ·exact(aLj.mp s2).1 a z
   have e:a=b:=TR U (hm a aK7) (hm b (p.mem_iff.mpr aK7)) (uR _ _ g ha);subst e;rw[fC U (λd hd=>hm d (List.mem_cons_of_mem _ hd)) (List.Perm.cons_inv p) (List.pairwise_cons.mp s1).2 (List.pairwise_cons.mp s2).2]
def dF(mh:MH)(b:Nat)(mh' :MH):Prop:=∃a T,mh' =a++T/\dH mh b a
variable{mh:MH}{b:Nat}
theorem dF.refl(h:C1 mh b):dF mh b mh:=⟨mh,[],by simp,.refl h⟩
variable{mh':MH}
theorem dF.le(h:dF mh b mh'):mh.length<=mh'.length:=by
 obtain⟨a,T,rfl,t⟩:=h;rw[List.length_append,t.len];lia
theorem dF.blt(h:dF mh b mh'):b<mh.length:=by
 obtain⟨a,T,rfl,t⟩:=h;rw[<-t.len];exact t.1.lt
theorem dF.YU(h:dF mh b mh'):C1 mh' b:=by
 obtain⟨a,T,rfl,⟨c,m,e,r⟩,_⟩:=h;exact⟨c,m,by rw[List.getElem?_append_left (List.getElem?_eq_some_iff.mp e).1];exact e,r⟩
theorem dF.to{mh mh' a:MH}(h:dF mh b mh')(t:dH mh' b a):dF mh b a:=by
 have i:=h.blt;obtain⟨d,T,rfl,g⟩:=h;have f:b<d.length:=by rw[g.len];exact i
 obtain⟨⟨c,m,e,r⟩,o,rfl⟩:=t;rw[List.set_append_left _ _ f]at e⊢;refine⟨d.set b o,T,rfl,g.trans ⟨⟨c,m,?_,r⟩,o,rfl⟩⟩;rw[List.getElem?_append_left (by simpa using f)]at e;exact e
theorem dF.push(h:dF mh b mh')(o:MO):dF mh b (mh' ++[o]):=by
 obtain⟨a,T,rfl,c⟩:=h;exact⟨a,T++[o],by simp,c⟩
theorem dF.set{b n:Nat}(h:dF mh b mh')(d:mh.length<=n)(o:MO):dF mh b (mh'.set n o):=by
 obtain⟨a,T,rfl,c⟩:=h;refine⟨a,T.set (n-a.length) o,?_,c⟩;rw[List.set_append_right _ _ (by rw[c.len];exact d)]
theorem dF.out{d:D}{R:DK}(h:dF mh b mh')(ok:fZ mh)(hd:bX mh.length d=true)(q:∀a,dH mh b a->R d a):Out mh.length d mh' R:=by
 obtain⟨a,T,rfl,c⟩:=h;exact LU (by rw[c.len];exact aK6 _) (c.mok ok) (by rw[c.len];exact hd) (q a c)
theorem fV{a:Int}{Q:DK}(h:dF mh b mh')(d:1<=a)(e:a<=1073741789)
  (q:∀r c,0<=r->r<a->dF mh b c->c.length=mh'.length->(∀n,mh.length<=n->c[n]? =mh'[n]?)->Q (.int r) c):bP [.ref b,.int a] mh' Q:=
 ⟨b,a,rfl,d,e,h.YU,λr c f g t=>q r c f g (h.to t) t.len λn i=>t.other (by have:=h.blt;lia)⟩
open Classical in
noncomputable def fS:List (D×D)->D->Option D
 | [],_=>none
 | p::r,k=>if p.1=k then some p.2 else fS r k
theorem AS{K:aNq}{μ:List Addr}{H:Hp}(a:Key):∀{kvs:List (D×D)} {kk:List (Key×V)},kvs.map (·.1)=kk.map (λp=>c6 p.1)->IsL K μ H (kvs.map (·.2)) (kk.map (·.2))->
  (rZ kk a=none/\fS kvs (c6 a)=none)\/∃d v,rZ kk a=some v/\fS kvs (c6 a)=some d/\Is K μ H d v
 | [],[],_,_=>.inl ⟨rfl,rfl⟩
 | [],_::_,h,_=>by simp at h
 | _::_,[],h,_=>by simp at h
 | p::kvs,q::kk,h,l=>by
  simp only[List.map_cons,List.cons.injEq]at h;simp only[List.map_cons]at l;unfold IsL at l;obtain⟨w,r,e,i,l⟩:=l;simp only[List.cons.injEq]at e;obtain⟨rfl,rfl⟩:=e;by_cases b:q.1=a
  ·right;have c:p.1=c6 a:=by rw[h.1,b]
   exact⟨p.2,q.2,qM b,by simp[fS,c],i⟩
  ·have c:¬p.1=c6 a:=λz=>b (wN (h.1.symm.trans z));rw[qN b];simp only[fS,if_neg c];exact AS a h.2 l
section
variable {X:Cx}
theorem WC(m:X.A.units+64<cLine):YX X (λx y H Q=>∃a v,x= .ref a/\IM H a y (some v)/\Q v H):=by
 intro b c pins s σ H x y v u Q I j k h hs;obtain⟨a,z,rfl,g,q⟩:=h;cases j;have i:=E8 I g;unfold subscriptTail;refine aK2 ?_;rw[getitemInPython_of_ne i.not_modules];refine aK2 (aLw i PySem.F.slot_dict_getitem.lookup ?_)
 have d:wpAny (model X.prog X.w) X.A (subscripted c false (.ref a) u) (λr e=>wpAny (model X.prog X.w) X.A (letTemporaryGo b (.ref a) r >>=λ_=>pure r) (EP X pins σ Q) X.xe e) X.xe s:=by
  rw[hs];exact wpAny_operating (M9 (by lia) I g k λn o l f =>aK2 (wpAny_letTemporaryGo (aK3 ⟨z,H,l,f,q⟩)))
 first
  | exact aK3 (aK2 d)
  | exact aK2 (aK3 (aK2 d))
  | exact aK2 d
def aAm:O2:=λx y mh Q=>∃n kvs a d,x= .ref n/\mh[n]? =some (.dic false kvs)/\y=c6 a/\fS kvs y=some d/\Q d mh
theorem ixD(i:X.A.units+64<cLine):YX X (bY X.K aAm):=by
 intro b c pins s σ H x y v u Q I j m q hs;obtain⟨μ,mh,dx,C,R,g,ix,o,⟨n,kvs,f,d,rfl,e,rfl,hd,q⟩,F⟩:=q;obtain⟨a,vs,rfl,D,⟨kk,p,r,rfl⟩,l⟩:=B5 g ix e;cases uT o
 rcases AS f r l with ⟨_,z⟩ | ⟨d',w,t,h,B⟩
 ·rw[hd]at z;cases z
 ·rw[hd]at h;cases h;exact WC i b c pins s σ H _ _ v u Q I j m ⟨a,w,rfl,by rw[<-t];exact .k p,F.here g q B⟩ hs
end
def aDy(b:TA):TE:=λσ H Q=>b σ H λvs a=>∃j:Int,vs=[.int j]/\ -(2^62)<=j/\j<2^62/\∀p,a p=none->Q (.ref p) (upd a p (.rng 0 j))
theorem U0{X:Cx}{a:Expr}{b:TA}{p pos:Pos}(hg:Gl X "range")(hm:X.mg "range"=none)(ha:PA X [a] b)(hs:starEach [a] X.env=[(false,eval a X.env)]:=by rfl):PE X (.Call (.Name "range" p) [a] [] pos) (aDy b):=by
 intro pins s σ H Q I h;refine Call_ (pZ I hg hm boot_range (aLd (dJ (ha pos pins s σ H _ I h) λus s1 ⟨vs,i,c,f,d⟩=>?_) hs rfl));obtain⟨j,e,d,k,q⟩:=d;subst e
 cases f with
 | cons r g=>
  cases g;obtain⟨t,rfl⟩:=r;exact call_range_1 ⟨.ref s1.heap.objs.size,_,c.laid (a:=s1.heap.objs.size) (o:= .rng 0 j) (λ_ _ q=>aK4 _ q) (aK6 _) ⟨_,_,_,aKa _ rfl⟩,rfl,q _ (c.cI.fresh (aK6 _))⟩
theorem DD:∀(vs:List Value) (n:Nat) (k:Int),vs.length=n->(∀(j:Nat) (v:Value),vs[j]? =some v->∃t,v=Value.int (k+j) t)->Vals ((List.range n).map λ(i:Nat)=>V.int (k+(i:Int))) vs
 | [],0,_,_,_=>.nil
 | [],n+1,_,h,_=>by simp at h
 | v::vs,0,_,h,_=>by simp at h
 | v::vs,n+1,k,h,hi=>by
  rw[List.range_succ_eq_map,List.map_cons,List.map_map];refine .cons ?_ ?_
  ·obtain⟨t,e⟩:=hi 0 v rfl;exact⟨t,by simpa using e⟩
  ·have:=DD vs n (k+1) (by simpa using h) λj v a=>by
    obtain⟨t,e⟩:=hi (j+1) v (by simpa using a);exact⟨t,by rw[e];congr 1;push_cast;lia⟩
   have e:((λi:Nat=>V.int (k+(i:Int))) ∘ Nat.succ)=λi:Nat=>V.int (k+1+(i:Int)):=by
    funext i;simp only[Function.comp];congr 1;push_cast;lia
   rw[e];exact this
theorem CI{X:Cx}(c:X.calm=true):cD X (.type "list") (λxs H Q=>∃a j,xs=[.ref a]/\H a=some (.rng 0 j)/\ -(2^62)<=j/\j<=16777216/\∀p,H p=none->Q (.ref p) (upd H p (.lst ((List.range j.toNat).map λ(i:Nat)=>V.int (0+(i:Int)))))):=by
 intro pins s σ H xs us Q I r q;obtain⟨a,j,rfl,e,d,y,q⟩:=q;obtain⟨u,rfl,f⟩:=vals1 r;cases f
 obtain⟨t,u,v,g⟩:=(show cT X.prog X.w H s.heap a (.rng 0 j) from I.cI a _ e)
 refine call_list_range (n:=j.toNat) (I.ok.hd c) g (small_one (by lia) (by lia) d (by lia)) (by rw[rangeSize_one];split <;> lia) (by lia) λh' h b k l m hi=>?_;refine⟨.ref s.heap.objs.size,_,I.laid (a:=s.heap.objs.size) (o:= .lst ((List.range j.toNat).map λ(i:Nat)=>V.int (0+(i:Int)))) (t' :=h) l (aK6 _) ⟨by simp[sizeLine_eq];lia,b.toList,k,DD _ _ _ (by simpa using hi.1) λi v x=>?_,by simpa using m⟩,rfl,q _ (I.cI.fresh (aK6 _))⟩;obtain⟨t,e⟩:=hi.2 i v (by simpa using x);exact⟨t,by rw[e];simp⟩
def m4(b:WA):WE:=λc mh Q=>b c mh λds a=>∃j,ds=[.int j]/\ -(2^62)<=j/\j<=16777216/\Q (.ref a.length) (a++[.lst (fA 0 j.toNat)])
@[simp] theorem aDe (b:WA)(c:hX)(mh:MH)(Q:DK):m4 b c mh Q=(b c mh λds a=>∃j,ds=[.int j]/\ -(2^62)<=j/\j<=16777216/\Q (.ref a.length) (a++[.lst (fA 0 j.toNat)])):=rfl
theorem WK{K:aNq}{μ:List Addr}{H:Hp}(lo:Int)(n:Nat):IsL K μ H (fA lo n) ((List.range n).map λ(i:Nat)=>V.int (lo+(i:Int))):=by
 have:=wV (K:=K) (μ:=μ) (H:=H) ((List.range n).map λ(i:Nat)=>lo+(i:Int));rw[List.map_map,List.map_map]at this;exact this
theorem G4{X:Cx}{a:Expr}{f:WA}{l c d pos:Pos}(m:X.calm=true)(hm:X.mg "list"=none)(n:X.mg "range"=none)(ha:LA X [a] f)(hg:Gl X "list":=by rfl)(e:Gl X "range":=by rfl)
  (hs:starEach [a] X.env=[(false,eval a X.env)]:=by rfl)
  (b:starEach [.Call (.Name "range" c) [a] [] d] X.env=(false,eval (.Call (.Name "range" c) [a] [] d) X.env)::starEach [] X.env:=by rfl):
  LE X (.Call (.Name "list" l) [.Call (.Name "range" c) [a] [] d] [] pos) (m4 f):=
 PE.imp (sD (CI m) hg hm K6 (uN (U0 e n ha hs) A5 b) (by decide) (by decide) b rfl) λσ H Q h=>by
  obtain⟨μ,o,mh,R,r,E,h,F⟩:=h;refine⟨μ,o,mh,_,r,E,h,λds s t u vs A w g x=>?_⟩;obtain⟨j,rfl,i,y,q⟩:=t;obtain⟨v,rfl,z⟩:=fX x;cases b6 z;refine⟨j,rfl,i,by lia,λp k=>?_⟩;show ∃a j',[V.ref p]=[.ref a]/\_;exact⟨p,j,rfl,b9,i,y,iN (g.new k) (F.at (w.trans (aT.new g k))) (WK 0 j.toNat) q⟩
section
variable {prog:Program}{w:World}{A:Around}{E:aNr}{s:Shared}
variable{items:Array Value}{e:Value->Bool}
theorem Q6{x:Value}{j:Nat}(l:j<items.size)(a:e items[j]=true)(c:∀m (hm:m<items.size),m<j->e items[m]=false)
  (he:∀y,y∈items->SeqAt.EqAt A s y x (e y)) {R:Option PySem.Fin×Unit->Shared->Prop} (h:R (some (.done (.ret (.int j s.toks))),()) {s with toks:=s.toks+1}):
  ∀(n i:Nat),i<=j->i+n=items.size->
   wpAny (model prog w) A (forIn (List.range' i n 1) ((none,()):Option PySem.Fin×Unit) λ(i:Nat) f=>
      match items[i]? with
      | some y=>do
       let b<-eqBool y x
       if b=true then do
         let r<-retInt (i:Int)
         pure (ForInStep.done (some r,()))
        else pure (ForInStep.yield (none,()))
      | x=>pure (ForInStep.yield (none,()))) R E s:=by
 intro n
 induction n with
 | zero=>intro i g k;lia
 | succ n ih=>
  intro i g k;have hi:i<items.size:=by lia
  rw[List.range'_succ];refine PySem.W.KPc.turn ?_;rw[show items[i]? =some items[i] by simp[hi]];dsimp only;refine aK2 (he _ (Array.getElem_mem hi) prog w _ _ ?_);by_cases d:i=j
  ·subst d;rw[a,if_pos rfl];refine aK2 (m:=retInt (i:Int)) ?_;unfold retInt;exact aK2 (aNj (aK3 (aK3 h)))
  ·rw[c i hi (by lia),if_neg Bool.false_ne_true];exact aK3 (ih (i+1) (by lia) (by lia))
theorem LH{t:Addr}{x:Value}{j:Nat}{Q:aNr}(ht:s.heap.IsTuple t items)(c:j<items.size)(a:e items[j]=true)(b:∀m (hm:m<items.size),m<j->e items[m]=false)
  (he:∀y,y∈items->SeqAt.EqAt A.in1 s y x (e y)) (h:Q (.int j s.toks) {s with toks:=s.toks+1}):wpAny (model prog w) A (call (.builtin "tuple.index") [.ref t,x]) Q E s:=by
 obtain⟨o,ho,d,n,hd⟩:=id ht;refine aKk PySem.F.slot_tuple_index ht.typeIs PySem.F.entry_tuple_index ?_ (PySem.F.args_tuple_index_2 _ _);unfold Builtin.«tuple.index»;refine aK2 (m:=selfAndSome "tuple.index" "index" 1 3 _) (aK3 ?_);dsimp only;refine aK2 (m:=Builtin.Tuple.tupleItemsOf _) ?_;unfold Builtin.Tuple.tupleItemsOf;refine aK2 (aL5 ho hd (aK3 ?_));refine aK2 (aK3 (aK2 (aK3 ?_)));rw[Nat.min_self];refine aK2 ?_;rw[PySem.W.KPc.range_list];exact Q6 c a b he (aK3 ⟨_,rfl,h⟩) _ 0 (aLb _) (by simp)
end
section
variable {X:Cx}
def G1:OM:=λx ds mh Q=>∃(es:List D) (d:D) (j:Nat),x= .tup es/\ds=[d]/\es.all tX=true/\bare (hJ mh d)=true/\es.findIdx? (λy=>eB y (hJ mh d))=some j/\Q (.int j) mh
theorem N0{h:Heap}:∀{ds:List D} {us:List Value} {j:Nat} {d:D},cM h ds us->ds[j]? =some d->∃u,us[j]? =some u/\Vl h d u
 | d0::ds,us,0,d,l,e=>by
  unfold cM at l;obtain⟨u,r,rfl,p,l⟩:=l;simp at e;subst e;exact⟨u,rfl,p⟩
 | d0::ds,us,j+1,d,l,e=>by
  unfold cM at l;obtain⟨u,r,rfl,p,l⟩:=l;simp at e;obtain⟨v,a,b⟩:=N0 l e;exact⟨v,by simpa using a,b⟩
theorem P5(r:X.A.units+64<cLine):MtR X "tuple.index" (liftM X.K G1):=by
 intro pins s σ H x xs v us Q I t rs q;obtain⟨μ,mh,dx,ds,R,n,ix,B,⟨es,d,j,rfl,rfl,h,C,hi,q⟩,F⟩:=q;obtain⟨z,rfl,D⟩:=fX B;obtain⟨a,vs,rfl,sq,l⟩:=eK ix;cases t;obtain⟨u,rfl,E⟩:=rs.one;obtain⟨aL,G,J,hz⟩:=I.tuple sq;have b:=jZ I es (xQ h) l G;have L:=vG I n C D E;obtain⟨o,c,i⟩:=List.findIdx?_eq_some_iff_getElem.mp hi;have f:=bF b
 have at_:∀(m:Nat) (hm:m<aL.length) (g:m<es.length),eqW (hJ mh d) aL[m]=eB es[m] (hJ mh d):=λm hm g=>by
  obtain⟨w,p,M⟩:=N0 b (aL6 g);rw[List.getElem?_eq_getElem hm]at p;cases p;exact RS (List.all_eq_true.mp h _ (List.getElem_mem _)) M
 refine LH (e:=eqW (hJ mh d)) (j:=j) (show s.heap.IsTuple a aL.toArray from J) (by simpa[f] using o) ?_ ?_ (λy N=>JS r L h b y (by simpa using N)) ⟨.int j,H,I.tok _,⟨_,rfl⟩,F.here n q .int⟩
 ·rw[List.getElem_toArray,at_ j (by lia) o];simpa using c
 ·intro m hm k;rw[List.getElem_toArray,at_ m (by simpa using hm) (by lia)];simpa using i m k
end
end D3
namespace TS
open PySem PySem.Spec PyProof.Rows L2
section
variable {prog:Program}{w:World}{A:Around}{E:aNr}{s:Shared}{lt:Value×Value->Value×Value->Bool}
theorem DL(O:Wk lt){Q:aNr}{r:Addr}{Ok:List Value->Shared->Prop}
  (c:∀(E:aNr) (R:List Value->Shared->Prop),(∀vs a,Ok vs a ->R vs a)->wpAny (model prog w) A.in1 (collect (.ref r)) R E s)
  (g:∀vs a,Ok vs a ->vs.length<64)
  (i:∀vs a,Ok vs a ->∃κ,2<=vs.length->∀h' :Heap,(∀b o,a.heap.get? b=some o->h'.get? b=some o)->
   F7 prog w A.in1.in1 {a with heap:=h'} κ lt (pairsOf vs)/\∀f j,f κ {a with heap:=h'}->wpAny (model prog w) A.in1.in1 (keyKind' vs.toArray) f j {a with heap:=h'})
  (h:∀vs a,Ok vs a ->∀out:List Value,out.Perm vs->out.Pairwise (λx y=>lt (y,y) (x,x)=false)->∀(d:Heap) (ep:Nat),(∀b o,a.heap.get? b=some o->d.get? b=some o)->
   d.get? a.heap.objs.size=some (seqObj "list" out.toArray ep)->Q (.ref a.heap.objs.size) {a with heap:=d}):
  wpAny (model prog w) A (call (.builtin "sorted") [.ref r]) Q E s:=by
 have v:sizeLine=16777216:=aKc;refine aMg kind_sorted plain_sorted entry_sorted (args_sorted1 _) ?_;unfold Builtin.«sorted»;refine aK2 (m:=checkCount "sorted" 1 1 _) (aK3 ?_);refine aK2 (c _ _ λvs a ok=>?_);have hsz:=g vs a ok;obtain⟨κ,i⟩:=i vs a ok;refine aK2 (wpAny_newList ?_ (by lia));have ob:(a.heap.push (seqObj "list" vs.toArray 0)).get? a.heap.objs.size=some (seqObj "list" vs.toArray 0):=aKa _ rfl;refine aK2 (aKq (aKk slot_list_sort ⟨_,ob,rfl⟩ entry_list_sort (N8 (κ:=κ) (s:={a with heap:=a.heap.push (seqObj "list" vs.toArray 0)}) O ob (by lia) (λd h' k=>?_) λout l n=>⟨_,rfl,aK3 ⟨_,rfl,?_⟩⟩) (args_list_sort _)))
 ·obtain⟨p,t⟩:=i d h' λb o e=>k b o (aKg (aKb e)) (aK4 _ e);exact⟨p,λf q=>t f _ q⟩
 ·obtain⟨ep,he⟩:=sortedHeap_at (out:=out.toArray) ob;refine h vs a ok out l n _ ep (λb o e=>?_) he;have lb:=aKb e;have u:b<(a.heap.push (seqObj "list" vs.toArray 0)).objs.size:=by rw[size_push'];exact aL7 lb
  rw[sortedHeap_old (Nat.ne_of_lt lb) u];exact aK4 _ e
end
end TS
namespace D3
open PySem PySem.Spec PyProof.Rows L2
section
variable {X:Cx}
theorem Inv.drawn{pins:List (Addr×Obj)}{σ:L2.St}{H:Hp}{s a :Shared}(I:Inv X pins σ H s)(hg:a.gens=s.gens)(ho:a.os=s.os)(e:∀b o,s.heap.get? b=some o->a.heap.get? b=some o):Inv X pins σ H a :=by
 have J:Inv X pins σ H {s with heap:=a.heap,toks:=a.toks}:=I.kept (t' :=a.toks) e;obtain⟨f,g,h,i,a5,a6,j,k,l,c,d⟩:=J;exact⟨f,by rw[ho];exact g,by rw[hg];exact h,i,a5,a6,j,k,l,c,d⟩
theorem DF{ds es:List D}(U:FZ ds)(p:es.Perm ds):FZ es:=by
 rcases U with ⟨c,h⟩ | ⟨c,cs,h⟩
 ·exact .inl ⟨c,λd hd=>h d (p.mem_iff.mp hd)⟩
 ·exact .inr ⟨c,cs,λd hd=>h d (p.mem_iff.mp hd)⟩
end
def nst:Expr->Bool
 | .Starred .. =>false
 | _=>true
def L0:List Expr->Bool
 | []=>true
 | e::es=>nst e && L0 es
theorem vM{e:Expr}{es:List Expr}{env:Env}(h:nst e=true):starEach (e::es) env=(false,eval e env)::starEach es env:=by
 cases e <;> first | rfl | (simp[nst]at h)
theorem qR{pos:Pos}{env:Env}:∀{es:List Expr},L0 es=true->(backTo pos (starEach es env)).any (·.1)=false
 | [],_=>rfl
 | e::es,h=>by
  unfold L0 at h;rw[Bool.and_eq_true]at h;rw[vM h.1];show (false || (backTo pos (starEach es env)).any (·.1))=false;rw[qR h.2];rfl
section
variable {X:Cx}{e:Expr}{es:List Expr}{w:WE}{wr wa:WA}{pos p:Pos}{x:Str}
theorem aJc(ha:LE X e w)(a:LA X es wr)(h:nst e=true:=by rfl):LA X (e::es) (aA w wr):=V6 ha a (vM h)
theorem aFo{k:Nat}{ps:List Str}{s:OA}(F:Fn X.prog X.w X.K X.mg X.base k x ps s)(b:hU k X.A)(ha:LA X (e::es) wr)(hg:Gl X x:=by rfl)(a:(x==("__debug__":Str))=false:=by decide)
  (h:nst e=true:=by rfl) (c:L0 es=true:=by rfl):LE X (.Call (.Name x p) (e::es) [] pos) (aC s wr):=QQ F b ha hg a (vM h) (qR c)
theorem x9{id:String}{f:OA}(b:cD X (.builtin id) (eF X.K f))(hm:X.mg x=none)(c:bootBuiltins x=some (.builtin id))(ha:LA X (e::es) wr)(hg:Gl X x:=by rfl)(d:x≠ "__name__":=by decide)(a:(x==("__debug__":Str))=false:=by decide)
  (h:nst e=true:=by rfl) (g:L0 es=true:=by rfl):LE X (.Call (.Name x p) (e::es) [] pos) (aC f wr):=aFp b hm c ha hg d a (vM h) (qR g)
theorem aBa{T:String}{f:OA}(b:cD X (.type T) (eF X.K f))(hm:X.mg x=none)(c:bootBuiltins x=some (.type T))(ha:LA X (e::es) wr)(hg:Gl X x:=by rfl)(d:x≠ "__name__":=by decide)(a:(x==("__debug__":Str))=false:=by decide)
  (h:nst e=true:=by rfl) (g:L0 es=true:=by rfl):LE X (.Call (.Name x p) (e::es) [] pos) (aC f wr):=aFn b hm c ha hg d a (vM h) (qR g)
end
def JQ:Expr->Bool
 | .ListComp .. =>false
 | .SetComp .. =>false
 | .DictComp .. =>false
 | _=>true
theorem DI{e:Expr}{t:Option Expr}{l:Nat}{env:Env}(h:JQ e=true):swapsWith e t l env=pure false:=by
 cases e <;> first | rfl | (simp[JQ]at h)
section
variable {X:Cx}{e:Expr}{w:WE}{pos:Pos}
theorem aJ7(i:Nat){x:Str}{a :Pos}(hN:X.N.Nodup)(he:LE X e w)(hi:X.N[i]? =some x:=by rfl)(hx:Loc X.env.scope x:=by first | exact Or.inl rfl | exact Or.inr rfl)(hs:JQ e=true:=by rfl)(b:X.fn x=true\/X.env.scope.names.lookup x=some .local:=by first | exact .inl rfl | exact .inr rfl | assumption):
  LS X (.Assign [.Name x a] e pos) (bB w (gN i)):=QF i hN he hi hx (DI hs) b
theorem aJ8(he:LE X e w)(hs:JQ e=true:=by rfl):LS X (.Expr e pos) (eM w):=VT he (DI hs)
end
section
variable {ρ:hX}{mh:MH}{Q:DK}{E:f6}
@[simp] theorem aI6 (w f wi:WE):NY w f wi E ρ mh=(w ρ mh λd a=>f ρ a λo b=>wi ρ b λi c=>YF o i d c λe=>E.nx ρ e):=rfl
@[simp] theorem s_dic (t:Bool):TM t ρ mh Q=(Q (.ref mh.length) (mh++[.dic t []])):=rfl
end
variable{x:Str}
theorem aDj{K:aNq}{h:Heap}{mg:aNt}{i:Int}{t:Tok}(KX:K.In h)(G:h.Ns mainGlobals mg)(e:PySem.W.nsIn K mainGlobals x=some (some (.int i t))):rT K mg x (.int i):=
 ⟨.int i,_,aNk KX G e,⟨t,rfl⟩,λ_ _=>.int⟩
open Classical in
theorem IY(k v:D):∀kvs:List (D×D),(∃p∈kvs,p.1=k)->fS (kvs.map λp=>if p.1=k then (p.1,v) else p) k=some v
 | [],h=>by obtain⟨p,b,_⟩:=h;cases b
 | p::kvs,h=>by
  rw[List.map_cons];by_cases e:p.1=k
  ·simp[fS,e]
  ·simp only[fS,if_neg e];refine IY k v kvs ?_;obtain⟨r,c,a⟩:=h;rcases aKd.mp c with z | z
   ·subst z;exact absurd a e
   ·exact⟨r,z,a⟩
theorem IZ(k v:D):∀kvs:List (D×D),(¬∃p∈kvs,p.1=k)->fS (kvs++[(k,v)]) k=some v
 | [],h=>by simp[fS]
 | p::kvs,h=>by
  have e:¬p.1=k:=λz=>h ⟨p,aK7,z⟩;rw[List.cons_append];simp only[fS,if_neg e];exact IZ k v kvs λa=>by obtain⟨r,b,c⟩:=a;exact h ⟨r,aK8 _ b,c⟩
theorem TN(kvs:List (D×D))(k v:D):fS (putD kvs k v) k=some v:=by
 classical
 unfold putD;by_cases h:∃p∈kvs,p.1=k
 ·rw[if_pos h];exact IY k v kvs h
 ·rw[if_neg h];exact IZ k v kvs h
open Classical in
theorem pT(k v:D){a :D}(b:a ≠k):∀kvs:List (D×D),fS (kvs.map λp=>if p.1=k then (p.1,v) else p) a =fS kvs a
 | []=>rfl
 | p::kvs=>by
  rw[List.map_cons];by_cases e:p.1=k
  ·have c:¬p.1=a :=λz=>b (z.symm.trans e);simp only[if_pos e,fS,if_neg c,pT k v b kvs]
  ·simp only[if_neg e,fS,pT k v b kvs]
theorem vJ(k v:D){a :D}(b:a ≠k):∀kvs:List (D×D),fS (kvs++[(k,v)]) a =fS kvs a
 | []=>by simp[fS,Ne.symm b]
 | p::kvs=>by
  rw[List.cons_append];simp only[fS,vJ k v b kvs]
theorem GA(kvs:List (D×D)){k a :D}(v:D)(b:a ≠k):fS (putD kvs k v) a =fS kvs a :=by
 classical
 unfold putD;split
 ·exact pT k v b kvs
 ·exact vJ k v b kvs
variable{mh:MH}
theorem XT{ns:List Int}{a:Int}{Q:DK}(b:ns.length<=63)(c:0<=a)(d:a<=100)(q:∀mh',(∃o,mh' =mh++[o])->C1 mh' mh.length->Q (.ref mh.length) mh'):vW [.fl (ns.map .int),.int a] mh Q:=⟨ns,a,rfl,b,c,d,q⟩
def bD(mh mh' :MH):Prop:=∃T,mh' =mh++T
theorem bD.refl:bD mh mh:=⟨[],by simp⟩
theorem bD.trans{a b c:MH}(h:bD a b)(h' :bD b c):bD a c:=by
 obtain⟨T,rfl⟩:=h;obtain⟨U,rfl⟩:=h';exact⟨T++U,by simp⟩
variable{mh':MH}
theorem bD.le(h:bD mh mh'):mh.length<=mh'.length:=by obtain⟨U,rfl⟩:=h;simp
variable{n:Nat}{o:MO}
theorem bD.old(h:bD mh mh')(e:mh[n]? =some o):mh'[n]? =some o:=by
 obtain⟨T,rfl⟩:=h;rw[List.getElem?_append_left (List.getElem?_eq_some_iff.mp e).1];exact e
theorem bD.push(h:bD mh mh')(o:MO):bD mh (mh' ++[o]):=by
 obtain⟨T,rfl⟩:=h;exact⟨T++[o],by simp⟩
theorem bD.set(h:bD mh mh')(a:mh.length<=n)(o:MO):bD mh (mh'.set n o):=by
 obtain⟨T,rfl⟩:=h;exact⟨T.set (n-mh.length) o,by rw[List.set_append_right _ _ a]⟩
theorem bD.out{d:D}{R:DK}(h:bD mh mh')(ok:fZ mh)(hd:bX mh.length d=true)(q:R d mh):Out mh.length d mh' R:=by
 obtain⟨T,rfl⟩:=h;exact v5 ok hd q
theorem bD.uB{j:Nat}{R:DK}(h:bD mh mh')(ok:fZ mh)(a:mh.length<=j)(e:mh'[j]? =some o)(hd:GR mh.length o=true)(q:R (.ref mh.length) (mh++[o])):Out mh.length (.ref j) mh' R:=by
 obtain⟨T,rfl⟩:=h;exact .inr (.inr ⟨mh,T,j,o,rfl,aK6 _,ok,rfl,a,e,hd,q⟩)
theorem dF.uB{b j:Nat}{R:DK}(h:dF mh b mh')(ok:fZ mh)(c:mh.length<=j)(e:mh'[j]? =some o)(hd:GR mh.length o=true)(q:∀a,dH mh b a->R (.ref a.length) (a++[o])):Out mh.length (.ref j) mh' R:=by
 obtain⟨a,T,rfl,t⟩:=h;exact .inr (.inr ⟨a,T,j,o,rfl,by rw[t.len];exact aK6 _,t.mok ok,rfl,by rw[t.len];exact c,e,by rw[t.len];exact hd,q a t⟩)
theorem aK{o x:MO}(e:mh[n]? =some o):(mh++[x])[n]? =some o:=by
 rw[List.getElem?_append_left (List.getElem?_eq_some_iff.mp e).1];exact e
theorem B2{mh T:MH}(e:mh[n]? =some o):(mh++T)[n]? =some o:=by
 rw[List.getElem?_append_left (List.getElem?_eq_some_iff.mp e).1];exact e
theorem get_set{n m:Nat}{o x:MO}(e:mh[n]? =some o)(h:m≠n):(mh.set m x)[n]? =some o:=by
 rw[List.getElem?_set_ne h];exact e
theorem bK(x:MO)(e:mh[n]? =some o):(mh.set n x)[n]? =some x:=by
 rw[List.getElem?_set_self (List.getElem?_eq_some_iff.mp e).1]
theorem bE{ds:List D}(e:mh[n]? =some (.lst ds)):bC mh (.ref n)=some ds:=by simp[bC,e]
theorem f9{ds:List D}(e:mh[n]? =some (.lst ds)):nP mh (.ref n)=some ds:=by simp[nP,e]
variable{α:Type}
theorem uS(l:List α)(x:α):fY (l++[x]) (-1)=some x:=by
 unfold fY J9;rw[if_neg (by lia),if_pos (by simp;lia)];simp only[Option.bind_some];have:((-1:Int)+((l++[x]).length:Int)).toNat=l.length:=by simp;lia
 rw[this];simp
theorem lK{f:α->D}{l:List α}{i:Nat}{d:D}(h:(l.map f)[i]? =some d):∃x,l[i]? =some x/\d=f x:=by
 rw[List.getElem?_map]at h;obtain⟨x,a,b⟩:=aL0.mp h;exact⟨x,a,b.symm⟩
theorem p8{α k:Type}{g:WG}{t:WT}{w:WE}{ρe:hX}{St:MH->Prop}{Q:DK}(em:α->D)(p:α->Bool)(f:α->k)(c:k->D):∀(ds:List α) (a:List k) {mh:MH},St mh->
  (∀d∈ds,∀(N:DK) (M:MH->Prop),(p d=true->N (c (f d)) mh)->(p d=false->M mh)->g (em d) ρe λi=>t i mh λb j=>if b=true then w i j N else M j)->
  Q (.ref mh.length) (mh++[.lst ((a++(ds.filter p).map f).map c)])->i6 g t w ρe St Q (ds.map em) (a.map c) mh
 | [],a,mh,hst,_,q=>⟨hst,by simpa using q⟩
 | d::ds,a,mh,hst,h,q=>by
  refine⟨hst,?_⟩;refine h d aK7 _ _ (λl=>?_) λl=>?_
  ·have:=p8 (Q:=Q) (St:=St) (g:=g) (t:=t) (w:=w) (ρe:=ρe) em p f c ds (a++[f d]) hst (λe he=>h e (aK8 _ he)) (by rw[List.filter_cons_of_pos l]at q;simpa using q);simpa using this
  ·exact p8 em p f c ds a hst (λe he=>h e (aK8 _ he)) (by rw[List.filter_cons_of_neg (by simp[l])]at q;exact q)
theorem AD{α c:Type}{g:WG}{w:WE}{ρe:hX}{St:MH->Prop}{Q:DK}(em:α->D)(f:α->c)(b:c->D):∀(ds:List α) (a:List c) {mh:MH},St mh->
  (∀d∈ds,∀(N:DK),N (b (f d)) mh->g (em d) ρe λi=>w i mh N)->
  Q (.ref mh.length) (mh++[.lst ((a++ds.map f).map b)])->i6 g iX w ρe St Q (ds.map em) (a.map b) mh
 | [],a,mh,hst,_,q=>⟨hst,by simpa using q⟩
 | d::ds,a,mh,hst,h,q=>by
  refine⟨hst,?_⟩;simp only[OC,if_true];refine h d aK7 _ ?_;have:=AD (Q:=Q) (St:=St) (g:=g) (w:=w) (ρe:=ρe) em f b ds (a++[f d]) hst (λe he=>h e (aK8 _ he)) (by simpa using q);simpa using this
theorem HY{α j:Type}{g:WG}{t:WT}{w:WE}{ρe:hX}{St:MH->Prop}{Q:DK}(em:α->D)(p:α->Bool)(f:α->j)(e:j->D)(ds:List α)(i:St mh)
  (h:∀d∈ds,∀(N:DK) (M:MH->Prop),(p d=true->N (e (f d)) mh)->(p d=false->M mh)->g (em d) ρe λa=>t a mh λb c=>if b=true then w a c N else M c)
  (q:Q (.ref mh.length) (mh++[.lst (((ds.filter p).map f).map e)])):i6 g t w ρe St Q (ds.map em) [] mh:=p8 em p f e ds [] i h q
theorem fF{α e:Type}{g:WG}{w:WE}{ρe:hX}{St:MH->Prop}{Q:DK}(em:α->D)(f:α->e)(a:e->D)(ds:List α)(b:St mh)
  (h:∀d∈ds,∀(N:DK),N (a (f d)) mh->g (em d) ρe λc=>w c mh N)
  (q:Q (.ref mh.length) (mh++[.lst ((ds.map f).map a)])):i6 g iX w ρe St Q (ds.map em) [] mh:=AD em f a ds [] b h q
def l7(P:Program)(w:World)(K:aNq)(mg:aNt)(base:Heap)(k:Nat)(x:Str)(N:List Str)(st:Stmt)(wB:WS):Prop:=
 ∀(f:Addr) (cdv:Value) (A:Around) (outer:List Env) (s:Shared) (H:Hp) (E:XK),hU k (A.deeper (envOfC x (aF st) s.heap.objs.size f cdv))->
  hZ (xF F2 P w K mg base N x (aF st) f cdv A outer s H E).VD (cR st) wB
section
variable {P:Program}{w:World}{K:aNq}{mg:aNt}{base:Heap}{h:Heap}
theorem cJ{st:Stmt}{N ps:List Str}{k:Nat}{s:OA}{wB:WS}(b:cV K x st)(KX:K.In h)(G:h.Ns mainGlobals mg)(c:bG x st ps)(S:aP N ps (aF st))(e:l7 P w K mg base k x N st wB)(len:∀ds mh R,s ds mh R->ds.length=ps.length)
  (f:∀ds mh R,fZ mh->s ds mh R->wB {nx:=λ_ a=>Out mh.length .b8 a R,rt:=λd a=>Out mh.length d a R} (aG N ds) mh):Fn P w K mg base (k+1) x ps s:=
 aCj b KX G c S len e λds mh R ok _ hs=>f ds mh R ok hs
theorem B4{st:Stmt}{N ps:List Str}{j k:Nat}{s:OA}{wB:WS}(e:k+1=j)(b:cV K x st)(KX:K.In h)(G:h.Ns mainGlobals mg)(c:bG x st ps)(S:aP N ps (aF st))(f:l7 P w K mg base k x N st wB)(len:∀ds mh R,s ds mh R->ds.length=ps.length)
  (g:∀ds mh R,fZ mh->s ds mh R->wB {nx:=λ_ a=>Out mh.length .b8 a R,rt:=λd a=>Out mh.length d a R} (aG N ds) mh):Fn P w K mg base j x ps s:=
 e▸cJ b KX G c S f len g
theorem aBl{st:Stmt}{N:List Str}{k:Nat}{c:Addr}{wB:WS}(KX:K.In h)(G:h.Ns mainGlobals mg)(b:mg "law"=some (.ref c))(e:cV K "law" st)(S:aP N [x] (aF st))(f:bG "law" st [x])
  (g:∀base:Heap,l7 P w K mg base k "law" N st wB)
  (i:∀ds mh R,fZ mh->x3 ds mh R->wB {nx:=λ_ a=>Out mh.length .b8 a R,rt:=λd a=>Out mh.length d a R} (aG N ds) mh):
  ∃fd:FuncData,(∀(s:Shared) (u:Value),BindsTo s fd ⟨[u],[]⟩ [(x,u)])/\∀base:Heap,kZ P w K mg base F2 (k+1) c fd [x] (SU K x3):=
 aBm KX G b e S f λbase=>⟨wB,g base,λds mh R ok _ hs=>i ds mh R ok hs⟩
end
end D3
namespace L2
open PySem PySem.Spec PyProof.Rows
open Builtin Builtin.Str
open AutoSeq1 (wpAny_loadPart')
end L2
namespace D3
open PySem PySem.Spec PyProof.Rows L2
end D3
namespace L2
open PySem PySem.Spec PyProof.Rows
end L2
namespace D3
open PySem PySem.Spec PyProof.Rows L2
end D3
namespace L2
open PySem PySem.Spec PyProof.Rows
section
variable {prog:Program}{w:World}{A:Around}{E:aNr}{s:Shared}
def enO(f0:Value)(it:Addr)(i:Nat)(old:Value):Obj:={cls:= .type "enumerate",dict:=none,data:= .fields #[f0,.bool false,.ref it,rawInt (i:Int),.none,old],slots:= #[]}
structure xX(h:Heap)(e:Addr)(q:Src)(f0:Value)(i:Nat):Prop where
 obj:∃old,h.get? e=some (enO f0 q.it i old)
 at_:q.At h i
variable{e:Addr}{q:Src}{i:Nat}{items:Array Value}
theorem XB{x:Value}{Q:aNr}(Z:xX s.heap e q .none i)(I:q.Sq s.heap items)(hx:items[i]? =some x)(c:e≠q.it)
  (J:∀h',xX h' e q (rawInt s.heap.objs.size) (i+1)->h'.get? s.heap.objs.size=some {cls:= .type "tuple",data:= .seq #[.int i s.toks,x]}->
   (∀b o,b≠e->b≠q.it->s.heap.get? b=some o->h'.get? b=some o)->Q (.ref s.heap.objs.size) {s with heap:=h',toks:=s.toks+1}):
  wpAny (model prog w) A (Builtin.«enumerate.__next__» ⟨[.ref e],[]⟩) (λy K =>∃v,y= .done (.ret v)/\Q v K) E s:=by
 obtain⟨⟨old,he⟩,z⟩:=Z;obtain⟨B,g,d,a,os⟩:=s;have f:e<B.objs.size:=aKb he;show wpAny _ _ (field (.ref e) 2 >>=_) _ _ _;refine aK2 (aKy he rfl (x:= .ref q.it) rfl (aK2 (Src.item z I hx λn C h=>?_)));have D:n.get? e=some (enO .none q.it i old):=(h.2 e c).trans he;show wpAny _ _ (field (.ref e) 3 >>=_) _ _ ⟨n,g,d,a,os⟩;refine aK2 (aKy D rfl (x:=rawInt (i:Int)) rfl ?_);show wpAny _ _ (field (.ref e) 4 >>=_) _ _ ⟨n,g,d,a,os⟩;refine aK2 (aKy D rfl (x:= .none) rfl ?_);show wpAny _ _ (mkInt (i:Int) >>=_) _ _ ⟨n,g,d,a,os⟩;refine aK2 (aNj ?_);show wpAny _ _ (setField (.ref e) 3 (rawInt ((i:Int)+1)) >>=_) _ _ ⟨n,g,d,a+1,os⟩;refine aK2 (aKm D (by simp) λL M p=>?_);show wpAny _ _ (setField (.ref e) 4 .none >>=_) _ _ ⟨L,g,d,a+1,os⟩;refine aK2 (aKm M (by simp) λr N t=>?_);show wpAny _ _ (newTuple [.int i a,x] >>=_) _ _ ⟨r,g,d,a+1,os⟩;refine aK2 (aMb ?_);have hsz:r.objs.size=B.objs.size:=by rw[t.1,p.1,h.1]
 have u:=aK4 {cls:= .type "tuple",data:= .seq #[.int i a,x]} N;have H:(r.push {cls:= .type "tuple",data:= .seq #[.int i a,x]}).get? B.objs.size=some {cls:= .type "tuple",data:= .seq #[.int i a,x]}:=by rw[<-hsz];exact aKa _ rfl
 have F:∀b o,b≠e->n.get? b=some o->(r.push {cls:= .type "tuple",data:= .seq #[.int i a,x]}).get? b=some o:=λb o j G=>aK4 _ (t.extBut b o j (p.extBut b o j G));show wpAny _ _ (Builtin.SmallTypes.ownedTupleIsFree (.ref e) >>=_) _ _ _;rw[hsz];generalize r.push {cls:= .type "tuple",data:= .seq #[.int i a,x]}=h4 at u H F⊢;refine aK2 ?_;unfold Builtin.SmallTypes.ownedTupleIsFree;refine aK2 (aKy u rfl (x:= .none) rfl (aK3 ?_));simp only[if_true];refine aK2 (aL9 (aK2 (aKy u rfl (x:=old) rfl (aK2 (aKm u (by simp) λU O k=>?_)))));refine aK2 ?_;unfold Builtin.SmallTypes.ownedTupleHandOut;refine aK2 (aKm O (by simp) λV P l=>aKm P (by simp) λR S m=>aK2 (wpAny_letGo (aK3 ⟨_,rfl,J R ⟨⟨x,?_⟩,?_⟩ ?_ ?_⟩)))
 ·exact S
 ·exact C.to λo ho=>m.extBut _ _ (aLh c) (l.extBut _ _ (aLh c) (k.extBut _ _ (aLh c) (F _ _ (aLh c) ho)))
 ·exact m.extBut _ _ (aLe f) (l.extBut _ _ (aLe f) (k.extBut _ _ (aLe f) H))
 ·exact λb o j T G=>m.extBut _ _ j (l.extBut _ _ j (k.extBut _ _ j (F _ _ j (h.extBut _ _ T G))))
variable{Q:Option Value->Shared->Prop}
theorem BC{x:Value}(Z:xX s.heap e q .none i)(g:q.Sq s.heap items)(hx:items[i]? =some x)(d:e≠q.it)
  (h:∀h',xX h' e q (rawInt s.heap.objs.size) (i+1)->h'.get? s.heap.objs.size=some {cls:= .type "tuple",data:= .seq #[.int i s.toks,x]}->
   (∀b o,b≠e->b≠q.it->s.heap.get? b=some o->h'.get? b=some o)->Q (some (.ref s.heap.objs.size)) {s with heap:=h',toks:=s.toks+1}):
  wpAny (model prog w) A (pyNext (.ref e)) Q E s:=by
 have f:s.TypeIs (.ref e) "enumerate":=by obtain⟨old,he⟩:=Z.obj;exact⟨_,he,rfl⟩
 unfold pyNext
 exact aK2 (aLn (aKl (name:=Str.ofString "__next__") f aLs (aKk aLs f F.entry_enumerate_next
  (XB Z g hx d λh' a b c=>aK3 (h h' a b c)) (F.args_enumerate_next_1 _))))
theorem ED(f:A.handled=none)(Z:xX s.heap e q .none i)(g:q.Sq s.heap items)(hx:items[i]? =none)
  (h:∀h',Heap.ExtBut q.it s.heap h' ->Q none {s with heap:=h'}):wpAny (model prog w) A (pyNext (.ref e)) Q E s:=by
 obtain⟨old,he⟩:=Z.obj
 have d:s.TypeIs (.ref e) "enumerate":=⟨_,he,rfl⟩
 unfold pyNext;refine aK2 (aLn (aKl (name:=Str.ofString "__next__") d aLs (aKk aLs d F.entry_enumerate_next ?_ (F.args_enumerate_next_1 _))));show wpAny _ _ (field (.ref e) 2 >>=_) _ _ _;refine aK2 (aKy he rfl (x:= .ref q.it) rfl (aK2 (Src.done f Z.at_ g hx λh' x a c =>?_)));obtain⟨o,ho,j⟩:=c;exact aK2 (aM0 (T:= "StopIteration") (b:=true) ⟨o,ho,j⟩ isSubtype_stop (aK3 (h _ a)))
theorem aG7{elts:List Expr}{x1}{pos:Pos}{e T:Addr}{Q:Unit->Shared->Prop}(a:e≠q.it)(Z:xX s.heap e q (rawInt T) i)
  (f:∀h',xX h' e q .none i->Heap.SameBut e s.heap h' ->Q () {s with heap:=h'}):wpAny (model prog w) A (letOwnedTupleGo (.Tuple elts x1 pos) (.ref e) (.ref T)) Q E s:=by
 obtain⟨⟨old,he⟩,b⟩:=Z;exact wpAny_letOwnedTupleGo_enum he λh' c d=>f h' ⟨⟨old,c⟩,b.to λo ho=>d.extBut _ _ (aLh a) ho⟩ d
theorem KA{f0:Value}{Q:aNr}(Z:xX s.heap e q f0 i)(h:Q (.ref e) s):wpAny (model prog w) A (pyIter (.ref e)) Q E s:=by
 have a:s.TypeIs (.ref e) "enumerate":=by obtain⟨old,he⟩:=Z.obj;exact⟨_,he,rfl⟩
 refine aMw a F.slot_enumerate_iter (aKk F.slot_enumerate_iter a F.entry_enumerate_iter ?_ (F.args_enumerate_iter_1 _));exact aK3 ⟨_,rfl,"enumerate",_,a,aLs.lookup,h⟩
end
open AutoSeq1 (wpAny_loadPart')
theorem P9(q:Src):Meets (Builtin.«enumerate.__new__» ⟨[.type "enumerate",.ref q.l],[]⟩) (λ_ R s=>(∃items,q.Sq s.heap items)/\
   ∀h' e,s.heap.objs.size<e->xX h' e ⟨s.heap.objs.size,q.l,q.tup⟩ .none 0->(∀b o,s.heap.get? b=some o->h'.get? b=some o)->R (.ok (.ret (.ref e))) {s with heap:=h'}):=
 .of_wp λprog w A R s h=>by
  obtain⟨hs,n⟩:=h;obtain⟨items,hs⟩:=hs;obtain⟨k,g,d,p,os⟩:=s;have m:=sub_enumerate
  have f:∀a:Heap,(⟨k.objs.size,q.l,q.tup⟩:Src).At a 0->a.objs.size=k.objs.size+1->(∀b o,k.get? b=some o->a.get? b=some o)->
    R (.ok (.ret (.ref a.objs.size))) ⟨a.push {cls:= .type "enumerate",data:= .fields #[.none,.bool false,.ref k.objs.size,rawInt 0,.none,.none]},g,d,p,os⟩:=λa i j k1=>
   n _ _ (by show k.objs.size<_;lia) ⟨⟨.none,aKa _ rfl⟩,i.to λo e=>aK4 _ e⟩ λb o e=>aK4 _ (k1 b o e)
  unfold Builtin.«enumerate.__new__»
  wp_walk
  refine wpAny_stack_any λst=>aK3 ?_;split
  ·rename_i c _ _ _ _ _;cases (c==Value.type "enumerate")
   ·wp_walk using Src.start hs
    intro a i j k1
    wp_walk
    exact⟨_,rfl,f a i j k1⟩
   ·wp_walk using Src.start hs
    intro a i j k1
    wp_walk
    exact⟨_,rfl,f a i j k1⟩
  ·wp_walk using Src.start hs
   intro a i j k1
   wp_walk
   exact⟨_,rfl,f a i j k1⟩
section
variable {prog:Program}{w:World}{A:Around}{E:aNr}{s:Shared}
theorem XM{q:Src}{Q:aNr}(hs:∃items,q.Sq s.heap items)
  (h:∀h' e,s.heap.objs.size<e->xX h' e ⟨s.heap.objs.size,q.l,q.tup⟩ .none 0->(∀b o,s.heap.get? b=some o->h'.get? b=some o)->Q (.ref e) {s with heap:=h'}):
  wpAny (model prog w) A (call (.type "enumerate") [Value.ref q.l]) Q E s:=
 callType_new F.called_enumerate (by decide) (F.typeCall_enumerate_1 _) (F.newCall_enumerate_1 _) (λobj=>F.args_object_init_2 obj _) F.entry_enumerate_new (P9 q)
  ⟨hs,λh' e t Z k=>⟨by obtain⟨old,he⟩:=Z.obj;exact⟨_,he,rfl⟩,h h' e t Z k⟩⟩
end
def Ite(K:aNq)(a:Addr)(t:Bool):It where
 go:=λi H=>∃xs v,F6 K H t a xs/\xs[i]? =some v
 yld:=λi H x H' =>∃p v,H p=none/\x= .ref p/\H' =upd H p (.tup [.int i,v])/\∀xs,F6 K H t a xs->xs[i]? =some v
 stop:=λi H=>∃xs,F6 K H t a xs/\xs.length<=i
theorem TU{P:Program}{w:World}{K:aNq}{elts:List Expr}{x1}{pos:Pos}{e:Addr}{q:Src}(f:e≠q.it):
  Turn P w K (.Tuple elts x1 pos) (Ite K q.l q.tup) [e,q.it] e (λi h=>xX h e q .none i) where
 mem:=aK7
 self:=λA i s Q E Z h=>KA Z h
 obj:=λi h Z b a=>by
  simp only[List.mem_cons,List.not_mem_nil,or_false]at a;rcases a with rfl | rfl
  ·obtain⟨old,he⟩:=Z.obj;exact⟨_,he,λv z=>by cases z⟩
  ·obtain⟨o,ho,hd⟩:=Z.at_.obj;exact⟨o,ho,λv z=>by rw[hd]at z;cases z⟩
 keep:=λi h h' Z k=>by
  obtain⟨⟨old,he⟩,m⟩:=Z;exact⟨⟨old,k e (by simp) _ he⟩,m.to λo ho=>k q.it (by simp) o ho⟩
 item:=by
  intro X n p t B i pins s σ H E I j Z hg;subst n p t;obtain⟨xs,v,hx,hi⟩:=hg;obtain⟨aL,D,hs⟩:=I.ZI hx;obtain⟨u,F,r⟩:=D.get hi;refine BC Z (hs q.it) (by simpa using F) f λG J C k1=>?_;refine⟨_,rfl,aG7 (s:={s with heap:=G,toks:=s.toks+1}) f J λL M d=>?_⟩;have g:e<s.heap.objs.size:=by obtain⟨old,he⟩:=Z.obj;exact aKb he
  have x:q.it<s.heap.objs.size:=by obtain⟨o,ho,_⟩:=Z.at_.obj;exact aKb ho
  have c:s.heap.objs.size≠e:=aLe g
  have kk:∀b o,b∉[e,q.it]->s.heap.get? b=some o->L.get? b=some o:=λb o a ho=>by
   simp only[List.mem_cons,List.not_mem_nil,or_false,not_or]at a;exact d.extBut _ _ a.1 (k1 b o a.1 a.2 ho)
  refine⟨.ref s.heap.objs.size,upd H s.heap.objs.size (.tup [.int i,v]),I.YR (t' :=s.toks+1) j kk (aK6 _) ⟨by have:=aKc;simp;lia,[.int i s.toks,u],.cons ⟨_,rfl⟩ (.cons r .nil),⟨_,d.extBut _ _ c C,rfl,0,rfl⟩,λo ho=>by rw[d.extBut _ _ c C]at ho;cases ho;rfl⟩,rfl,?_,M,λb a=>?_⟩
  ·refine⟨s.heap.objs.size,v,I.cI.fresh (aK6 _),rfl,rfl,λR N=>?_⟩;rw[I.JD N hx];exact hi
  ·have y:=(j b a).1
   have:b≠s.heap.objs.size:=by
    simp only[List.mem_cons,List.not_mem_nil,or_false]at a;rcases a with rfl | rfl
    ·exact aKg g
    ·exact aKg x
   rw[aW this];exact y
 done:=by
  intro X n p t B i pins s σ H E I j Z hg;subst n p t;obtain⟨xs,hx,O⟩:=hg;obtain⟨aL,r,hs⟩:=I.ZI hx
  refine ED (I.ok.hd B) Z (hs q.it) ?_ λh' kp=>⟨rfl,I.RL (t' :=s.toks) j λb o a ho=>kp b o (λz=>a (by simp[z])) ho⟩
  have:=r.length;rw[List.getElem?_toArray];exact aLt.mpr (by lia)
def iEn(K:aNq)(c:TA):TI:=λσ H R=>c σ H λvs b=>∃a t,vs=[.ref a]/\(∃xs,F6 K b t a xs)/\R (Ite K a t) b
theorem aEr{X:Cx}{e:Expr}{j:TA}{p pos:Pos}{elts:List Expr}{x1}{c:Pos}(hg:Gl X "enumerate")(hm:X.mg "enumerate"=none)(ha:PA X [e] j)
  (m:bootBuiltins "enumerate"=some (.type "enumerate"):=by decide+kernel)
  (hs:starEach [e] X.env=(false,eval e X.env)::starEach [] X.env:=by rfl):
  PI X (.Tuple elts x1 c) (.Call (.Name "enumerate" p) [e] [] pos) (iEn X.K j):=by
 intro pins s σ H R I h;refine aM3 (pZ I hg hm m ?_);refine aLd (dJ (ha pos pins s σ H _ I h) λus s1 ⟨vs,g,f,n,o⟩=>?_) hs rfl;obtain⟨a,t,rfl,⟨xs,hx⟩,r⟩:=o;obtain⟨u,rfl,v⟩:=vals1 n;cases v;obtain⟨aL,_,i⟩:=f.ZI hx;refine XM (q:=⟨0,a,t⟩) ⟨aL.toArray,i 0⟩ λh' z k Z kp=>?_;have x:Inv X pins σ g {s1 with heap:=h'}:=f.kept (t' :=s1.toks) kp;have T:=TU (P:=X.prog) (w:=X.w) (K:=X.K) (elts:=elts) (x1:=x1) (pos:=c) (e:=z) (q:=⟨s1.heap.objs.size,a,t⟩) (aLe k);refine KA Z ⟨z,_,_,Ite X.K a t,g,rfl,x,T,Z,λb l=>?_,r⟩
 have d:s1.heap.objs.size<=b:=by
  simp only[List.mem_cons,List.not_mem_nil,or_false]at l;rcases l with rfl | rfl
  ·exact aLy k
  ·exact aK6 _
 exact(f.RM d (f.cI.fresh d):xW X pins g b)
end L2
namespace D3
open PySem PySem.Spec PyProof.Rows L2
def IW(f wi g:WE):WE:=λc mh Q=>f c mh λo a=>∃n,o= .ref n/\(∃kvs,a[n]? =some (.dic false kvs))/\wi c a λi d=>g c d λx b=>∃kvs e,b[n]? =some (.dic false kvs)/\i=c6 e/\Q ((fS kvs i).getD x) b
section
variable {X:Cx}{o i x:Expr}{wo wi wx:WE}{apos c8 pos tpos:Pos}
theorem aC4{K:aNq}{μ:List Addr}{mh:MH}{H:Hp}{n:Nat}{v:V}{kvs:List (D×D)}(R:Rep K μ mh H)(h:Is K μ H (.ref n) v)(e:mh[n]? =some (.dic false kvs)):∃a,v= .ref a/\IsD H a:=by
 obtain⟨a,vs,rfl,c,⟨kk,b,_,_⟩,_⟩:=B5 R h e;exact⟨a,rfl,.inl ⟨kk,.inl b⟩⟩
theorem V2(U:X.A.units+64<cLine)(ho:LE X o wo)(hi:LE X i wi)(hx:LE X x wx)(base:attributeBase o "get" X.env (eval o X.env)=eval o X.env:=by rfl)
  (F4:((backTo c8 (starEach [i,x] X.env)).all (λx=>!x.1) && (backToKw c8 (keywordEach [] X.env)).all (λx=>x.1.isSome) && decide (([i,x]:List Expr).length+([]:List Keyword).length+(if ([]:List Keyword).isEmpty then 0 else 1)<30))=true:=by rfl)
  (line:(apos.endLine==c8.line)=true:=by rfl) (trees:backTo c8 (starEach [i,x] X.env)=[(false,eval i X.env),(false,eval x X.env)]:=by rfl):
  LE X (.Call (.Attribute o "get" apos) [i,x] [] c8) (IW wo wi wx):=PE.imp (O9 (by lia) ho hi hx ⟨base,F4,line,trees⟩) λσ H Q h=>by
 obtain⟨μ,b,mh,R,c,En,h,F⟩:=h;refine⟨μ,b,mh,_,c,En,h,λE d q f V W g j y=>?_⟩;obtain⟨n,rfl,⟨z,G⟩,q⟩:=q;obtain⟨a,rfl,I⟩:=aC4 j y G;refine⟨a,rfl,I,f,b,d,_,j,En.mono c g,q,λY m J p Z H2 r R2 K=>?_⟩;refine⟨p,b,m,_,R2,En.mono c (g.trans r),J,λdx L M N vx H3 B s O=>?_⟩;obtain⟨kvs,t,e,rfl,q⟩:=M;obtain⟨a',vs,P,hn,⟨kk,C,S,rfl⟩,l⟩:=B5 s (Is.mono j (r.trans B) _ _ y) e;cases P;cases uT K;have D:=F.at ((g.trans r).trans B)
 rcases AS t S l with ⟨u,v⟩ | ⟨d',w,u,v,T⟩
 ·rw[v]at q;exact⟨none,by rw[<-u];exact .k C,D.here s q O⟩
 ·rw[v]at q;exact⟨some w,by rw[<-u];exact .k C,D.here s q T⟩
@[simp] theorem aIo {c:hX}{mh:MH}{Q:DK}:IW wo wi wx c mh Q=(wo c mh λo a=>∃n,o= .ref n/\(∃kvs,a[n]? =some (.dic false kvs))/\wi c a λi d=>wx c d λx b=>∃kvs e,b[n]? =some (.dic false kvs)/\i=c6 e/\Q ((fS kvs i).getD x) b):=rfl
end
theorem aB2{X:Cx}(i j:Nat){x y:Str}{a b:Expr}{p:WA}{px k pt pos:Pos}{l k2:Nat}{c:Pos}(w:X.calm=true)(hN:X.N.Nodup)(ha:LA X [a,b] p)(hi:X.N[i]? =some x:=by rfl)(z:X.N[j]? =some y:=by rfl)(m:i≠j:=by decide)
  (hx:X.env.scope.names.lookup x=some .local:=by rfl) (A:X.env.scope.names.lookup y=some .local:=by rfl)
  (B:swappedStores [.Tuple [.Name x px,.Name y k] l pt] (.Tuple [a,b] k2 c) X.env=pure (some [x,y]):=by rfl)
  (hs:swapsWithSole [.Tuple [.Name x px,.Name y k] l pt] (.Tuple [a,b] k2 c) pos.line X.env=pure false:=by rfl):
  LS X (.Assign [.Tuple [.Name x px,.Name y k] l pt] (.Tuple [a,b] k2 c) pos) (bB (cX p) (gT 2 (aQ (gN i) (aQ (gN j) eG)))):=
 PS.imp (Z3 w hN hi z m hx A ha B hs) λD σ H h=>by
  obtain⟨μ,C,mh,E,s,En,h,F⟩:=h;refine⟨μ,C,mh,_,s,En,h,λds n G o vs I t J f=>?_⟩;obtain⟨_,K,e,O,d,r,rfl,P,Q,rfl,rfl,q⟩:=G;cases e;unfold IsL at f;obtain⟨v,R,rfl,f,g⟩:=f;unfold IsL at g;obtain⟨L,M,rfl,g,u⟩:=g;unfold IsL at u;subst u;exact⟨v,L,rfl,F.nx _ n q o _ I t J (((En.mono s t).set i f).set j g)⟩
abbrev cF(P:Program)(W:World)(K:aNq)(mg:aNt)(base:Heap)(N:List Str)(q:Str)(S:Stmt)(f:Addr)(a:Value)(A:Around)(o:List Env)(s:Shared)(H:Hp)(E:XK):Cx:=(xF F2 P W K mg base N q (aF S) f a A o s H E).VD
section
variable {P:Program}{W:World}{K:aNq}{mg:aNt}{base:Heap}{N:List Str}{q:Str}{S:Stmt}{f:Addr}{cd:Value}{A:Around}{o:List Env}{s:Shared}{H:Hp}{E:XK}
 {tg iter elt:Expr} {ifs:List Expr} {scope:Scope} {pos:Pos} {wi:WI} {g:TG} {gd:WG} {t:WT} {w:WE} (own:List Str) (aO:List Nat)
def cN(N own:List Str)(aO:List Nat):List Str:=own++aO.map λi=>N.getD i ""
theorem aBf(chk:gQ N (aF S) scope aO=true)(nd:(cN N own aO).Nodup)(a:rV K g gd)(ho:xV own.length g)
  (hi:LI (cF P W K mg base N q S f cd A o s H E) tg iter wi)
  (hg:(cN N own aO).Nodup->∀cl C fp s₀ H₀,PG (aZ (cF P W K mg base N q S f cd A o s H E) own aO scope cl C fp s₀ H₀) tg g) (ht:∀cl C fp s₀ H₀,TB (aZ (cF P W K mg base N q S f cd A o s H E) own aO scope cl C fp s₀ H₀) ifs t)
  (he:∀cl C fp s₀ H₀,LE (aZ (cF P W K mg base N q S f cd A o s H E) own aO scope cl C fp s₀ H₀) elt w)
  (hs:∀x,foldedSetIterable iter (cF P W K mg base N q S f cd A o s H E).env x=pure x:=by intro _;rfl):LE (cF P W K mg base N q S f cd A o s H E) (.ListComp elt [⟨tg,iter,ifs,0⟩] scope pos) (rW own aO wi gd t w):=
 YL (N:=N) (sc:=aF S) own aO rfl rfl chk rfl hi ho a (hg nd) ht he hs
theorem L5{i:Nat}{x:Str}{a c:Pos}(chk:gQ N (aF S) scope aO=true)(nd:(cN N own aO).Nodup)(d:rV K g gd)(ho:xV own.length g)
  (hN:N.Nodup) (hi:LI (cF P W K mg base N q S f cd A o s H E) tg iter wi)
  (hg:(cN N own aO).Nodup->∀cl C fp s₀ H₀,PG (aZ (cF P W K mg base N q S f cd A o s H E) own aO scope cl C fp s₀ H₀) tg g) (ht:∀cl C fp s₀ H₀,TB (aZ (cF P W K mg base N q S f cd A o s H E) own aO scope cl C fp s₀ H₀) ifs t)
  (he:∀cl C fp s₀ H₀,LE (aZ (cF P W K mg base N q S f cd A o s H E) own aO scope cl C fp s₀ H₀) elt w)
  (b:N[i]? =some x:=by rfl) (hx:Loc (cF P W K mg base N q S f cd A o s H E).env.scope x:=by first | exact Or.inl rfl | exact Or.inr rfl) (e:swapsWith (.ListComp elt [⟨tg,iter,ifs,0⟩] scope pos) (some (.Name x a)) c.line (cF P W K mg base N q S f cd A o s H E).env=pure true:=by rfl)
  (h:(cF P W K mg base N q S f cd A o s H E).fn x=true\/(cF P W K mg base N q S f cd A o s H E).env.scope.names.lookup x=some .local:=by first | exact .inl rfl | exact .inr rfl | assumption)
  (hs:∀x,foldedSetIterable iter (cF P W K mg base N q S f cd A o s H E).env x=pure x:=by intro _;rfl):LS (cF P W K mg base N q S f cd A o s H E) (.Assign [.Name x a] (.ListComp elt [⟨tg,iter,ifs,0⟩] scope pos) c) (bB (rW own aO wi gd t w) (gN i)):=
 QH i hN (N:=N) (sc:=aF S) own aO rfl rfl chk rfl hi ho d (hg nd) ht he b hx e h hs
end
section
variable {X:Cx}{pins:List (Addr×Obj)}{σ:L2.St}{H:Hp}{s:Shared}{a:Addr}
theorem V9{b:Addr}{ks:List Key}(I:Inv X pins σ H s)(e:t9 X.K H b (ks.map kV)):(tupleKind (aR X.prog X.w)).is s.heap ks b:=by
 obtain⟨aL,r,⟨o,a,c,n,d⟩,_⟩:=I.tuple e;exact⟨o,aL.toArray,n,a,c,d,by simpa using sJ r⟩
theorem UE{prog:Program}{w:World}{A:Around}{E:aNr}{s:Shared}{d:Addr}{es:Array DictEntry}{ep:Nat}{Q:aNr}(hd:(d==sysModules)=false)(hm:CZ s.heap d es ep)(b:(es.size:Int)<2^63)
  (h:∀t k,Q (.int es.size t) {s with toks:=k}):wpAny (model prog w) A (call (.builtin "len") [.ref d]) Q E s:=by
 refine aMg kind_len plain_len entry_len (args_len1 _) ?_;unfold Builtin.«len»;refine aK2 (m:=oneArg "len" _) (aK3 ?_)
 have M:MeetsIn prog w (Builtin.«dict.__len__» ⟨[.ref d],[]⟩) (λ_ R s=>CZ s.heap d es ep/\R (.ok (.ret (.int es.size s.toks))) {s with toks:=s.toks+1}):= .of_wp λA R s ⟨hm,h⟩=>by
  obtain⟨o,ho,c,a⟩:=hm;show wpAny _ _ (dictSize d >>=_) _ _ s;unfold dictSize;refine aK2 (aK2 (wpAny_dictEntries ho a (aK3 ?_)));show wpAny _ _ (Builtin.Dict.pendingCount d >>=_) _ _ s;refine aK2 (wpAny_pendingCount_other hd ?_);refine wpAny_ret_mkInt ?_;rw[Nat.add_zero];exact h
 refine aK2 (m:=callSpecial? (.ref d) (Str.ofString "__len__")) (aKl (name:=Str.ofString "__len__") hm.typeIs F.slot_dict_len
  (call_meetsIn F.slot_dict_len hm.typeIs F.entry_dict_len (F.args_dict_len_1 _) M ⟨hm,?_⟩))
 show wpAny _ _ _ _ _ {s with toks:=s.toks+1};refine aK2 (aKq (aK3 ?_));refine aK2 (wpAny_letGo ?_);show wpAny _ _ (if ((es.size:Nat):Int)<0 then _ else _) _ _ _;rw[if_neg (by lia)];show wpAny _ _ (if ((es.size:Nat):Int)>=2^63 then _ else _) _ _ _;rw[if_neg (by lia)];exact aK2 (aNj (aK3 ⟨_,rfl,h _ _⟩))
end
open PySem.Calls
theorem aH7{l:PySem.W.OpenLaw}{q:Program}{loose:List Str}{K:Params->aNq}{as:List Addr}{d:DefRec}{a:List (Str×Expr)}{N:Nat}(ok:l.wellSaid=true)(e:∀P,as=(K P).map (·.1))
  (left:PySem.W.LeftO l.prog q loose (λ_=>true) (λs=>as.map s.heap.get?) (λw=>(K w.params).map λp=>some p.2) N)
  (b:PySem.W.defOf q l.name=some (d,a)) (h:l.prog.theDef l.name=some (d.params,d.body,d.scope)) (i:PySem.W.kwWritten? d.params.kwonlyargs d.params.kw_defaults=some a)
  (g:(PySem.W.chainsOk q && PySem.W.opensWell l.prog && (PySem.W.frees l.row.toRowW && l.row.within.isEmpty))=true) (j:l.prog.bare) (k:l.row.toRowW.promised)
  (call:PySem.W.WalkO q loose (λ_ _=>True) (PySem.W.InK K) l.row.toRowW d a λf vs=>PySem.call f vs):l.Holds:=
 PySem.W.holds_law ok λc=>PySem.W.holds_open (r:=l.row) (XP:=λ_ _=>True) left (PySem.W.InK.of e) PySem.W.InK.keeps (λ_ _=>trivial) (λ_ _ _ _ _=>trivial) b h i
  (λs _=>PySem.W.recFacts_of (R:=[]) rfl) (Bool.or_true _) c g j k call
theorem JA{ds es:List D}(U:FZ ds)(p:∀d∈es,d∈ds):FZ es:=by
 rcases U with ⟨c,h⟩ | ⟨c,cs,h⟩
 ·exact .inl ⟨c,λd hd=>h d (p d hd)⟩
 ·exact .inr ⟨c,cs,λd hd=>h d (p d hd)⟩
section
variable {P:Program}{W:World}{K:aNq}{mg:aNt}{base:Heap}{N:List Str}{q:Str}{S:Stmt}{f:Addr}{cd:Value}{A:Around}{o:List Env}{s:Shared}{H:Hp}{E:XK}
 {tg iter elt:Expr} {ifs:List Expr} {scope:Scope} {pos p1 p2:Pos} {wi:WI} {g:TG} {gd:WG} {t:WT} {w:WE} (own:List Str) (aO:List Nat)
end
theorem AA{prog:Program}{w:World}{A:Around}{E:aNr}{it l:Addr}{items:Array Value}(d:l≠it):∀(n i:Nat) (s:Shared) (Q:List Value->Shared->Prop),s.heap.IsListIter it l i->s.heap.IsList l items->i+n<=items.size->
  (∀h',h'.IsListIter it l (i+n)->Heap.SameBut it s.heap h' ->Q ((items.toList.drop i).take n) {s with heap:=h'})->wpAny (model prog w) A (draw (.ref it) n) Q E s
 | 0,i,s,Q,a,_,_,q=>aK3 (by simpa using q s.heap a (Heap.SameBut.refl ..))
 | n+1,i,s,Q,a,b,c,q=>by
  have e:i<items.size:=by lia
  show wpAny _ _ (pyNext (.ref it) >>=_) Q E s;refine aK2 (wpAny_pyNext_list_item a b (x:=items[i]) (by simp[e]) λj f s1=>?_);refine aK2 (aKq (AA d n (i+1) _ _ f (b.extBut s1.extBut d) (by lia) λg h s2=>aK3 ?_));have:=q g (by rw[show i+(n+1)=i+1+n by lia];exact h) (s1.trans s2);rw[show items.toList.drop i=items[i]::items.toList.drop (i+1) by simp[List.drop_eq_getElem_cons,e],List.take_succ_cons]at this;exact this
variable {X:Cx}{pos:Pos}
def aJj(K:aNq)(n:Nat)(t:F0):TG:=λv σ H Q=>∃a xs,v= .ref a/\qB K H a xs/\xs.length=n/\t xs σ H Q
theorem Z8{es:List Expr}{k:Nat}{t:F0}{n:Nat}(p:X.calm=true)(h:XX X es t)
  (q:(assignEach es X.env).length=n:=by rfl) (f:(assignEach es X.env).findIdx? (·.1)=none:=by rfl):PG X (.Tuple es k pos) (aJj X.K n t):=by
 intro pins s σ H v u Q I r g;obtain⟨a,xs,w,x,B,g⟩:=g;subst w;cases r;obtain⟨aL,l,m,hz⟩:=I.list x;have C:=l.length;rw[assign_Tuple];refine aK2 (aMj ?_);unfold unpack;rw[q,f];refine aK2 (aKq ?_);unfold unpackItems;refine aK2 ?_;unfold notIterableAtAll;refine aK2 (aLw m.isList.typeIs slot_list_iter.lookup ?_);refine aK3 ?_;simp only[Bool.false_eq_true,if_false];refine aK2 (aKq (zR m.isList λs2 y st c=>?_));subst y;refine aK2 (aKq (AA c n 0 _ _ st.1 st.2 (by simp;lia) λD i d=>?_));rw[show List.take n (List.drop 0 aL.toArray.toList)=aL from List.take_of_length_le (by simp;lia),if_neg (by lia)];refine aK2 (aKq (wpAny_pyNext_list_end (I.ok.hd p) i (st.2.extBut d.extBut c) (by simp;lia) λz j=>?_));simp only[Option.isSome_none,Bool.false_eq_true,if_false];refine aK3 ?_;have A:Inv X pins σ H {s with heap:=z}:=I.kept (t' :=s.toks) λb o e=>j b o (aKg (aKb e)) (d.extBut b o (aKg (aKb e)) (aK4 _ e));exact h pins _ σ H xs _ Q A l g
def IX(w:WE)(n:Nat)(u:NS):WS:=λE c mh=>w c mh λd a=>∃ds,nP a d=some ds/\ds.length=n/\u ds c λb =>E.nx b a
theorem aB0{es:List Expr}{k:Nat}{e:Expr}{t:F0}{u:NS}{n:Nat}{w:WE}{tp:Pos}(s:X.calm=true)(he:LE X e w)(h:XX X es t)(x:xU X.K t u)(y:(assignEach es X.env).length=n:=by rfl)(f:(assignEach es X.env).findIdx? (·.1)=none:=by rfl)
  (hs:swapsWithSole [.Tuple es k tp] e pos.line X.env=pure false:=by rfl) (z:swappedStores [.Tuple es k tp] e X.env=pure none:=by rfl)
  (A:(assignEach [.Tuple es k tp] X.env).map (·.2)=[assign (.Tuple es k tp) X.env]:=by rfl):LS X (.Assign [.Tuple es k tp] e pos) (IX w n u):=
 PS.imp (GO he (Z8 s h y f) hs z A) λD σ H h=>by
  obtain⟨μ,o,mh,E,R,En,h,F⟩:=h;refine⟨μ,o,mh,_,R,En,h,λd b q c v p r g B=>?_⟩;obtain⟨ds,C,G,q⟩:=q;obtain⟨a,vs,rfl,sq,l⟩:=sG g B C;exact⟨a,vs,rfl,sq,by rw[aY l];exact G,x vs σ p _ c o b ds _ g (En.mono R r) l q λi q' j m =>F.nx i b q' c j p r g m⟩
@[simp] theorem aIp {w:WE}{n:Nat}{u:NS}{E:f6}{b:hX}{mh:MH}:IX w n u E b mh=w b mh λd a=>∃ds,nP a d=some ds/\ds.length=n/\u ds b λc =>E.nx c a:=rfl
def tupK(k:List Key):D:= .tup (k.map c6)
def AM(w:World)(p:Addr)(es:Array (Int×Value)):HO:= .ext λ_ h=>ST.sU (ST.eV w) h p es
theorem N9{P:Program}{w:World}{H:Hp}{h:Heap}{p:Addr}{es:Array (Int×Value)}(x:ST.sU (ST.eV w) h p es):cT P w H h p (AM w p es):=
 ⟨x,by obtain⟨o,_,_,ho,_⟩:=x;exact⟨o,ho⟩,λa b q k=>q.keep λo e=>k o e⟩
theorem P8{P:Program}{w:World}(k:Key)(v:Value)(h:(aR P w).is k v=true):v.scannable=true:=by
 rcases bJ (k:=k) (v:=v) h with ⟨i,t,_,rfl⟩ | ⟨x,t,_,rfl⟩ <;> rfl
section
variable {X:Cx}
structure aJx(X:Cx)(H:Hp)(ks:List (List Key))(es:Array (Int×Value))(ps:List (List Key×Addr)):Prop where
 es:es.toList=ps.map (ST.NQ (aR X.prog X.w))
 pm:(ps.map (·.1)).Perm (ST.eC [] ks)
 nd:(ST.eC [] ks).Nodup
 at' :∀p∈ps,CV X.K H p.2 (p.1.map kV)
theorem NG(O:X.A.units+64<cLine)(B:X.calm=true):cD X (.type "set") (λxs H Q=>∃(a:Addr) (ks:List (List Key)) (vs:List V),xs=[.ref a]/\(qB X.K H a vs\/t9 X.K H a vs)/\ks.length=vs.length/\(∀(i:Nat) (v:V),vs[i]? =some v->∃k b,ks[i]? =some k/\v= .ref b/\CV X.K H b (k.map kV))/\ks.length<64/\
  ∀p es ps,H p=none->aJx X H ks es ps->Q (.ref p) (upd H p (AM X.w p es))):=by
 intro pins s σ H xs us Q I r q;obtain⟨a,ks,vs,rfl,sq,P,hi,R,q⟩:=q;obtain⟨u,rfl,C⟩:=vals1 r;cases C
 obtain⟨aL,c,d,hz⟩:∃aL:List Value,Vals vs aL/\(s.heap.IsList a aL.toArray\/s.heap.IsTuple a aL.toArray)/\aL.length=vs.length:=by
  rcases sq with sq | sq
  ·obtain⟨aL,c,d,_⟩:=I.list sq;exact⟨aL,c,.inl d.isList,c.length.symm⟩
  ·obtain⟨aL,c,d,_⟩:=I.tuple sq;exact⟨aL,c,.inr d,c.length.symm⟩
 have f:∀k b,CV X.K H b (k.map kV)->IsTupleKey (aR X.prog X.w) s.heap k b:=λk b h=>V9 I h.sq;refine ST.GH (knd:=aR X.prog X.w) (Ad:=λk b=>CV X.K H b (k.map kV)) (xs:=ks) (by lia) P8 (I.ok.hd B) d (by simp;lia) (λi v h=>?_) (λk b h=>by obtain⟨o,_,_,e,_⟩:=f k b h;exact aKb e) (by simp;lia) λh' D E F=>?_
 ·have l:aL[i]? =some v:=by simpa using h
  obtain⟨j,G,J⟩:∃j,vs[i]? =some j /\RelV j v:=by
   cases e:vs[i]? with
   | none=>rw[c.none_of e]at l;cases l
   | some x=>obtain⟨u,y,L⟩:=c.get e;rw[l]at y;cases y;exact⟨x,rfl,L⟩
  obtain⟨k,b,M,rfl,z⟩:=hi i j G;cases J;exact⟨k,b,M,rfl,f k b z,z⟩
 ·obtain⟨o,es,ep,t,ps,S,pm,nd,led,F4,m⟩:=E;have sz:=aL4 List.length S.he;have ln:=pm.length_eq;have N:=ST.jU ks [];simp at sz ln N;have g :=S.tb.tok;rw[led]at g
  have n:ST.sU (ST.eV X.w) h' s.heap.objs.size es:=⟨o,ep,t,S.ho,S.hx,S.hd,by unfold scanBound;lia,S.tb.fits (by simp;lia),g⟩
  exact⟨.ref s.heap.objs.size,_,I.laid (a:=s.heap.objs.size) (o:=AM X.w s.heap.objs.size es) (t' :=D) (λb o e=>F b o (aKb e) e) (aK6 _) (N9 n),rfl,q _ es ps (I.cI.fresh (aK6 _)) ⟨S.he,pm,nd,m⟩⟩
theorem CG(hu:X.A.units+64<cLine)(T:X.calm=true):cD X (.builtin "sorted") (λxs H Q=>∃p es ps,xs=[.ref p]/\H p=some (AM X.w p es)/\es.toList=ps.map (ST.NQ (aR X.prog X.w))/\(∀x∈ps,CV X.K H x.2 (x.1.map kV))/\ps.length<64/\FZ (ps.map λx=>tupK x.1)/\
  ∀g :List (List Key×Addr),g.Perm ps->(g.map λx=>tupK x.1).Pairwise (λd e=>lx (enc e) (enc d)=false)->∀q,H q=none->Q (.ref q) (upd H q (.lst (g.map λx=>.ref x.2)))):=by
 intro pins s σ H xs us Q I r q;obtain⟨p,es,ps,rfl,e,he,F,hl,U,q⟩:=q;obtain⟨u,rfl,W⟩:=vals1 r;cases W;have Y:ST.sU (ST.eV X.w) s.heap p es:=(I.cI p _ e).1;have sz:=aKc;have el:es.size=ps.length:=by have:=aL4 List.length he;simpa using this
 have Z:X.A.in1.in1.units+40<cLine:=by show X.A.units+1+1+40<_;lia
 have ev:es.toList.map (·.2)=ps.map λx=>Value.ref x.2:=by rw[he,List.map_map];rfl
 have j:∀l:List (List Key×Addr),(∀x∈l,x∈ps)->IsL X.K [] H (l.map λx=>tupK x.1) (l.map λx=>V.ref x.2):=by
  intro l
  induction l with
  | nil=>intro _;simp[IsL]
  | cons x l ih=>
   intro h;simp only[List.map_cons];unfold IsL;refine⟨_,_,rfl,?_,ih λy hy=>h y (aK8 _ hy)⟩;unfold tupK Is;exact⟨_,_,rfl,F x (h x aK7),BU _⟩
 have i:∀l:List (List Key×Addr),Vals (l.map λx=>V.ref x.2) (l.map λx=>Value.ref x.2):=by
  intro l
  induction l with
  | nil=>exact .nil
  | cons x l ih=>exact .cons rfl ih
 have vl:∀l:List (List Key×Addr),l.Perm ps->cM s.heap (l.map λx=>tupK x.1) (l.map λx=>Value.ref x.2):=λl c=>
  jZ I _ (oM (DF U (c.map _))) (j l λx hx=>c.mem_iff.mp hx) (i l)
 refine TS.DL (A:=X.A) (G2 s.heap) (Ok:=λvs a =>(∃l:List (List Key×Addr),l.Perm ps/\vs=l.map λx=>Value.ref x.2)/\a.gens=s.gens/\a.os=s.os/\∀b o,s.heap.get? b=some o->a.heap.get? b=some o)
  (λE R hR=>ST.AY (A:=X.A.in1) Y (I.ok.hd T) (by lia) λa vs N hg ho n=>hR vs a ⟨?_,hg,ho,n⟩) ?_ ?_ ?_
 ·rw[ev]at N;obtain⟨l,G,B⟩:=nN (λx:List Key×Addr=>Value.ref x.2) N ps rfl;exact⟨l,G,B.symm⟩
 ·rintro vs a ⟨⟨l,c,rfl⟩,_⟩;have:=c.length_eq;simp;lia
 ·rintro vs a ⟨⟨l,c,rfl⟩,hg,ho,n⟩;by_cases C:2<=(l.map λx=>Value.ref x.2).length
  ·obtain⟨κ,J⟩:=vP (prog:=X.prog) (w:=X.w) (A:=X.A.in1.in1) (s:={a with heap:=s.heap}) Z (DF U (c.map _)) (vl l c) C;exact⟨κ,λ_ h' k=>J h' λb o e=>k b o (n b o e)⟩
  ·exact⟨general',λz=>absurd z C⟩
 ·rintro vs a ⟨⟨l,c,rfl⟩,hg,ho,n⟩ out G B C ep kept L;obtain⟨l',p3,O⟩:=nN (λx:List Key×Addr=>Value.ref x.2) G l rfl;have D:=p3.trans c;have P:Inv X pins σ H a :=Inv.drawn I hg ho n
  have pw:(l'.map λx=>tupK x.1).Pairwise (λd e=>lx (enc e) (enc d)=false):=by
   rw[<-O]at B;rw[List.pairwise_map]at B⊢;refine B.imp_of_mem λ{t t'} m m' M=>?_
   have S:∀t∈l',Vl s.heap (tupK t.1) (.ref t.2):=λt m=>by
    have:=jZ I [tupK t.1] (oM (JA U λd hd=>by simp at hd;subst hd;exact aKz (f:=λx:List Key×Addr=>tupK x.1) (D.mem_iff.mp m))) (j [t] λx hx=>by simp at hx;subst hx;exact D.mem_iff.mp m) (i [t]);unfold cM at this;obtain⟨u,r,e,v,_⟩:=this;cases e;exact v
   unfold ltV at M;rw[jT (S t m),jT (S t' m')]at M;exact M
  have ln:(l'.map λx=>V.ref x.2).length<=sizeLine:=by have:=D.length_eq;simp;lia
  have I1:Inv X pins σ (upd H a.heap.objs.size (.lst (l'.map λx=>V.ref x.2))) {a with heap:=C}:=
   P.laid (h' :=C) (t' :=a.toks) kept (aK6 _) ⟨ln,out,ep,by rw[<-O];exact i l',L⟩
  exact⟨.ref a.heap.objs.size,_,I1,rfl,q _ D pw _ (P.cI.fresh (aK6 _))⟩
end
def jL(w:WE):WE:=λc mh Q=>w c mh λx b=>∃ks:List (List Key),bC b x=some (ks.map tupK)/\ks.length<64/\FZ (ks.map tupK)/\
 ∀a :List (List Key),(∀k,k∈a ↔k∈ks)->a.Nodup->a.length<=ks.length->(a.map tupK).Pairwise (λd e=>lx (enc e) (enc d)=false)->Q (.ref b.length) (b++[.lst (a.map tupK)])
@[simp] theorem T9 (w:WE)(c:hX)(mh:MH)(Q:DK):jL w c mh Q=(w c mh λx b=>∃ks:List (List Key),bC b x=some (ks.map tupK)/\ks.length<64/\FZ (ks.map tupK)/\
 ∀a :List (List Key),(∀k,k∈a ↔k∈ks)->a.Nodup->a.length<=ks.length->(a.map tupK).Pairwise (λd e=>lx (enc e) (enc d)=false)->Q (.ref b.length) (b++[.lst (a.map tupK)])):=rfl
theorem EU{K:aNq}{μ:List Addr}{H:Hp}:∀{ks:List (List Key)} {vs:List V},IsL K μ H (ks.map tupK) vs->ks.length=vs.length/\∀(i:Nat) (v:V),vs[i]? =some v->∃k b,ks[i]? =some k/\v= .ref b/\CV K H b (k.map kV)
 | [],vs,h=>by simp only[List.map_nil]at h;unfold IsL at h;subst h;exact⟨rfl,λi v e=>by simp at e⟩
 | k::ks,vs,h=>by
  simp only[List.map_cons]at h;unfold IsL at h;obtain⟨v,r,rfl,i,l⟩:=h;obtain⟨a,c⟩:=EU l;refine⟨by simp[a],λj u e=>?_⟩
  cases j with
  | zero=>
   simp at e;subst e;obtain⟨b,f,rfl,sq,d⟩:=BQ i;cases zT d;exact⟨k,b,rfl,rfl,sq⟩
  | succ j=>exact c j u (by simpa using e)
section
variable {X:Cx}{e:Expr}{w:WE}{p1 p2 p3 pos:Pos}
theorem x8(B:X.A.units+64<cLine)(C:X.calm=true)(hm:X.mg "set"=none)(m:X.mg "sorted"=none)(he:LE X e w)(hg:Gl X "set":=by rfl)(n:Gl X "sorted":=by rfl)
  (hs:starEach [e] X.env=(false,eval e X.env)::starEach [] X.env:=by rfl)
  (g:starEach [.Call (.Name "set" p2) [e] [] p3] X.env=(false,eval (.Call (.Name "set" p2) [e] [] p3) X.env)::starEach [] X.env:=by rfl):
  LE X (.Call (.Name "sorted" p1) [.Call (.Name "set" p2) [e] [] p3] [] pos) (jL w):=
 PE.imp (D5 (CG B C) n m oK (uN (sD (NG B C) hg hm aCz (uN he A5 hs) (by decide) (by decide) hs rfl) A5 g) (by decide) (by decide) g rfl) λσ H Q h=>by
  obtain⟨μ,G,mh,R,I,E,h,F⟩:=h;refine⟨μ,G,mh,_,I,E,h,λdx J L o Z r M s N=>?_⟩;obtain⟨ks,O,t,U,q⟩:=L;obtain⟨a,vs,rfl,sq,l⟩:=vS s N O;obtain⟨k1,k2⟩:=EU l;have c:∀k,k∈ST.eC [] ks↔k∈ks:=λk=>by rw[ST.tR];simp
  have i:=ST.jU ks ([]:List (List Key));simp at i;refine⟨a,ks,vs,rfl,sq,k1,k2,t,λp es ps u P=>?_⟩;have S:=P.pm.length_eq;simp at S
  have ne:∀b v,CV X.K r b v->CV X.K (upd r p (AM X.w p es)) b v:=λb v h=>by
   rcases h with h | h
   ·exact .inl (by rw[aW (bM h u)];exact h)
   ·exact .inr h
  refine⟨p,es,ps,rfl,b9,P.es,λx hx=>ne _ _ (P.at' x hx),by lia,JA U λd hd=>?_,λj D T=>?_⟩
  ·obtain⟨x,hx,rfl⟩:=aKe.mp hd;exact aKz ((c x.1).mp (P.pm.mem_iff.mp (aKz hx)))
  ·have f :=(D.map (·.1)).trans P.pm
   have z:∀l:List (List Key×Addr),(∀x∈l,x∈ps)->IsL X.K o (upd r p (AM X.w p es)) ((l.map (·.1)).map tupK) (l.map λx=>V.ref x.2):=by
    intro l
    induction l with
    | nil=>intro _;simp[IsL]
    | cons x l ih=>
     intro h;simp only[List.map_cons];unfold IsL;refine⟨_,_,rfl,?_,ih λy W=>h y (aK8 _ W)⟩;unfold tupK Is;exact⟨_,_,rfl,ne _ _ (P.at' x (h x aK7)),BU _⟩
   have Y :=f.length_eq;exact iN (s.new u) (F.at (M.trans (aT.new s u))) (z j λx hx=>D.mem_iff.mp hx) (q (j.map (·.1)) (λk=>by rw[f.mem_iff,c]) (f.symm.nodup P.nd) (by lia) (by rw[List.map_map];exact T))
end
def C2(le:Bool)(x y:List Int):Bool:=match le with | true=>!lx y x | false=>lx x y
def aFe(le:Bool):CmpOp:=match le with | true=>.LtE | false=>.Lt
theorem QC(le:Bool)(p x y:List Int):C2 le (p++x) (p++y)=C2 le x y:=by cases le <;> simp[C2,rC]
theorem VJ(le:Bool){i j:Int}(h:i≠j):C2 le (bW (.int i)) (bW (.int j))=match le with | true=>decide (i<=j) | false=>decide (i<j):=by
 cases le with
 | false=>simp only[C2,bW,lx];by_cases a:i<j <;> simp[a]
 | true=>
  simp only[C2,bW,lx];by_cases a:j<i
  ·simp[a]
  ·have:i<=j:=by lia
   simp[a,this]
section
variable {prog:Program}{w:World}{A:Around}{E:aNr}{s:Shared}
theorem K4(le:Bool){c:Sc}{k1 k2:Key}{u v:Value}{Q:aNr}(f:(aR prog w).is k1 u=true)(b:(aR prog w).is k2 v=true)(d:b7 c (c6 k1)=true)(e:b7 c (c6 k2)=true)(a:k1≠k2)
  (h:Q (.bool (C2 le (bW (c6 k1)) (bW (c6 k2)))) s):wpAny (model prog w) A (richCompare (aFe le) u v) Q E s:=by
 rcases bJ (k:=k1) (v:=u) f with ⟨i,t,rfl,rfl⟩ | ⟨x,t,rfl,rfl⟩
 ·rcases bJ (k:=k2) (v:=v) b with ⟨j,t',rfl,rfl⟩ | ⟨y,t',rfl,rfl⟩
  ·simp only[c6]at h;rw[VJ le (λz=>a (by rw[z]))]at h
   cases le with
   | true=>exact PyProof.Rows.le_int h
   | false=>exact PyProof.Rows.lt_int h
  ·cases c <;> simp[c6,b7]at d e
 ·rcases bJ (k:=k2) (v:=v) b with ⟨j,t',rfl,rfl⟩ | ⟨y,t',rfl,rfl⟩
  ·cases c <;> simp[c6,b7]at d e
  ·simp only[c6]at h;have g:lx (bW (.str x)) (bW (.str y))=decide (x.cps.toList<y.cps.toList):=sF _ _;have l:lx (bW (.str y)) (bW (.str x))=decide (y.cps.toList<x.cps.toList):=sF _ _
   cases le with
   | true=>simp only[C2,l]at h;exact PySem.P.le_str (by first | exact h | simpa using h)
   | false=>simp only[C2,g]at h;exact PyProof.Rows.lt_str h
theorem R0(le:Bool){B:Builtin}{x y:List Key}{a b:Addr}{P:PySem.Fin->Shared->Prop}{cs:List Sc}(Q:B=match le with | true=>Builtin.«tuple.__le__» | false=>Builtin.«tuple.__lt__»)(hx:IsTupleKey (aR prog w) s.heap x a)(R:IsTupleKey (aR prog w) s.heap y b)(S:aU cs (x.map c6)=true)(T:aU cs (y.map c6)=true)
  (h:P (.done (.ret (.bool (C2 le (enc (tupK x)) (enc (tupK y)))))) s):wpAny (model prog w) A (B ⟨[.ref a,.ref b],[]⟩) P E s:=by
 have J:=R.typeIs;obtain⟨oa,xs,na,K,_,L,C⟩:=hx;obtain⟨ob,o,nb,M,_,N,F⟩:=R
 have i:∀{cs:List Sc} {ds:List D},aU cs ds=true->ds.length=cs.length:=by
  intro cs
  induction cs with
  | nil=>intro ds h;cases ds <;> simp[aU]at h⊢
  | cons c cs ih=>intro ds h;cases ds with
   | nil=>simp[aU]at h
   | cons d ds=>simp only[aU,Bool.and_eq_true]at h;simp[ih h.2]
 have sz:xs.size=o.size:=by
  have X:=C.length;have Y:=F.length;have Z:=i S;have a4:=i T;simp at X Y Z a4
  lia
 have go:∀(op:CmpOp),op=aFe le->wpAny (model prog w) A (do
   if !(<-isInstance (.ref b) (.type "tuple")) then return<-ret .notImplemented
   let xs<-Builtin.Tuple.tupleItemsOf (.ref a)
   let o<-Builtin.Tuple.tupleItemsOf (.ref b)
   for (x,y) in xs.toList.zip o.toList do
    if !(<-eqBool x y) then
     match op with
     | .Eq=>return<-ret (.bool false)
     | .NotEq=>return<-ret (.bool true)
     | _=>rule "tuple.compare.by-the-first-pair-that-differs";return<-ret (<-richCompare op x y)
   ret (Builtin.Tuple.tupleCompareSizes op xs.size o.size)) P E s:=λop G=>by
  refine aK2 (aM0 J isSubtype_tuple_tuple ?_);simp only[Bool.not_true,Bool.false_eq_true,if_false];refine aK2 (aNf K L ?_);refine aK2 (aNf M N ?_);refine aK2 ?_
  refine aLi _
   (λrest r H =>r.1=none/\H =s/\∃f q t j k,rest=List.zip j k /\ItemsAre (aR prog w) q j /\ItemsAre (aR prog w) t k /\aU f (q.map c6)=true/\aU f (t.map c6)=true/\C2 le (enc (tupK q)) (enc (tupK t))=C2 le (enc (tupK x)) (enc (tupK y)))
   _ ?_ ?_ _ _ ⟨rfl,rfl,cs,x,y,xs.toList,o.toList,rfl,C,F,S,T,rfl⟩
  ·rintro⟨u,v⟩ rest r H ⟨O,rfl,f,q,t,j,k,hz,p,l,m,n,g⟩
   cases p with
   | nil=>simp at hz
   | @cons k1 u' x'' xs'' h1 hx'' =>
    cases l with
    | nil=>simp at hz
    | @cons k2 v' y'' ys'' h2 hy'' =>
     simp only[List.zip_cons_cons,List.cons.injEq,Prod.mk.injEq]at hz;obtain⟨⟨rfl,rfl⟩,rfl⟩:=hz
     cases f with
     | nil=>simp[aU]at m
     | cons c f =>
      simp only[List.map_cons,aU,Bool.and_eq_true]at m n;refine aK2 ((aR prog w).eqBool (a:=k1) (b:=k2) h1 h2 ?_);by_cases I:k1=k2
      ·subst I;rw[decide_eq_true rfl];simp only[Bool.not_true,Bool.false_eq_true,if_false];refine aK3 ⟨rfl,rfl,f,x'',y'',xs'',ys'',rfl,hx'',hy'',m.2,n.2,?_⟩;rw[<-g];simp only[tupK,enc,List.map_cons,List.flatMap_cons,QC]
      ·rw[decide_eq_false I];simp only[Bool.not_false,if_true];have U:c6 k1≠c6 k2:=λz=>I (wN z)
       have e:C2 le (enc (tupK (k1::x''))) (enc (tupK (k2::y'')))=C2 le (bW (c6 k1)) (bW (c6 k2)):=by
        simp only[tupK,enc,List.map_cons,List.flatMap_cons]
        cases le with
        | true=>simp only[C2,iL n.1 m.1 (Ne.symm U)]
        | false=>simp only[C2,iL m.1 n.1 U]
       rw[<-g,e]at h;subst G
       cases le with
       | true=>exact aK2 (aL9 (aK2 (K4 true h1 h2 m.1 n.1 I (aK2 (aK3 (aK3 (aK3 h)))))))
       | false=>exact aK2 (aL9 (aK2 (K4 false h1 h2 m.1 n.1 I (aK2 (aK3 (aK3 (aK3 h)))))))
  ·rintro⟨r1,r2⟩ H ⟨O,rfl,f,q,t,j,k,hz,p,l,m,n,g⟩;simp only at O;subst O
   have e0:q =[]/\t =[]:=by
    have V:=i m;have W:=i n
    cases p with
    | nil=>simp at V;cases l with
     | nil=>exact⟨rfl,rfl⟩
     | cons _ _=>simp at W;lia
    | cons _ _=>cases l with
     | nil=>simp at V W;lia
     | cons _ _=>simp at hz
   obtain⟨rfl,rfl⟩:=e0;rw[<-g]at h;subst G;refine aK3 ?_
   cases le with
   | true=>show P (.done (.ret (.bool (decide (xs.size<=o.size))))) H;rw[sz];simpa[C2,tupK,enc,lx] using h
   | false=>show P (.done (.ret (.bool (decide (xs.size<o.size))))) H;rw[sz];simpa[C2,tupK,enc,lx] using h
 cases le with
 | true=>subst Q;exact go .LtE rfl
 | false=>subst Q;exact go .Lt rfl
end
def n9:OA:=λxs mh Q=>∃ds,xs=[.tup ds]/\ds.length<64/\FZ ds/\
 ∀a,a.Perm ds->a.Pairwise (λd e=>lx (enc e) (enc d)=false)->Q (.ref mh.length) (mh++[.lst a])
section
variable {X:Cx}
theorem HZ(hu:X.A.units+64<cLine):cD X (.builtin "sorted") (eF X.K n9):=by
 intro pins s σ H xs us Q I r q;obtain⟨μ,mh,ds,R,O,P,⟨es,rfl,S,U,q⟩,F⟩:=q;obtain⟨v,rfl,T⟩:=fX P;obtain⟨a,vs,rfl,sq,l⟩:=eK T;obtain⟨u,rfl,V⟩:=vals1 r;cases V;obtain⟨aL,i,W,hz⟩:=I.tuple sq;have sz:=aKc;have j:=jZ I es (oM U) l i;have J:aL.length=es.length:=bF j;have Y:X.A.in1.in1.units+40<cLine:=by show X.A.units+1+1+40<_;lia
 obtain⟨o,ho,Z,n,hd⟩:=W
 refine TS.DL (A:=X.A) (G2 s.heap) (Ok:=λvs s' =>vs=aL/\∃c,s' ={s with heap:=c}/\∀b o,s.heap.get? b=some o->c.get? b=some o)
  (λE R hR=>wpAny_collect_seq a (.inr rfl) ho Z hd (λh' k=>hR _ _ ⟨by simp,h',rfl,k⟩) (by simp;lia)) ?_ ?_ ?_
 ·rintro L _ ⟨e,_⟩;rw[e];lia
 ·rintro L _ ⟨e,c,rfl,p⟩;rw[e];by_cases g:2<=aL.length
  ·obtain⟨κ,x⟩:=vP (prog:=X.prog) (w:=X.w) (A:=X.A.in1.in1) Y U j g;exact⟨κ,λ_ h' k=>x h' λb o e=>k b o (p b o e)⟩
  ·exact⟨general',λz=>absurd z g⟩
 ·rintro L _ ⟨e,c,rfl,p⟩ out y B g ep kept C;rw[e]at y;obtain⟨ts,t1,t2,t3,t4⟩:=TV l i j;rw[<-t3]at y;obtain⟨f,D,M⟩:=nN (·.u) y ts rfl;have h:∀t∈f,Is X.K μ H t.d t.v/\RelV t.v t.u/\Vl s.heap t.d t.u:=λt ht=>t4 t (D.mem_iff.mp ht);have pd:(f.map (·.d)).Perm es:=by rw[<-t1];exact D.map _
  have pw:(f.map (·.d)).Pairwise (λd e=>lx (enc e) (enc d)=false):=by
   rw[<-M]at B;rw[List.pairwise_map]at B⊢;refine B.imp_of_mem λ{t t'} m m' c=>?_;have e1:dv s.heap t.u=t.d:=jT (h t m).2.2;have e2:dv s.heap t'.u=t'.d:=jT (h t' m').2.2;unfold ltV at c;rw[e1,e2]at c;exact c
  have ln:(f.map (·.v)).length<=sizeLine:=by
   have:=D.length_eq;have G :=aL4 List.length t2;have:=i.length;simp at G ⊢
   lia
  have N:Inv X pins σ H {s with heap:=c}:=Inv.drawn I rfl rfl p
  have I1:Inv X pins σ (upd H c.objs.size (.lst (f.map (·.v)))) {s with heap:=g}:=
   N.laid (h' :=g) (t' :=s.toks) kept (aK6 _) ⟨ln,out,ep,by rw[<-M];exact qL λt ht=>(h t ht).2.1,C⟩
  exact⟨.ref c.objs.size,_,I1,rfl,iN O F (uU λt ht=>(h t ht).1) (q _ pd pw) _ (N.cI.fresh (aK6 _))⟩
end
end D3
namespace HT
open PySem PyProof.Rows
open PySem.SeqAt
end HT
namespace D3
open PySem PySem.Spec PyProof.Rows L2
section
variable {P:Program}{W:World}{K:aNq}{mg:aNt}{base:Heap}{N:List Str}{q:Str}{S:Stmt}{f:Addr}{cd:Value}{A:Around}{o:List Env}{s:Shared}{H:Hp}{E:XK}
 {tg iter elt:Expr} {ifs:List Expr} {scope scope0:Scope} {pos:Pos} {wi:WI} {g:TG} {gd:WG} {t:WT} {w:WE} {own0:List Str} {caps0:List Nat} {cl0:List (Str×Addr)} {C0:Addr} {fp0:List Addr} {s0:Shared} {H0:Hp} (own:List Str) (aO:List Nat)
abbrev cC(P:Program)(W:World)(K:aNq)(mg:aNt)(base:Heap)(N:List Str)(q:Str)(S:Stmt)(f:Addr)(cd:Value)(A:Around)(o:List Env)(s:Shared)(H:Hp)(E:XK)(own0:List Str)(caps0:List Nat)(scope0:Scope)(cl0:List (Str×Addr))(C0:Addr)(fp0:List Addr)(s0:Shared)(H0:Hp):Cx:=
 aZ (cF P W K mg base N q S f cd A o s H E) own0 caps0 scope0 cl0 C0 fp0 s0 H0
def reS(sc scope:Scope):Scope:={scope with names:=scope.names.map λy=>if (y.2==NameKind.free && sc.kind== .function && sc.names.lookup y.1==some .cell) then (y.1,NameKind.cell) else y}
theorem aBg(chk:gQ (cN N own0 caps0) (reS (aF S) scope0) scope aO=true)(nd:(cN (cN N own0 caps0) own aO).Nodup)(a:rV K g gd)(ho:xV own.length g)
  (hi:LI (cC P W K mg base N q S f cd A o s H E own0 caps0 scope0 cl0 C0 fp0 s0 H0) tg iter wi)
  (hg:(cN (cN N own0 caps0) own aO).Nodup->∀cl C fp s₀ H₀,PG (aZ (cC P W K mg base N q S f cd A o s H E own0 caps0 scope0 cl0 C0 fp0 s0 H0) own aO scope cl C fp s₀ H₀) tg g)
  (ht:∀cl C fp s₀ H₀,TB (aZ (cC P W K mg base N q S f cd A o s H E own0 caps0 scope0 cl0 C0 fp0 s0 H0) own aO scope cl C fp s₀ H₀) ifs t)
  (he:∀cl C fp s₀ H₀,LE (aZ (cC P W K mg base N q S f cd A o s H E own0 caps0 scope0 cl0 C0 fp0 s0 H0) own aO scope cl C fp s₀ H₀) elt w)
  (hs:∀x,foldedSetIterable iter (cC P W K mg base N q S f cd A o s H E own0 caps0 scope0 cl0 C0 fp0 s0 H0).env x=pure x:=by intro _;rfl):
  LE (cC P W K mg base N q S f cd A o s H E own0 caps0 scope0 cl0 C0 fp0 s0 H0) (.ListComp elt [⟨tg,iter,ifs,0⟩] scope pos) (rW own aO wi gd t w):=
 YL (N:=cN N own0 caps0) (sc:=reS (aF S) scope0) own aO rfl rfl chk rfl hi ho a (hg nd) ht he hs
end
section
variable {X:Cx}{K:aNq}{μ:List Addr}{H:Hp}
theorem zU:∀{ds:List D} {vs:List V} (i:Nat),IsL K μ H ds vs->IsL K μ H (ds.eraseIdx i) (vs.eraseIdx i)
 | [],vs,i,h=>by unfold IsL at h;subst h;simp;unfold IsL;rfl
 | d::ds,vs,i,h=>by
  unfold IsL at h;obtain⟨v,r,rfl,a,l⟩:=h
  cases i with
  | zero=>exact l
  | succ i=>
   simp only[List.eraseIdx_cons_succ];unfold IsL;exact⟨v,_,rfl,a,zU i l⟩
def BG:OM:=λx ds mh Q=>∃n es i d,x= .ref n/\ds=[.int (i:Nat)]/\mh[n]? =some (.lst es)/\i<2^62/\es[i]? =some d/\Q d (mh.set n (.lst (es.eraseIdx i)))
theorem P0:MtR X "list.pop" (liftM X.K BG):=by
 intro pins s σ H x xs v us Q I f rs q;obtain⟨μ,mh,dx,ds,R,b,ix,g,⟨n,es,i,d,rfl,rfl,e,hi,hd,q⟩,F⟩:=q;obtain⟨a,vs,rfl,h,j,l⟩:=j0 b ix e;obtain⟨u,rfl,k⟩:=fX g;cases b6 k;have c:=aY l;obtain⟨z,hz,m⟩:=eY l hd;have o:i<vs.length:=(aK5.mp hz).1;refine PZ pins s σ H _ _ v us Q I f rs ⟨a,vs,i,i,z,rfl,rfl,j,by lia,by lia,?_,hz,F.put b h (zU i l) q m⟩;unfold seqIndex?;simp
 lia
end
section
variable {mh:MH}{Q:DK}
theorem OE{n i:Nat}{es:List D}{d:D}(h:mh[n]? =some (.lst es))(hi:i<2^62)(hd:es[i]? =some d)(q:Q d (mh.set n (.lst (es.eraseIdx i)))):BG (.ref n) [.int (i:Nat)] mh Q:=⟨n,es,i,d,rfl,rfl,h,hi,hd,q⟩
end
def n6:Nat->List D->List D
 | _,[]=>[]
 | k,d::ds=>.tup [.int (k:Nat),d]::n6 (k+1) ds
theorem oG:∀(k:Nat) (ds:List D),(n6 k ds).length=ds.length
 | _,[]=>rfl
 | k,d::ds=>by simp[n6,oG (k+1) ds]
theorem oH:∀{k:Nat} {ds:List D} {i:Nat} {x:D},(n6 k ds)[i]? =some x->∃d,ds[i]? =some d/\x= .tup [.int ((k+i:Nat):Int),d]
 | k,[],i,x,h=>by simp[n6]at h
 | k,d::ds,0,x,h=>by simp[n6]at h;exact⟨d,rfl,by rw[<-h];rfl⟩
 | k,d::ds,i+1,x,h=>by
  obtain⟨e,he,rfl⟩:=oH (k:=k+1) (ds:=ds) (i:=i) (by simpa[n6] using h);exact⟨e,by simpa using he,by rw[show k+1+i=k+(i+1) by lia]⟩
def X9(b:WA):WI:=λc mh Q=>b c mh λxs a=>∃x ds,xs=[x]/\bC a x=some ds/\ds.length<=sizeLine/\Q (n6 0 ds) (λmh' =>bC mh' x=some ds) a
@[simp] theorem s_en (a:WE)(g:hX)(mh:MH)(P:List D->(MH->Prop)->MH->Prop):X9 (aA a aD) g mh P=(a g mh λx b=>got (bC b x) λds=>ds.length<=sizeLine/\P (n6 0 ds) (λmh' =>bC mh' x=some ds) b):=by
 unfold X9;simp only[ZM,aEd];congr 1;funext x b;apply propext;rw[<-eZ];constructor
 ·rintro⟨y,ds,e,c,d,f⟩;cases e;exact⟨ds,c,d,f⟩
 ·rintro⟨ds,c,d,f⟩;exact⟨x,ds,rfl,c,d,f⟩
section
variable {X:Cx}{e:Expr}{elts:List Expr}{wa:WA}{p pos tpos:Pos}
theorem aFj{x1}(hg:Gl X "enumerate")(hm:X.mg "enumerate"=none)(ha:LA X [e] wa)
  (hs:starEach [e] X.env=(false,eval e X.env)::starEach [] X.env:=by rfl):
  LI X (.Tuple elts x1 tpos) (.Call (.Name "enumerate" p) [e] [] pos) (X9 wa):=
 PI.imp (aEr hg hm ha (by decide+kernel) hs) λσ H R h=>by
  obtain⟨μ,y,mh,f,A,En,h,F⟩:=h;refine⟨μ,y,mh,_,A,En,h,λxs m q g vs o B r C=>?_⟩;obtain⟨x,ds,rfl,D,hz,q⟩:=q;obtain⟨v,rfl,s⟩:=fX C;obtain⟨a,xs,rfl,E,la⟩:=r8 r s D;refine⟨a,Q4 x,rfl,⟨xs,E⟩,F _ _ m q g _ o B r ?_⟩
  have c:∀μ' mh' H',kX g o μ' H' ->Rep X.K μ' mh' H' ->bC mh' x=some ds->∃xs,F6 X.K H' (Q4 x) a xs/\IsL X.K μ' H' ds xs:=λμ' mh' H' j f st=>by
   obtain⟨N,b,G,s1,k⟩:=r8 f (Is.pF j _ _ s) st;cases G;exact⟨b,s1,k⟩
  refine⟨by rw[oG];exact hz,λμ' mh' H' j f st i d I=>?_,λμ' mh' H' j f st=>?_⟩
  ·obtain⟨b,s1,k⟩:=c μ' mh' H' j f st;obtain⟨d',J,rfl⟩:=oH I;obtain⟨l,k1,L⟩:=eY k J;refine⟨⟨b,l,s1,k1⟩,λz H'' M=>?_⟩;obtain⟨t,O,u,rfl,rfl,n⟩:=M;have:=n b s1;rw[k1]at this;cases this;have w:aT μ' H' μ' (upd H' t (.tup [.int i,l])):=aT.new f u;refine⟨w,f.new u,?_⟩;unfold Is;refine⟨t,[.int i,l],rfl,.of b9,?_⟩;unfold IsL;exact⟨.int i,[l],rfl,by rw[Nat.zero_add];unfold Is;rfl,jQ (Is.mono f w _ _ L)⟩
  ·obtain⟨b,s1,k⟩:=c μ' mh' H' j f st;rw[oG];exact⟨b,s1,by rw[aY k];exact aK6 _⟩
end
mutual
def PC:D->Bool
 | .int _=>true
 | .str _=>true
 | .bl _=>true
 | .tup ds=>x4 ds
 | _=>false
def x4:List D->Bool
 | []=>true
 | d::ds=>PC d && x4 ds
end
def aC2:List D->Bool
 | [.int _,.bl _]=>true
 | _=>false
def EV:List D->Bool
 | [.int _,.int _]=>true
 | _=>false
mutual
def good:D->Bool
 | .int _=>true
 | .str _=>true
 | .tup ds=>dW ds
 | _=>false
def dW:List D->Bool
 | []=>true
 | d::ds=>good d && dW ds
end
theorem oE:∀{ds:List D},aC2 ds=true->∃i b,ds=[.int i,.bl b]
 | [.int i,.bl b],_=>⟨i,b,rfl⟩
mutual
theorem aAl:∀{d:D},good d=true->PC d=true
 | .int _,_=>rfl
 | .str _,_=>rfl
 | .tup ds,h=>A6 (by simpa only[good] using h)
 | .b8,h=>by simp[good]at h
 | .bl _,h=>by simp[good]at h
 | .ty _,h=>by simp[good]at h
 | .fl _,h=>by simp[good]at h
 | .ref _,h=>by simp[good]at h
theorem A6:∀{ds:List D},dW ds=true->x4 ds=true
 | [],_=>rfl
 | d::ds,h=>by
  simp only[dW,Bool.and_eq_true]at h;simp only[x4,aAl h.1,A6 h.2,Bool.and_self]
end
def gd:D->Bool
 | .tup ds=>aC2 ds || (dW ds && !EV ds)
 | _=>false
variable{ds:List D}
theorem RH(h:dW ds=true)(a:EV ds=false):gd (.tup ds)=true:=by simp[gd,h,a]
variable{d:D}
theorem KN(h:gd d=true):∃ds,d= .tup ds/\(aC2 ds=true\/dW ds=true/\EV ds=false):=by
 cases d <;> simp[gd]at h;exact⟨_,rfl,h⟩
theorem PB(h:gd d=true):PC d=true:=by
 obtain⟨ds,rfl,h | h⟩:=KN h
 ·obtain⟨i,b,rfl⟩:=oE h;rfl
 ·exact A6 h.1
section
variable (w:World)
mutual
def wY:D->Int
 | .int i=>hashInt i
 | .str x=>hashStr w x
 | .bl b=>reduceHash (if b=true then 1 else 0)
 | .tup ds=>reduceHash (Builtin.Tuple.tupleHashOf (nV ds))
 | _=>0
def nV:List D->List Int
 | []=>[]
 | d::ds=>wY d::nV ds
end
end
mutual
def xA:D->Nat
 | .tup ds=>sQ ds+1
 | _=>1
def sQ:List D->Nat
 | []=>0
 | d::ds=>xA d+sQ ds
end
section
variable {prog:Program}{w:World}
theorem KL{A:Around}{E:aNr}{s:Shared}{Q:Int->Shared->Prop}(b:Bool)(q:Q (reduceHash (if b=true then 1 else 0)) {s with toks:=s.toks+1}):wpAny (model prog w) A (pyHash (.bool b)) Q E s:=by
 refine PySem.W.pyHash_slot (T:= "bool") rfl F.slot_bool_hash entry_int_hash (args_int_hash _) (beq_builtin_none _) (.inl rfl) ?_
 cases b with
 | false=>exact(show wpAny _ _ (do ret (<-mkInt 0)) _ _ s from aK2 (aNj (aK3 ⟨_,_,rfl,q⟩)))
 | true=>exact(show wpAny _ _ (do ret (<-mkInt 1)) _ _ s from aK2 (aNj (aK3 ⟨_,_,rfl,q⟩)))
theorem aC8:∀(n:Nat) {d:D} {A:Around} {E:aNr} {s:Shared} {u:Value} {Q:Int->Shared->Prop},deep d<=n->PC d=true->A.units+n<cLine->Vl s.heap d u->Q (wY w d) {s with toks:=s.toks+xA d}->
  wpAny (model prog w) A (pyHash u) Q E s:=by
 intro n
 induction n with
 | zero=>
  intro d A E s u Q hd hg J c q
  cases d with
  | int i=>unfold Vl at c;obtain⟨t,rfl⟩:=c;exact(aR prog w).pyHash (k:= .inl i) (pG (k:= .inl i) ⟨t,rfl⟩) q
  | str x=>unfold Vl at c;obtain⟨t,rfl⟩:=c;exact(aR prog w).pyHash (k:= .inr x) (pG (k:= .inr x) ⟨t,rfl⟩) q
  | bl b=>
   unfold Vl at c;subst c;exact KL b q
  | tup ds=>simp[deep]at hd
  | _=>simp[PC]at hg
 | succ n ih=>
  intro d A E s u Q hd hg J c q
  cases d with
  | int i=>unfold Vl at c;obtain⟨t,rfl⟩:=c;exact(aR prog w).pyHash (k:= .inl i) (pG (k:= .inl i) ⟨t,rfl⟩) q
  | str x=>unfold Vl at c;obtain⟨t,rfl⟩:=c;exact(aR prog w).pyHash (k:= .inr x) (pG (k:= .inr x) ⟨t,rfl⟩) q
  | bl b=>
   unfold Vl at c;subst c;exact KL b q
  | tup ds=>
   unfold Vl at c;obtain⟨a,us,rfl,⟨o,ho,K,m,g⟩,l⟩:=c
   have p:s.TypeIs (.ref a) "tuple":=⟨o,ho,K⟩
   have C:bS ds<=n:=by simp only[deep]at hd;lia
   have G:x4 ds=true:=by simpa only[PC] using hg
   unfold pyHash
   first | unfold pyHashByItsType | skip
   first | refine aK2 (wpAny_cRoomFor_or (.inr (by lia)) ?_) | skip
   refine aK2 (aLw p aM9.lookup ?_);show wpAny _ _ (if (some (Value.builtin "tuple.__hash__")==some Value.none)=true then _ else _) Q E s;rw[if_neg (by rw[beq_builtin_none];exact Bool.false_ne_true)];refine aK2 (aLw p aM9.lookup ?_);show wpAny _ _ (callSpecialIfBoundUnlessNone? (.ref a) "__hash__" _ >>=_) Q E s;refine aK2 (wpAny_callSpecialIfBoundUnlessNone?_slot p aM9 (aKk aM9 p F.entry_tuple_hash ?_ (F.args_tuple_hash_1 _)));show wpAny _ _ (Builtin.Tuple.tupleItemsOf (.ref a) >>=_) _ _ s;refine aK2 (aNf ho g ?_);refine aK2 ?_;rw[<-Array.forIn_toList]
   refine aLi _
    (λrest (b:Array Int) H =>∃done left k,nV w ds=done++nV w left/\cM s.heap left rest/\bS left<=n/\x4 left=true/\b.toList=done/\k+sQ left=sQ ds/\H ={s with toks:=s.toks+k})
    _ ?_ ?_ _ _ ⟨[],ds,0,rfl,by simpa using l,C,G,rfl,by lia,rfl⟩
   ·rintro x rest b H ⟨done,left,k,e,f,I,h,v,y,rfl⟩
    cases left with
    | nil=>unfold cM at f;cases f
    | cons j left=>
     unfold cM at f;obtain⟨N,r,L,M,f⟩:=f;cases L;simp only[bS]at I;simp only[x4,Bool.and_eq_true]at h;simp only[sQ]at y;refine aK2 (ih (by lia) h.1 (by show A.units+1+n<_;lia) M ?_)
     first
      | exact aK3 ⟨done++[wY w j],left,k+xA j,by simp[e,nV],f,by lia,h.2,by simp[v],by lia,by simp[Nat.add_assoc]⟩
      | exact aK2 (aK3 (aK3 ⟨done++[wY w j],left,k+xA j,by simp[e,nV],f,by lia,h.2,by simp[v],by lia,by simp[Nat.add_assoc]⟩))
   ·rintro b H ⟨done,left,k,e,f,I,h,v,y,rfl⟩
    cases left with
    | cons j left=>unfold cM at f;obtain⟨_,_,z,_⟩:=f;cases z
    | nil=>
     simp only[nV,List.append_nil]at e;simp only[sQ,Nat.add_zero]at y;subst y;show wpAny _ _ (retInt (Builtin.Tuple.tupleHashOf b.toList)) _ _ _;rw[v,<-e];refine wpAny_ret_mkInt ?_;simp only[wY,xA]at q;generalize Builtin.Tuple.tupleHashOf (nV w ds)=z at q⊢;show wpAny _ _ (if (decide (-(2:Int)^63<=z) && decide (z<2^63))=true then _ else _) Q E _;unfold reduceHash at q;by_cases B:(decide (-(2:Int)^63<=z) && decide (z<2^63))=true
     ·rw[if_pos B];rw[if_pos B]at q;exact aK3 (by simpa[Nat.add_assoc] using q)
     ·rw[if_neg B];rw[if_neg B]at q;exact aK2 (aL9 (aK3 (by simpa[Nat.add_assoc] using q)))
  | _=>simp[PC]at hg
end
section
variable {prog:Program}{w:World}
theorem UI:∀(n:Nat) {fuel:Nat} {d:D} {A:Around} {E:aNr} {s:Shared} {u:Value} {Q:Bool->Shared->Prop},deep d<=n->n<=fuel->PC d=true->Vl s.heap d u->Q true s->wpAny (model prog w) A (eqIsQuiet fuel u) Q E s:=by
 intro n
 induction n with
 | zero=>
  intro fuel d A E s u Q hd B hg c q
  cases d with
  | int i=>unfold Vl at c;obtain⟨t,rfl⟩:=c;rw[eqIsQuiet_byValue _ rfl];exact aK3 q
  | str x=>unfold Vl at c;obtain⟨t,rfl⟩:=c;rw[eqIsQuiet_byValue _ rfl];exact aK3 q
  | bl b=>unfold Vl at c;subst c;rw[eqIsQuiet_byValue _ rfl];exact aK3 q
  | tup ds=>simp[deep]at hd
  | _=>simp[PC]at hg
 | succ n ih=>
  intro fuel d A E s u Q hd B hg c q
  cases d with
  | int i=>unfold Vl at c;obtain⟨t,rfl⟩:=c;rw[eqIsQuiet_byValue _ rfl];exact aK3 q
  | str x=>unfold Vl at c;obtain⟨t,rfl⟩:=c;rw[eqIsQuiet_byValue _ rfl];exact aK3 q
  | bl b=>unfold Vl at c;subst c;rw[eqIsQuiet_byValue _ rfl];exact aK3 q
  | tup ds=>
   unfold Vl at c;obtain⟨a,us,rfl,⟨o,ho,C,m,g⟩,l⟩:=c
   have z:s.TypeIs (.ref a) "tuple":=⟨o,ho,C⟩
   have h:bS ds<=n:=by simp only[deep]at hd;lia
   have j:x4 ds=true:=by simpa only[PC] using hg
   obtain⟨f,rfl⟩:∃f,fuel=f+1:=⟨fuel-1,by lia⟩
   unfold eqIsQuiet;refine aK2 (aLw z F.slot_tuple_eq.lookup ?_);show wpAny _ _ (isInstance (.ref a) (.type "tuple") >>=_) _ _ s;refine aK2 (aM0 z isSubtype_tuple_tuple ?_);simp only[Bool.not_true,Bool.false_eq_true,if_false];refine aK2 (aL5 ho g (aK2 ?_));show wpAny _ _ (forIn us.toArray _ _) _ _ s;rw[<-Array.forIn_toList];refine aLi _ (λrest r k =>r.1=none/\k =s/\∃left,cM s.heap left rest/\bS left<=n/\x4 left=true) _ ?_ ?_ _ _ ⟨rfl,rfl,ds,by simpa using l,h,j⟩
   ·rintro v rest r k ⟨p,rfl,left,e,G,y⟩
    cases left with
    | nil=>unfold cM at e;cases e
    | cons d0 left=>
     unfold cM at e;obtain⟨J,K,H,I,e⟩:=e;cases H;simp only[bS]at G;simp only[x4,Bool.and_eq_true]at y;refine aK2 (ih (fuel:=f) (by lia) (by lia) y.1 I ?_);simp only[Bool.not_true,Bool.false_eq_true,if_false];exact aK3 ⟨rfl,rfl,left,e,by lia,y.2⟩
   ·rintro⟨L,M⟩ k ⟨p,rfl,_⟩;simp only at p;subst p;exact aK3 q
  | _=>simp[PC]at hg
mutual
theorem Vl.zN{h h' :Heap}(k:∀b o aL n,o.data= .seq aL n->h.get? b=some o->h'.get? b=some o):∀(d:D) (u:Value),Vl h d u->Vl h' d u
 | .b8,u,q=>by unfold Vl at*;exact q
 | .bl _,u,q=>by unfold Vl at*;exact q
 | .int _,u,q=>by unfold Vl at*;exact q
 | .str _,u,q=>by unfold Vl at*;exact q
 | .ty _,u,q=>by unfold Vl at*;exact q
 | .ref _,u,q=>by unfold Vl at*;exact q
 | .tup ds,u,q=>by
  unfold Vl at*;obtain⟨a,us,e,⟨o,f,g,n,c⟩,l⟩:=q;exact⟨a,us,e,⟨o,k _ _ _ _ c f,g,n,c⟩,cM.zN k ds us l⟩
 | .fl ds,u,q=>by
  unfold Vl at*;obtain⟨a,us,e,⟨o,f,g,n,c⟩,l⟩:=q;exact⟨a,us,e,⟨o,k _ _ _ _ c f,g,n,c⟩,cM.zN k ds us l⟩
theorem cM.zN{h h' :Heap}(k:∀b o aL n,o.data= .seq aL n->h.get? b=some o->h'.get? b=some o):∀(ds:List D) (us:List Value),cM h ds us->cM h' ds us
 | [],us,q=>by unfold cM at*;exact q
 | d::ds,us,q=>by
  unfold cM at*;obtain⟨u,r,e,i,l⟩:=q;exact⟨u,r,e,Vl.zN k d u i,cM.zN k ds r l⟩
end
mutual
theorem BZ:∀(d e:D),good d=true->good e=true->(eB d e=true↔d=e)
 | .int i,e,_,h2=>by cases e <;> simp[good]at h2 <;> simp[eB]
 | .str x,e,_,h2=>by cases e <;> simp[good]at h2 <;> simp[eB]
 | .tup ds,e,h1,h2=>by
  cases e with
  | tup es=>simp only[eB,D.tup.injEq];exact rF ds es (by simpa only[good] using h1) (by simpa only[good] using h2)
  | int i=>simp[eB]
  | str x=>simp[eB]
  | _=>simp[good]at h2
 | .b8,e,h1,_=>by simp[good]at h1
 | .bl _,e,h1,_=>by simp[good]at h1
 | .ty _,e,h1,_=>by simp[good]at h1
 | .fl _,e,h1,_=>by simp[good]at h1
 | .ref _,e,h1,_=>by simp[good]at h1
theorem rF:∀(ds es:List D),dW ds=true->dW es=true->(cZ ds es=true↔ds=es)
 | [],es,_,_=>by cases es <;> simp[cZ]
 | d::ds,[],_,_=>by simp[cZ]
 | d::ds,e::es,h1,h2=>by
  simp only[dW,Bool.and_eq_true]at h1 h2;simp only[cZ,Bool.and_eq_true,List.cons.injEq];rw[BZ d e h1.1 h2.1,rF ds es h1.2 h2.2]
end
theorem aF8{es:List D}{i:Int}{b:Bool}(h:dW es=true)(a:EV es=false):¬cZ [.int i,.bl b] es=true:=λq=>by
 cases es with
 | nil=>simp[cZ]at q
 | cons x es=>
  cases es with
  | nil=>simp[cZ]at q
  | cons y es=>
   cases es with
   | cons z es=>simp[cZ]at q
   | nil=>
    simp only[dW,Bool.and_eq_true]at h;cases x <;> simp[good]at h <;> cases y <;> simp[good,EV]at h a <;> simp[cZ,eB]at q
theorem aF9{es:List D}{i:Int}{b:Bool}(h:dW es=true)(a:EV es=false):¬cZ es [.int i,.bl b]=true:=λq=>by
 cases es with
 | nil=>simp[cZ]at q
 | cons x es=>
  cases es with
  | nil=>simp[cZ]at q
  | cons y es=>
   cases es with
   | cons z es=>simp[cZ]at q
   | nil=>
    simp only[dW,Bool.and_eq_true]at h;cases x <;> simp[good]at h <;> cases y <;> simp[good,EV]at h a <;> simp[cZ,eB]at q
theorem aG8{d e:D}(a:gd d=true)(f:gd e=true):eB d e=true↔d=e:=by
 obtain⟨ds,rfl,h1⟩:=KN a;obtain⟨es,rfl,h2⟩:=KN f;simp only[eB,D.tup.injEq];refine⟨λq=>?_,λq=>?_⟩
 ·rcases h1 with h1 | h1
  ·obtain⟨i,b,rfl⟩:=oE h1;rcases h2 with h2 | h2
   ·obtain⟨j,c,rfl⟩:=oE h2;simpa[cZ,eB] using q
   ·exact absurd q (aF8 h2.1 h2.2)
  ·rcases h2 with h2 | h2
   ·obtain⟨j,c,rfl⟩:=oE h2;exact absurd q (aF9 h1.1 h1.2)
   ·exact(rF ds es h1.1 h2.1).mp q
 ·subst q;rcases h1 with z | z
  ·obtain⟨i,b,rfl⟩:=oE z;simp[cZ,eB]
  ·exact(rF ds ds z.1 z.1).mpr rfl
structure DN where
 d:D
noncomputable instance:DecidableEq DN:=λ_ _=>Classical.propDecidable _
noncomputable def E9(prog:Program)(w:World):HeapKind prog w DN where
 is:=λh k a=>gd k.d=true/\deep k.d<=8/\Vl h k.d (.ref a)
 hash:=λk=>wY w k.d
 draws:=λk=>xA k.d
 room:=λA=>A.units+16<cLine
 inj:=λ{h a x y} hx c=>by cases x;cases y;rw[DN.mk.injEq];exact F9 hx.2.2 c.2.2
 keeps:=λ{h h' k a d o es ep} x ho hd hs=>⟨x.1,x.2.1,Vl.zN (λb u aL n e f=>hs.extBut b u (λz=>by subst z;rw[ho]at f;cases f;rw[hd]at e;cases e) f) _ _ x.2.2⟩
 pyHash:=λ{A E s k a Q} e x q=>aC8 8 x.2.1 (PB x.1) (by lia) x.2.2 q
 eqBool:=λ{A E s x y a b Q} e hx c q=>by
  refine j5 (s:=s) 8 hx.2.1 (by lia) hx.2.2 c.2.2 prog w _ _ ?_
  have:eB x.d y.d=decide (x=y):=by
   rw[Bool.eq_iff_iff,aG8 hx.1 c.1,decide_eq_true_eq];cases x;cases y;simp
  rw[this];exact q
 quiet:=λ{A E s k a Q} x q=>UI 8 x.2.1 (aK6 _) (PB x.1) x.2.2 q
end
section
variable {prog:Program}{w:World}{K:Type}[DecidableEq K]{knd:HeapKind prog w K}{A:Around}{E:aNr}{s:Shared}
theorem DO{d a:Addr}{xs:List (K×Addr×Value)}{k:K}{dflt:Value}{Q:aNr}(h:knd.room A)(b:knd.is s.heap k a)(hm:s.heap.DictOfH knd d xs)
  (m:∀(j:Nat) (p:Addr×Value),xs[j]? =some (k,p)->Q p.2 {s with toks:=s.toks+knd.draws k})
  (n:(∀(j:Nat) (p:Addr×Value),xs[j]? ≠some (k,p))->∀h',h'.DictOfH knd d (xs++[(k,a,dflt)])->Heap.SameBut d s.heap h' ->Q dflt {s with heap:=h',toks:=s.toks+knd.draws k})
  (hz:xs.length<=sizeLine):wpAny (model prog w) A (dictSetDefault d (.ref a) dflt) Q E s:=by
 obtain⟨o,es,ep,ho,q,hd,he,c,i⟩:=hm;unfold dictSetDefault
 try with_reducible refine aKq ?_
 refine aK2 (knd.pyHash h b (aK2 (wpAny_dictFind_heap (s:={s with toks:=s.toks+knd.draws k}) h b ho hd he c i ?_ ?_)))
 ·intro f
  refine aK2 (aL9 (aK2 (wpAny_updateDictKeys (hz:=by have e:=size_of_entries he;lia) (s:={s with toks:=s.toks+knd.draws k}) ho hd (aK3 (n f _ ⟨_,_,ep+1,aLq _ ho (Obj.isFreed_of_dict (Obj.data_mapDictKeys hd _)),
   q.mapDictKeys _,Obj.data_mapDictKeys hd _,?_,?_,?_⟩ (aKw ..))))))
  ·simp[he,entryOfKey]
  ·intro x hx;rcases aKi.mp hx with hx | hx
   ·exact knd.keeps (c x hx) ho hd (aKw ..)
   ·simp only[List.mem_singleton]at hx;subst hx;exact knd.keeps b ho hd (aKw ..)
  ·rw[List.map_append,List.nodup_append];refine⟨i,by simp,λx hx y l=>?_⟩;simp only[List.map_cons,List.map_nil,List.mem_singleton]at l;subst l;rintro rfl;obtain⟨p,r,e⟩:=aKe.mp hx;obtain⟨j,g⟩:=aKv.mp r;exact f j p.2 (by rw[g,<-e])
 ·intro j p g;refine aK2 (wpAny_dictEntries (s:={s with toks:=s.toks+knd.draws k}) ho hd ?_);rw[entry_at he j,g];exact aK2 (aL9 (aK3 (m j p g)))
theorem rB(knd:HeapKind prog w K)(d a:Addr)(hd:(d==sysModules)=false)(dflt:Value):
  MeetsIn prog w (Builtin.«dict.setdefault» ⟨[.ref d,.ref a,dflt],[]⟩) (λA R s=>knd.room A.in1/\∃k xs,knd.is s.heap k a/\s.heap.DictOfH knd d xs/\xs.length<=sizeLine/\
   (∀(j:Nat) (p:Addr×Value),xs[j]? =some (k,p)->R (.ok (.ret p.2)) {s with toks:=s.toks+knd.draws k})/\
   ((∀(j:Nat) (p:Addr×Value),xs[j]? ≠some (k,p))->∀h',h'.DictOfH knd d (xs++[(k,a,dflt)])->Heap.SameBut d s.heap h' ->R (.ok (.ret dflt)) {s with heap:=h',toks:=s.toks+knd.draws k})):=
 .of_wp λA R s e=>by
  obtain⟨f,k,xs,g,hm,hz,h,i⟩:=e;unfold Builtin.«dict.setdefault»;refine aK2 ?_;unfold Builtin.Dict.keyAndDefault;refine aK2 (wpAny_notOrdered_dict hm.typeIs ?_);show wpAny _ _ (pure (d,Value.ref a,some dflt)) _ _ s;refine aK3 ?_;show wpAny _ _ (if (d==sysModules)=true then _ else (dictSetDefault d (.ref a) dflt >>=_)) _ _ s;rw[if_neg (by rw[hd];exact Bool.false_ne_true)];exact aK2 (DO f g hm (λj p l=>aK3 ⟨_,rfl,h j p l⟩) (λm h' b c =>aK3 ⟨_,rfl,i m h' b c⟩) hz)
end
def aJm(w:World)(x:DN×Addr×Value):DictEntry:=⟨wY w x.1.d,.ref x.2.1,x.2.2⟩
def DnR(w:World)(h:Heap)(a:Addr)(ks:List D)(vs:List V):Prop:=
 ∃xs:List (DN×Addr×Value),xs.map (λx=>x.1.d)=ks/\Vals (vs.take ks.length) (xs.map λx=>Value.ref x.2.1)/\Vals (vs.drop ks.length) (xs.map λx=>x.2.2)/\xs.length<=sizeLine/\(a==sysModules)=false/\
  (∀x∈xs,gd x.1.d=true/\deep x.1.d<=8)/\(xs.map λx=>x.1).Nodup/\∃o es ep,h.get? a=some o/\o.ExactDict/\o.data= .dict es ep/\es.toList=xs.map (aJm w)
def NR(ks:List D):Addr->List V->HO:=λa vs=>.ext λw h=>DnR w h a ks vs
def MY(kvs:List (D×D)):MO:= .oth (kvs.map (·.1)++kvs.map (·.2)) (NR (kvs.map (·.1)))
theorem YS{P:Program}{w:World}{H:Hp}{h:Heap}{a:Addr}{ks:List D}{vs:List V}(x:DnR w h a ks vs):cT P w H h a (NR ks a vs):=
 ⟨x,by obtain⟨_,_,_,_,_,_,_,_,o,_,_,ho,_⟩:=x;exact⟨o,ho⟩,λg i y k=>by
  obtain⟨xs,b,c,d,e,a5,a6,f,o,es,ep,ho,r⟩:=y
  exact⟨xs,b,c,d,e,a5,a6,f,o,es,ep,k o ho,r⟩⟩
section
variable {X:Cx}{pins:List (Addr×Obj)}{σ:L2.St}{H:Hp}{s:Shared}{a:Addr}{ks:List D}{vs:List V}
theorem RV(I:Inv X pins σ H s)(e:H a=some (NR ks a vs)):DnR X.w s.heap a ks vs:=
 (show cT X.prog X.w H s.heap a (NR ks a vs) from I.cI a _ e).1
theorem KY(x:DnR X.w s.heap a ks vs):s.TypeIs (.ref a) "dict"/\(∀b,Value.ref a= .ref b->∃ob,s.heap.get? b=some ob/\ob.dict=none)/\(a==sysModules)=false:=by
 obtain⟨_,_,_,_,_,hm,_,_,o,es,ep,ho,hx,hd,_⟩:=x;refine⟨⟨o,ho,hx.1⟩,λb q=>?_,hm⟩;cases q;exact⟨o,ho,hx.2.1⟩
theorem O7{pos:Pos}:PE X (.Dict [] [] pos) (λσ H Q=>∀p,H p=none->Q (.ref p) (upd H p (NR [] p []))):=λpins s σ H Q I h=>
 wpAny_Dict_empty ⟨.ref s.heap.objs.size,_,I.laid (a:=s.heap.objs.size) (o:=NR [] s.heap.objs.size []) (t' :=s.toks) (λ_ _ q=>aK4 _ q) (aK6 _)
  (YS ⟨[],rfl,.nil,.nil,aLb _,(E7 (P:=X.prog) (w:=X.w) (H:=H) s.heap I.big).2.1,λ_ h=>(by cases h),List.nodup_nil,_,#[],0,aKa _ rfl,⟨rfl,rfl,rfl⟩,rfl,rfl⟩),rfl,h _ (I.cI.fresh (aK6 _))⟩
end
def IV:WE:=λ_ mh Q=>Q (.ref mh.length) (mh++[MY []])
@[simp] theorem aIn (a:hX)(mh:MH)(Q:DK):IV a mh Q=Q (.ref mh.length) (mh++[MY []]):=rfl
section
variable {X:Cx}
theorem V0{pos:Pos}:LE X (.Dict [] [] pos) IV:=PE.imp O7 λσ H Q h=>by
 obtain⟨μ,c,mh,R,a,E,h,F⟩:=h;intro p b;exact F _ _ h (μ++[p]) _ _ (aT.L3 a b) (a.aFb b ⟨[],⟨b9,trivial⟩,by simp[IsL]⟩) (by unfold Is;exact⟨p,by rw[<-a.len];simp,rfl⟩)
theorem RU{K:aNq}{μ:List Addr}{mh:MH}{H:Hp}{n:Nat}{v:V}{kvs:List (D×D)}(R:Rep K μ mh H)(h:Is K μ H (.ref n) v)(e:mh[n]? =some (MY kvs)):
  ∃a vs,v= .ref a/\μ[n]? =some a/\H a=some (NR (kvs.map (·.1)) a vs)/\IsL K μ H (kvs.map (·.1)) (vs.take kvs.length)/\IsL K μ H (kvs.map (·.2)) (vs.drop kvs.length):=by
 unfold Is at h;obtain⟨a,b,rfl⟩:=h;obtain⟨vs,⟨c,_⟩,l⟩:=R.obj n a _ b e;refine⟨a,vs,rfl,b,c,?_,?_⟩
 ·have:=wU kvs.length l
  rwa [List.take_left' (by simp)]at this
 ·have:=wW kvs.length l
  rwa [List.drop_left' (by simp)]at this
def K7:OA:=λxs mh Q=>∃n kvs,xs=[.ref n]/\mh[n]? =some (MY kvs)/\Q (.int kvs.length) mh
theorem XH:cD X (.builtin "len") (eF X.K K7):=by
 intro pins s σ H xs us Q I r q;obtain⟨μ,mh,ds,R,b,d,⟨n,kvs,rfl,e,q⟩,F⟩:=q;obtain⟨v,rfl,f⟩:=fX d;obtain⟨a,vs,rfl,w,g,_,_⟩:=RU b f e;obtain⟨x,rfl,h⟩:=vals1 r;cases h;obtain⟨xs,i,_,_,hz,hm,_,_,ob,es,ep,j,l,m,c⟩:=RV I g
 have o:es.size=kvs.length:=by
  have p:=aL4 List.length c;have u:=aL4 List.length i;simp at p u
  lia
 have sz:=aKc;refine UE hm ⟨ob,j,l,m⟩ (by have:=aL4 List.length c;simp at this;lia) λt k=>?_;rw[o];exact⟨.int kvs.length,H,I.tok _,⟨t,rfl⟩,F.here b q .int⟩
end
def KAt(X:Cx)(H:Hp)(k:D)(b:Addr):Prop:=∀pins σ s,Inv X pins σ H s->Vl s.heap k (.ref b)
theorem N1:∀{vs:List V} {us:List Value} {j:Nat} {u:Value},Vals vs us->us[j]? =some u->∃v,vs[j]? =some v/\RelV v u
 | _,_,_,_,.nil,h=>by simp at h
 | _,_,0,_,.cons r t,h=>by simp at h;subst h;exact⟨_,rfl,r⟩
 | _,_,j+1,_,.cons r t,h=>by
  obtain⟨v,a,b⟩:=N1 t (j:=j) (by simpa using h);exact⟨v,by simpa using a,b⟩
section
variable {X:Cx}{o i x:Expr}{wo wi wx:WE}{apos c8 pos tpos:Pos}
theorem O6{U ty V:TE}(hu:X.A.units+64<cLine)(ho:PE X o U)(he:PE X i ty)(hf:PE X x V)(m:M2 X o "setdefault" apos i x c8):PE X (.Call (.Attribute o "setdefault" apos) [i,x] [] c8)
  (λσ H Q=>U σ H λx C=>∃a,x= .ref a/\(∃ks vs,C a=some (NR ks a vs))/\ty σ C λy D=>V σ D λz g=>∃ks vs f b,g a=some (NR ks a vs)/\y= .ref b/\gd f=true/\deep f<=8/\KAt X g f b/\
   (∀(j:Nat) k v,ks[j]? =some k->(vs.take ks.length)[j]? =some v->∃c,v= .ref c/\KAt X g k c)/\ks.length<sizeLine/\
   (∀(j:Nat) v,ks[j]? =some f->(vs.drop ks.length)[j]? =some v->Q v g)/\(f∉ks->Q z (upd g a (NR (ks++[f]) a ((vs.take ks.length++[.ref b])++(vs.drop ks.length++[z])))))):=by
 intro pins s σ H Q I h;refine wpAny_Call_method m.base m.F4 m.line PySem.F.plainAttrs_dict aNa PySem.F.type_dict_setdefault (dJ (ho pins s σ H _ I h) λu s1 E=>?_);obtain⟨x,C,W,rx,a,ex,⟨ks0,vs0,e0⟩,q1⟩:=E;subst ex;obtain rfl:u=Value.ref a:=rx;obtain⟨t1,t2,_⟩:=KY (RV W e0);refine⟨t1,t2,?_⟩;rw[m.trees];refine aMu rfl (aN5 (aM2 (dJ (he pins s1 σ C _ W q1) λiv s2 G=>?_)));obtain⟨y,D,I2,ry,q2⟩:=G;refine aM2 (dJ (hf pins s2 σ D _ I2 q2) λY J K=>Calls.spliced_nil ?_);obtain⟨z,g,n,Z,ks,vs,f,b,e,ey,hg,q,hk,yF,hlt,qa,qb⟩:=K;subst ey;obtain rfl:iv=Value.ref b:=ry;have dn:=RV n e;obtain⟨tt,_,hm⟩:=KY dn;obtain⟨xs,t,L,v2,hz,_,gd,nd,ob,es,ep,g1,g2,g3,g4⟩:=dn;have hxl:xs.length=ks.length:=by have:=aL4 List.length t;simpa using this
 have eL:∀y∈xs,Vl J.heap y.1.d (.ref y.2.1):=λy hy=>by
  obtain⟨j,l⟩:=aKv.mp hy;obtain⟨v,M,N⟩:=N1 L (j:=j) (u:= .ref y.2.1) (by rw[List.getElem?_map,l];rfl);obtain⟨c,rfl,hc⟩:=yF j y.1.d v (by rw[<-t,List.getElem?_map,l];rfl) M;have:Value.ref y.2.1=Value.ref c:=N;cases this;exact hc _ _ _ n
 have dd:J.heap.DictOfH (E9 X.prog X.w) a xs:=⟨ob,es,ep,g1,g2,g3,g4,λy hy=>⟨(gd y hy).1,(gd y hy).2,eL y hy⟩,nd⟩
 refine call_meetsIn aNa tt PySem.F.entry_dict_setdefault (PySem.F.args_dict_setdefault_3 _ _ _) (rB (E9 X.prog X.w) a b hm Y)
  ⟨by show X.A.units+1+16<_;lia,⟨f⟩,xs,⟨hg,q,hk _ _ _ n⟩,dd,hz,λj p l=>?_,λO h' P hs=>?_⟩
 ·obtain⟨v,M,N⟩:=N1 v2 (j:=j) (u:=p.2) (by rw[List.getElem?_map,l];rfl);exact⟨v,g,n.tok _,N,qa j v (by rw[<-t,List.getElem?_map,l];rfl) M⟩
 ·have R:f∉ks:=λB=>by
   rw[<-t]at B;obtain⟨y,hy,e2⟩:=aKe.mp B;obtain⟨j,l⟩:=aKv.mp hy;exact O j y.2 (by rw[l];cases y with | mk d r=>cases d;cases e2;rfl)
  obtain⟨o',S,T,d1,d2,d3,d4,_,d6⟩:=P;have tl:(vs.take ks.length).length=ks.length:=by have:=L.length;simp at this⊢;lia
  refine⟨z,_,B6 (t' :=J.toks+xA f) n (by rw[e];exact True.intro) hs ⟨o',d1⟩ (YS ⟨xs++[((⟨f⟩:DN),b,Y)],by simp[t],?_,?_,by simp;lia,hm,λy hy=>?_,d6,o',S,T,d1,d2,d3,d4.trans rfl⟩),Z,qb R⟩
  ·rw[List.take_left' (by simp[tl])];simpa using L.append (.cons (show RelV (.ref b) (Value.ref b) from rfl) .nil)
  ·rw[List.drop_left' (by simp[tl])];simpa using v2.append (.cons Z .nil)
  ·rcases aKi.mp hy with hy | hy
   ·exact gd y hy
   ·simp only[List.mem_singleton]at hy;subst hy;exact⟨hg,q⟩
def vF(wo wi wx:WE):WE:=λc mh Q=>wo c mh λo b=>∃n,o= .ref n/\(∃kvs,b[n]? =some (MY kvs))/\wi c b λi d=>wx c d λx a=>∃kvs ds,a[n]? =some (MY kvs)/\i= .tup ds/\gd i=true/\deep i<=8/\kvs.length<sizeLine/\(∀p∈kvs,∃es,p.1= .tup es/\gd p.1=true)/\
 (∀p∈kvs,p.1=i->Q p.2 a)/\(i∉kvs.map (·.1)->Q x (a.set n (MY (kvs++[(i,x)]))))
@[simp] theorem aGz {c:hX}{mh:MH}{Q:DK}:vF wo wi wx c mh Q=(wo c mh λo b=>∃n,o= .ref n/\(∃kvs,b[n]? =some (MY kvs))/\wi c b λi d=>wx c d λx a=>∃kvs ds,a[n]? =some (MY kvs)/\i= .tup ds/\gd i=true/\deep i<=8/\kvs.length<sizeLine/\(∀p∈kvs,∃es,p.1= .tup es/\gd p.1=true)/\
 (∀p∈kvs,p.1=i->Q p.2 a)/\(i∉kvs.map (·.1)->Q x (a.set n (MY (kvs++[(i,x)]))))):=rfl
mutual
theorem MU:∀{d:D},good d=true->bare d=true
 | .int _,_=>rfl
 | .str _,_=>rfl
 | .tup ds,h=>by show cL ds=true;exact jR (by simpa only[good] using h)
 | .b8,h=>by simp[good]at h
 | .bl _,h=>by simp[good]at h
 | .ty _,h=>by simp[good]at h
 | .fl _,h=>by simp[good]at h
 | .ref _,h=>by simp[good]at h
theorem jR:∀{ds:List D},dW ds=true->cL ds=true
 | [],_=>rfl
 | d::ds,h=>by
  simp only[dW,Bool.and_eq_true]at h;simp only[cL,MU h.1,jR h.2,Bool.and_self]
end
theorem KO(h:gd d=true):bare d=true:=by
 obtain⟨ds,rfl,h | h⟩:=KN h
 ·obtain⟨i,b,rfl⟩:=oE h;rfl
 ·exact jR h.1
theorem QP(hu:X.A.units+64<cLine)(ho:LE X o wo)(hi:LE X i wi)(hx:LE X x wx)(base:attributeBase o "setdefault" X.env (eval o X.env)=eval o X.env:=by rfl)
  (F4:((backTo c8 (starEach [i,x] X.env)).all (λx=>!x.1) && (backToKw c8 (keywordEach [] X.env)).all (λx=>x.1.isSome) && decide (([i,x]:List Expr).length+([]:List Keyword).length+(if ([]:List Keyword).isEmpty then 0 else 1)<30))=true:=by rfl)
  (line:(apos.endLine==c8.line)=true:=by rfl) (trees:backTo c8 (starEach [i,x] X.env)=[(false,eval i X.env),(false,eval x X.env)]:=by rfl):
  LE X (.Call (.Attribute o "setdefault" apos) [i,x] [] c8) (vF wo wi wx):=PE.imp (O6 hu ho hi hx ⟨base,F4,line,trees⟩) λσ H Q h=>by
 obtain⟨μ,B,mh,R,C,En,h,F⟩:=h;refine⟨μ,B,mh,_,C,En,h,λdo' E q G vo H1 J L I1=>?_⟩;obtain⟨n,rfl,⟨kvs0,e0⟩,q⟩:=q;obtain⟨a,vs0,rfl,_,M,_⟩:=RU L I1 e0;refine⟨a,rfl,⟨_,_,M⟩,G,B,E,_,L,En.mono C J,q,λdi N q2 O vi H2 P R2 I2=>?_⟩;refine⟨O,B,N,_,R2,En.mono C (J.trans P),q2,λdx S q3 g vx T U l I3=>?_⟩;obtain⟨kvs,ds,e,rfl,hg,V,hz,W,qa,qb⟩:=q3;obtain⟨a',vs,ea,hn,hv,lk,lv⟩:=RU l (Is.mono L (P.trans U) _ _ I1) e;cases ea;have m :=Is.mono R2 U _ _ I2;have i2:=m;unfold Is at i2;obtain⟨b,us,rfl,_,_⟩:=i2;have F3:=F.at ((J.trans P).trans U);have Y:(kvs.map (·.1)).length=kvs.length:=by simp
 refine⟨kvs.map (·.1),vs,.tup ds,b,hv,rfl,hg,V,λpins σ s I=>m6 I _ (KO hg) m rfl,λj k v r f=>?_,by simpa using hz,λj v r f=>?_,λZ=>?_⟩
 ·rw[Y]at f;obtain⟨v',h1,t⟩:=eY lk r;rw[h1]at f;cases f;obtain⟨p,y,rfl⟩:=aKe.mp (aK9 r);obtain⟨es,et,u⟩:=W p y;rw[et]at t u⊢;have w :=t;unfold Is at w;obtain⟨c,ws,rfl,_,_⟩:=w;exact⟨c,rfl,λpins σ s I=>m6 I _ (KO u) t rfl⟩
 ·rw[Y]at f;rw[List.getElem?_map]at r;obtain⟨p,y,e2⟩:=aL0.mp r;obtain⟨v',h1,t⟩:=eY lv (i:=j) (d:=p.2) (by rw[List.getElem?_map,y];rfl);rw[h1]at f;cases f;exact F3.here l (qa p (aK9 y) e2) t
 ·rw[Y];have z:aT g T g (upd T a (NR (kvs.map (·.1)++[.tup ds]) a ((vs.take kvs.length++[.ref b])++(vs.drop kvs.length++[vx])))):=aT.set l hn;have em:(kvs++[(D.tup ds,dx)]).map (λp=>p.1)=kvs.map (λp=>p.1)++[D.tup ds]:=by simp
  have R4:Rep X.K g (S.set n (MY (kvs++[(.tup ds,dx)]))) (upd T a (NR (kvs.map (·.1)++[.tup ds]) a ((vs.take kvs.length++[.ref b])++(vs.drop kvs.length++[vx])))):=by
   refine KZ l hn (by trivial) ⟨_,⟨by rw[em];exact b9,trivial⟩,?_⟩;rw[em,List.map_append];exact iM (IsL.mono l z _ _ (iM lk (jQ m))) (IsL.mono l z _ _ (iM lv (jQ I3)))
  exact F3 _ _ (qb Z) g _ _ z R4 (Is.mono l z _ _ I3)
end
inductive Sh where
 | sc (c:Sc)
 | tp (cs:List Sc)
def p6:Sh->D->Bool
 | .sc c,d=>b7 c d
 | .tp cs,.tup es=>aU cs es
 | .tp _,_=>false
def fE:List Sh->List D->Bool
 | [],[]=>true
 | s::ss,d::ds=>p6 s d && fE ss ds
 | _,_=>false
def encM:D->List Int
 | .tup ds=>ds.flatMap enc
 | d=>bW d
def XW(ds:List D):Prop:=∃cs ss,∀d∈ds,∃es,d= .tup es/\fE (.tp cs::ss) es=true
theorem EG:∀{cs:List Sc} {es fs:List D} (r a :List Int),aU cs es=true->aU cs fs=true->es≠fs->lx (es.flatMap bW++r) (fs.flatMap bW++a)=lx (es.flatMap bW) (fs.flatMap bW)
 | [],[],[],_,_,_,_,h=>absurd rfl h
 | [],[],_::_,_,_,_,h2,_=>by simp[aU]at h2
 | [],_::_,_,_,_,h1,_,_=>by simp[aU]at h1
 | _::_,[],_,_,_,h1,_,_=>by simp[aU]at h1
 | _::_,_::_,[],_,_,_,h2,_=>by simp[aU]at h2
 | c::cs,e::es,f::fs,r,a,h1,h2,h=>by
  simp only[aU,Bool.and_eq_true]at h1 h2;simp only[List.flatMap_cons,List.append_assoc];by_cases b:e=f
  ·subst b;rw[rC,rC];exact EG r a h1.2 h2.2 λz=>h (by rw[z])
  ·rw[iL h1.1 h2.1 b,iL h1.1 h2.1 b]
theorem ET{c:Sc}(h:b7 c d=true):enc d=bW d:=by cases c <;> cases d <;> simp[b7]at h <;> rfl
theorem QB{f:Sh}{a d:D}(b:p6 f a=true)(e:p6 f d=true)(h:a≠d)(r g :List Int):lx (enc a++r) (enc d++g)=lx (enc a) (enc d):=by
 cases f with
 | sc c=>rw[ET b,ET e];exact iL b e h r g
 | tp cs=>
  cases a <;> simp[p6]at b;cases d <;> simp[p6]at e;exact EG r g b e λz=>h (by rw[z])
theorem zB:∀{cs:List Sc} {es:List D},aU cs es=true->dW es=true
 | [],[],_=>rfl
 | [],_::_,h=>by simp[aU]at h
 | _::_,[],h=>by simp[aU]at h
 | c::cs,e::es,h=>by
  simp only[aU,Bool.and_eq_true]at h;simp only[dW,zB h.2,Bool.and_true];cases c <;> cases e <;> simp[b7]at h <;> rfl
theorem DP:∀{cs:List Sc} {es:List D},aU cs es=true->bS es=0
 | [],[],_=>rfl
 | [],_::_,h=>by simp[aU]at h
 | _::_,[],h=>by simp[aU]at h
 | c::cs,e::es,h=>by
  simp only[aU,Bool.and_eq_true]at h;simp only[bS,DP h.2];cases c <;> cases e <;> simp[b7]at h <;> rfl
theorem AX{a:Sh}(h:p6 a d=true):good d=true/\deep d<=1:=by
 cases a with
 | sc c=>cases c <;> cases d <;> simp[p6,b7]at h <;> simp[good,deep]
 | tp cs=>
  cases d <;> simp[p6]at h;exact⟨by simp only[good];exact zB h,by simp only[deep,DP h];lia⟩
theorem AW:∀{ss:List Sh} {ds:List D},fE ss ds=true->ds.length=ss.length
 | [],[],_=>rfl
 | [],_::_,h=>by simp[fE]at h
 | _::_,[],h=>by simp[fE]at h
 | s::ss,d::ds,h=>by simp only[fE,Bool.and_eq_true]at h;simp[AW h.2]
theorem zA:∀{ss:List Sh} {es:List D},fE ss es=true->dW es=true
 | [],[],_=>rfl
 | [],_::_,h=>by simp[fE]at h
 | _::_,[],h=>by simp[fE]at h
 | c::cs,e::es,h=>by
  simp only[fE,Bool.and_eq_true]at h;simp only[dW,zA h.2,(AX h.1).1,Bool.and_true]
theorem nR{prog:Program}{w:World}{h:Heap}:∀{cs:List Sc} {es:List D} {us:List Value},aU cs es=true->cM h es us->∃k:List Key,es=k.map c6/\ItemsAre (aR prog w) k us
 | [],[],us,_,l=>by unfold cM at l;subst l;exact⟨[],rfl,.nil⟩
 | [],_::_,_,h,_=>by simp[aU]at h
 | _::_,[],_,h,_=>by simp[aU]at h
 | c::cs,e::es,us,hs,l=>by
  simp only[aU,Bool.and_eq_true]at hs;unfold cM at l;obtain⟨u,r,rfl,p,l⟩:=l;obtain⟨k,rfl,hi⟩:=nR (prog:=prog) (w:=w) hs.2 l
  cases c with
  | i=>
   cases e <;> simp[b7]at hs;rename_i i;unfold Vl at p;obtain⟨t,rfl⟩:=p;exact⟨.inl i::k,rfl,.cons (pG (k:= .inl i) ⟨t,rfl⟩) hi⟩
  | s=>
   cases e <;> simp[b7]at hs;rename_i x;unfold Vl at p;obtain⟨t,rfl⟩:=p;exact⟨.inr x::k,rfl,.cons (pG (k:= .inr x) ⟨t,rfl⟩) hi⟩
section
variable {prog:Program}{w:World}{A:Around}{E:aNr}{s:Shared}
theorem VO{cs:List Sc}{es fs:List D}{u v:Value}{Q:aNr}(B:A.units+4<cLine)(i:aU cs es=true)(j:aU cs fs=true)(p:Vl s.heap (.tup es) u)(q:Vl s.heap (.tup fs) v)
  (h:Q (.bool (lx (es.flatMap bW) (fs.flatMap bW))) s):wpAny (model prog w) A (compareOp .Lt u v) Q E s:=by
 unfold Vl at p q;obtain⟨a,us,rfl,⟨o,ho,m,n,hd⟩,l⟩:=p;obtain⟨b,C,rfl,⟨r,c,d,t,f⟩,x⟩:=q;obtain⟨k1,rfl,y⟩:=nR (prog:=prog) (w:=w) i l;obtain⟨k2,rfl,z⟩:=nR (prog:=prog) (w:=w) j x
 have g:IsTupleKey (aR prog w) s.heap k1 a:=⟨o,_,n,ho,m,hd,by simpa using y⟩
 have k:IsTupleKey (aR prog w) s.heap k2 b:=⟨r,_,t,c,d,f,by simpa using z⟩
 exact wpAny_richCompare_same_room (op:= .Lt) g.typeIs k.typeIs PySem.F.slot_tuple_lt (aKk PySem.F.slot_tuple_lt g.typeIs PySem.F.entry_tuple_lt (R0 false rfl g k i j ⟨_,rfl,(λe=>nomatch e),h⟩) (PySem.F.args_tuple_lt_2 _ _)) (by lia)
end
noncomputable def ltM(h:Heap)(x y:Keyed):Bool:=lx (encM (dv h x.1)) (encM (dv h y.1))
theorem aAy(h:Heap):TS.Wk (ltM h):=⟨λx y=>uQ _ _,λx y z=>QA _ _ _⟩
open PySem.W in
theorem J6{prog:Program}{w:World}{A:Around}{Q:Bool->Shared->Prop}{s:Shared}(r:A.units+32<cLine):∀(ss:List Sh) (as bs:List D) (us vs:List Value) (i:Nat),fE ss as=true->fE ss bs=true->cM s.heap as us->cM s.heap bs vs->
  Q (lx (as.flatMap enc) (bs.flatMap enc)) s->KatLex prog w A false false Q (us.zip vs) i s
 | [],[],[],us,vs,i,_,_,g,h,q=>by unfold cM at g h;subst g h;exact kat_nil q
 | [],[],_::_,_,_,_,_,h2,_,_,_=>by simp[fE]at h2
 | [],_::_,_,_,_,_,h1,_,_,_,_=>by simp[fE]at h1
 | _::_,[],_,_,_,_,h1,_,_,_,_=>by simp[fE]at h1
 | _::_,_::_,[],_,_,_,_,h2,_,_,_=>by simp[fE]at h2
 | sh::ss,a::as,d::bs,us,vs,i,h1,h2,g,h,q=>by
  unfold cM at g h;obtain⟨u,t,rfl,j,g⟩:=g;obtain⟨v,B,rfl,k,h⟩:=h;simp only[fE,Bool.and_eq_true]at h1 h2;rw[List.zip_cons_cons];have m:=AX h1.1;have p:=AX h2.1;refine kat_cons (j5 (s:=s) 1 m.2 (by lia) j k prog w _ _ ?_);simp only[List.flatMap_cons]at q;refine kat_go (λe=>kat_yes ?_) (λe=>kat_no ?_)
  ·have n:a=d:=(BZ _ _ m.1 p.1).mp e;subst n;rw[rC]at q;exact J6 r ss as bs t B (i+1) h1.2 h2.2 g h q
  ·have o:a≠d:=λz=>by rw[(BZ _ _ m.1 p.1).mpr z]at e;cases e
   rw[QB h1.1 h2.1 o]at q;rw[Bool.false_and]
   cases sh with
   | sc c=>
    cases c with
    | i=>
     have b :=h1.1;have f :=h2.1;cases a <;> simp[p6,b7]at b;cases d <;> simp[p6,b7]at f;rename_i x y;unfold Vl at j k;obtain⟨C,rfl⟩:=j;obtain⟨E,rfl⟩:=k
     have q' :Q (decide (x<y)) s:=by
      have:lx (enc (.int x)) (enc (.int y))=decide (x<y):=by
       simp only[enc,bW,lx];by_cases l:x<y
       ·simp[l]
       ·simp[l]
      rw[<-this];exact q
     exact kat_one _ _ (lt_int q')
    | s=>
     have b :=h1.1;have f :=h2.1;cases a <;> simp[p6,b7]at b;cases d <;> simp[p6,b7]at f;rename_i x y;unfold Vl at j k;obtain⟨C,rfl⟩:=j;obtain⟨E,rfl⟩:=k
     have q' :Q (decide (x.cps.toList<y.cps.toList)) s:=by
      have:lx (enc (.str x)) (enc (.str y))=decide (x.cps.toList<y.cps.toList):=sF _ _;rw[<-this];exact q
     exact kat_one _ _ (lt_str q')
   | tp cs=>
    have b :=h1.1;have f :=h2.1;cases a <;> simp[p6]at b;cases d <;> simp[p6]at f;exact kat_one _ _ (VO (by lia) b f j k q)
section
variable {prog:Program}{w:World}{A:Around}
theorem LK{s:Shared}{vs:List Value}(hu:A.units+40<cLine)(U:XW ds)(l:cM s.heap ds vs)(M:2<=vs.length):
  ∃κ,∀h' :Heap,(∀b o,s.heap.get? b=some o->h'.get? b=some o)->TS.F7 prog w A {s with heap:=h'} κ (ltM s.heap) (pairsOf vs)/\
   ∀i H,i κ {s with heap:=h'}->wpAny (model prog w) A (keyKind' vs.toArray) i H {s with heap:=h'}:=by
 obtain⟨cs,ss,c⟩:=U;refine⟨tuples' false,λh' k=>⟨λx y hx N Q q=>?_,λi H q=>?_⟩⟩
 ·obtain⟨_,O⟩:=iQ hx;obtain⟨_,P⟩:=iQ N;obtain⟨d,R,dp⟩:=jM l _ O;obtain⟨e,em,ep⟩:=jM l _ P
  have q' :Q (lx (encM d) (encM e)) {s with heap:=h'}:=by
   have:ltM s.heap x y=lx (encM d) (encM e):=by unfold ltM;rw[jT dp,jT ep]
   rw[<-this];exact q
  obtain⟨as,rfl,ha⟩:=c d R;obtain⟨bs,rfl,I⟩:=c e em;obtain⟨x1,x2⟩:=x;obtain⟨S,y2⟩:=y;unfold Vl at dp ep;obtain⟨a,us,T,⟨o,ho,f,n,hd⟩,g⟩:=dp;obtain⟨b,h,V,⟨o2,j,J,n2,m⟩,lw⟩:=ep;have t :x1=Value.ref a:=T;have z :S=Value.ref b:=V;subst t z;refine PySem.W.kat_lt (s:={s with heap:=h'}) (k _ _ ho) hd (k _ _ j) m ?_;have z1:=bF g;have z2:=bF lw;have z3:=AW ha;have z4:=AW I;have X:decide (us.toArray.size<h.toArray.size)=false:=aLg (by simp only[List.size_toArray];lia);rw[X];exact J6 (s:={s with heap:=h'}) (by lia) (.tp cs::ss) as bs us h 0 ha I (cM.keep k as us g) (cM.keep k bs h lw) q'
 ·have fs:∃fs:List Value,PySem.W.KatTups h' vs fs/\fs.length=vs.length/\∀v∈fs,PySem.W.Looks (model prog w) h' (typeOf v) (.type "tuple"):=by
   clear q M
   have go:∀(ds:List D) (vs:List Value),(∀d∈ds,∃es,d= .tup es/\fE (.tp cs::ss) es=true)->cM s.heap ds vs->∃fs:List Value,PySem.W.KatTups h' vs fs/\fs.length=vs.length/\∀v∈fs,PySem.W.Looks (model prog w) h' (typeOf v) (.type "tuple"):=by
    intro ds
    induction ds with
    | nil=>intro vs _ l;unfold cM at l;subst l;exact⟨[],PySem.W.KatTups.nil,rfl,λv hv=>by cases hv⟩
    | cons d r ih=>
     intro vs c l;unfold cM at l;obtain⟨u,Y,rfl,p,l⟩:=l;obtain⟨fs,B,K,C⟩:=ih Y (λe he=>c e (aK8 _ he)) l;obtain⟨es,rfl,he⟩:=c d aK7;unfold Vl at p;obtain⟨a,us,rfl,⟨o,ho,f,n,hd⟩,g⟩:=p
     cases es with
     | nil=>simp[fE]at he
     | cons e0 er=>
      unfold cM at g;obtain⟨Z,u1,rfl,L,_⟩:=g;simp only[fE,Bool.and_eq_true]at he;refine⟨Z::fs,PySem.W.KatTups.cons (k _ _ ho) f hd (by simp) B,by simp[K],λv hv=>?_⟩;rcases aKd.mp hv with rfl | hv
      ·have E :=he.1;cases e0 <;> simp[p6]at E;unfold Vl at L;obtain⟨b,h,rfl,⟨o3,F,G,_⟩,_⟩:=L;exact PySem.W.Looks.andThen (PySem.W.Looks.ld (k _ _ F)) (aLr (by rw[G]))
      ·exact C v hv
   exact go ds vs c l
  obtain⟨fs,B,K,C⟩:=fs;refine PySem.W.kat_kind (s:={s with heap:=h'}) B (by lia) C rfl ?_;exact q
end
def xR:OA:=λxs mh Q=>∃x ds,xs=[x]/\nP mh x=some ds/\ds.length<64/\XW ds/\
 ∀a,a.Perm ds->a.Pairwise (λd e=>lx (encM e) (encM d)=false)->Q (.ref mh.length) (mh++[.lst a])
theorem IH(U:XW ds):cL ds=true:=by
 obtain⟨cs,ss,a⟩:=U
 induction ds with
 | nil=>rfl
 | cons d r ih=>
  obtain⟨es,rfl,he⟩:=a d aK7;simp only[cL,ih λe he=>a e (List.mem_cons_of_mem _ he),Bool.and_true];exact jR (zA he)
section
variable {X:Cx}
theorem IA(hu:X.A.units+64<cLine):cD X (.builtin "sorted") (eF X.K xR):=by
 intro pins s σ H xs us Q I r q;obtain⟨μ,mh,ds,R,n,G,⟨x,es,rfl,e,J,U,q⟩,F⟩:=q;obtain⟨v,rfl,L⟩:=fX G;obtain⟨a,vs,rfl,sq,l⟩:=sG n L e;obtain⟨u,rfl,M⟩:=vals1 r;cases M;obtain⟨aL,p,N,hz⟩:=I.list sq;have g:=jZ I es (IH U) l p;have y:aL.length=es.length:=bF g;have O:X.A.in1.in1.units+40<cLine:=by show X.A.units+1+1+40<_;lia
 have ask:∃κ,2<=aL.length->∀h' :Heap,(∀b o,s.heap.get? b=some o->h'.get? b=some o)->TS.F7 X.prog X.w X.A.in1.in1 {s with heap:=h'} κ (ltM s.heap) (pairsOf aL)/\
   ∀B P,B κ {s with heap:=h'}->wpAny (model X.prog X.w) X.A.in1.in1 (keyKind' aL.toArray) B P {s with heap:=h'}:=by
  by_cases C:2<=aL.length
  ·obtain⟨κ,S⟩:=LK (prog:=X.prog) (w:=X.w) (A:=X.A.in1.in1) O U g C;exact⟨κ,λ_=>S⟩
  ·exact⟨general',λz=>absurd z C⟩
 obtain⟨κ,ask⟩:=ask;refine TS.DM (κ:=κ) (aAy s.heap) N.isList (by lia) ask λout D h=>?_;obtain⟨T,V,W,Y,Z⟩:=TV l p g;rw[<-Y]at D;obtain⟨c,i,E⟩:=nN (·.u) D T rfl;have f:∀t∈c,Is X.K μ H t.d t.v/\RelV t.v t.u/\Vl s.heap t.d t.u:=λt ht=>Z t (i.mem_iff.mp ht);have pd:(c.map (·.d)).Perm es:=by rw[<-V];exact i.map _
 have pw:(c.map (·.d)).Pairwise (λd e=>lx (encM e) (encM d)=false):=by
  rw[<-E]at h;rw[List.pairwise_map]at h⊢;refine h.imp_of_mem λ{t t'} m m' j=>?_;have e1:dv s.heap t.u=t.d:=jT (f t m).2.2;have e2:dv s.heap t'.u=t'.d:=jT (f t' m').2.2;unfold ltM at j;rw[e1,e2]at j;exact j
 obtain⟨ep,he⟩:=sortedAll_at s.heap aL out.toArray
 have ln:(c.map (·.v)).length<=sizeLine:=by
  have:=i.length_eq;have k :=aL4 List.length W;simp at k ⊢
  lia
 have I1:Inv X pins σ (upd H (s.heap.objs.size+1) (.lst (c.map (·.v)))) {s with heap:=sortedAll s.heap aL out.toArray}:=
  I.laid (t' :=s.toks) (λb o hb=>sortedAll_old hb) (aN6 _) ⟨ln,out,ep,by rw[<-E];exact qL λt ht=>(f t ht).2.1,he⟩
 exact⟨.ref (s.heap.objs.size+1),_,I1,rfl,iN n F (uU λt ht=>(f t ht).1) (q _ pd pw) _ (I.cI.fresh (aN6 _))⟩
end
def eX(mh:MH):Nat->D->D
 | 0,d=>d
 | n+1,.ref k=>match mh[k]? with | some (.lst ds)=>.fl (ds.map (eX mh n)) | _=>.ref k
 | n+1,.tup ds=>.tup (ds.map (eX mh n))
 | _+1,d=>d
section
variable {X:Cx}{pins:List (Addr×Obj)}{σ:L2.St}{H:Hp}{s:Shared}{μ:List Addr}{mh:MH}
theorem sT:∀{ds:List D},cL ds=true↔∀d∈ds,bare d=true
 | []=>by simp[cL]
 | d::ds=>by simp only[cL,Bool.and_eq_true,sT (ds:=ds),List.mem_cons,forall_eq_or_imp]
theorem vI(I:Inv X pins σ H s){n:Nat}(h:∀{d:D} {v:V} {u:Value},bare (eX mh n d)=true->Is X.K μ H d v->RelV v u->Vl s.heap (eX mh n d) u):
  ∀(ds:List D) {vs:List V} {us:List Value},(∀d∈ds,bare (eX mh n d)=true)->IsL X.K μ H ds vs->Vals vs us->cM s.heap (ds.map (eX mh n)) us
 | [],vs,us,_,l,r=>by unfold IsL at l;subst l;cases r;simp;unfold cM;rfl
 | d::ds,vs,us,b,l,r=>by
  unfold IsL at l;obtain⟨v,f,rfl,i,l⟩:=l
  cases r with
  | cons a c=>
   rw[List.map_cons];unfold cM;exact⟨_,_,rfl,h (b d aK7) i a,vI I h ds (λe he=>b e (aK8 _ he)) l c⟩
theorem uL(I:Inv X pins σ H s)(R:Rep X.K μ mh H):∀(n:Nat) {d:D} {v:V} {u:Value},bare (eX mh n d)=true->Is X.K μ H d v->RelV v u->Vl s.heap (eX mh n d) u:=by
 intro n
 induction n with
 | zero=>intro d v u b i r;exact m6 I d b i r
 | succ n ih=>
  intro d v u b i r
  cases d with
  | ref k=>
   simp only[eX]at b⊢
   cases o:mh[k]? with
   | none=>rw[o]at b;simp[bare]at b
   | some ob=>
    cases ob with
    | lst ds=>
     rw[o]at b;simp only;obtain⟨a,vs,rfl,_,h,l⟩:=j0 R i o;have c :u=Value.ref a:=r;subst c;obtain⟨aL,e,p,_⟩:=I.list (.of h);unfold Vl;have g :cL (ds.map (eX mh n))=true:=by simpa[bare] using b
     exact⟨a,aL,rfl,p.isList,vI I ih ds (λd hd=>sT.mp g _ (aKz hd)) l e⟩
    | dic t kvs=>rw[o]at b;simp[bare]at b
    | fdc t kvs ob=>rw[o]at b;simp[bare]at b
    | oth ds f=>rw[o]at b;simp[bare]at b
  | tup ds=>
   simp only[eX]at b⊢;obtain⟨a,vs,rfl,sq,l⟩:=eK i;have c :u=Value.ref a:=r;subst c;obtain⟨aL,e,p,_⟩:=I.tuple sq;unfold Vl;have g :cL (ds.map (eX mh n))=true:=by simpa[bare] using b
   exact⟨a,aL,rfl,p,vI I ih ds (λd hd=>sT.mp g _ (aKz hd)) l e⟩
  | b8=>exact m6 I _ b i r
  | bl _=>exact m6 I _ b i r
  | int _=>exact m6 I _ b i r
  | str _=>exact m6 I _ b i r
  | ty _=>exact m6 I _ b i r
  | fl _=>exact m6 I _ b i r
end
def VC:O2:=λx y mh Q=>∃n,bare (eX mh n x)=true/\bare (eX mh n y)=true/\deep (eX mh n x)<=40/\Q (.bl (eB (eX mh n x) (eX mh n y))) mh
def LY:O2:=λx y mh Q=>∃n,bare (eX mh n x)=true/\bare (eX mh n y)=true/\deep (eX mh n x)<=40/\Q (.bl !eB (eX mh n x) (eX mh n y)) mh
section
variable {X:Cx}
theorem aAj(b:X.A.units+64<cLine):g7 X (compareOp .Eq) (bY X.K VC):=by
 intro pins s σ H x y v u Q I c d q;obtain⟨μ,mh,dx,h,R,a,ix,e,⟨n,f,g,hd,q⟩,F⟩:=q;exact OP hd b (uL I a n f ix c) (uL I a n g e d) X.prog X.w X.xe _ ⟨.bl _,H,I,rfl,F.here a q .bl⟩
theorem aAg(b:X.A.units+64<cLine):g7 X (compareOp .NotEq) (bY X.K LY):=by
 intro pins s σ H x y v u Q I c d q;obtain⟨μ,mh,dx,h,R,a,ix,e,⟨n,f,g,hd,q⟩,F⟩:=q;exact D2 hd b (uL I a n f ix c) (uL I a n g e d) X.prog X.w X.xe _ ⟨.bl _,H,I,rfl,F.here a q .bl⟩
end
def NZ:WS:=λ_ _ _=>False
theorem QG{X:Cx}{st:Stmt}:LS X st NZ:=λ_ _ _ _ _ _ z=>by obtain⟨_,_,_,_,_,_,h,_⟩:=z;exact h.elim
theorem VR{X:Cx}{b:Expr}{cs:List Comprehension}{scope:Scope}{c8 pos a :Pos}{w:WE}(i:Nat){x:Str}(hN:X.N.Nodup)(he:LE X (.ListComp b cs scope c8) w)(hi:X.N[i]? =some x:=by rfl)(hx:Loc X.env.scope x:=by first | exact Or.inl rfl | exact Or.inr rfl)(hs:swapsWith (.ListComp b cs scope c8) (some (.Name x a)) pos.line X.env=pure false:=by rfl)(c:X.fn x=true\/X.env.scope.names.lookup x=some .local:=by first | exact .inl rfl | exact .inr rfl | assumption):
  LS X (.Assign [.Name x a] (.ListComp b cs scope c8) pos) (bB w (gN i)):=QF i hN he hi hx hs c
end D3
namespace K45
open PySem PyProof.Rows L2 D3
set_option hygiene false
local macro_rules | `(tactic| specialize $t)=>`(tactic| with_reducible show $t)
local macro_rules | `(tactic| walk_at "t")=>`(tactic| repeat' first | ((specialize rV _ _ (gN _));exact BY _) | ((specialize rV _ _ _);refine' aCf ?_) | ((specialize xU _ _ (aQ _ _));refine' RD ?_ ?_) | ((specialize xU _ _ _);exact W7) | exact MS (by decide) | exact HH | refine' RE ?_ | refine' MT ?_ ?_ ?_ ?_ | exact RF | refine' gmono_tup ?_ | refine' HI ?_ ?_ | exact MV)
local macro_rules | `(tactic| walk_at "g")=>`(tactic| first | ((specialize List.Nodup _);assumption) | ((with_reducible show LE _ _ _);first | ((specialize LE (aZ _ _ _ _ _ _ _ _ _) _ (rW _ _ _ _ _ _));refine' aBg _ _ ?a ?b ?r ?s ?_ ?g ?u ?v;(case a | b=>decide+kernel);(case r | s=>walk_at "t");(case g | u | v=>walk_at "h")) | ((specialize LE _ _ (rW _ _ _ _ _ _));refine' aBf _ _ ?a ?b ?r ?s ?_ ?g ?u ?v;(case a | b=>decide+kernel);(case r | s=>walk_at "t");(case g | u | v=>walk_at "h")) | ((specialize LE _ (.Name _ _) (aB _));exact aB8 _) | ((specialize LE _ (.Constant (.int _) _ _) _);exact le_int) | ((specialize LE _ _ (aM aX _ _));refine' YM S6 ?_ ?_ (λ_ _=>rfl)) | ((specialize LE _ (.BinOp _ _ _ _) _);refine' aFl ?_ ?_ ?_) | ((specialize LE _ (.Tuple _ _ _) _);refine' aB9 ?_) | ((specialize LE _ (.Constant (.str _) _ _) _);exact le_str) | ((specialize LE _ (.List _ _) _);refine' aBe ?_) | ((specialize LE _ _ (uA _ bN _ _));refine' QS PySem.F.plainAttrs_list PySem.F.slot_list_append PySem.F.type_list_append L4 ?_ ?_) | ((specialize LE _ (.Call (.Name "len" _) _ _ _) (aC fT _));refine' x9 aCt B.len R9 ?_) | ((specialize LE _ (.Call (.Name "tuple" _) _ _ _) (aC c5 _));refine' aBa R6 B.tuple FI ?_) | ((specialize LE _ (.Constant (.bool _) _ _) _);exact aFq) | ((specialize LE _ (.Compare _ [_] [_] _) _);refine' aBh ?_ ?_ ?_ (aF7 _)) | ((specialize LE _ (.Call (.Name "sorted" _) _ _ _) (aC eD _));refine' x9 (ND hr.units) B.sorted oK ?_) | ((specialize LE _ (.BoolOp .And (_::_::_) _) _);refine' aBi ?_ ?_) | ((specialize LE _ (.UnaryOp .USub _ _) _);refine' aFk ?_ ?_) | ((specialize LE _ (.BoolOp _ [_] _) _);refine' aBb ?_) | ((specialize LE _ (.Call (.Name "min" _) _ _ _) (aC xS _));refine' x9 (XE rfl) B.min aD0 ?_) | ((specialize LE _ (.Call (.Name "sorted" _) _ _ _) (aC n9 _));refine' x9 (HZ hr.units) B.sorted oK ?_) | ((specialize LE _ (.Constant .none _ _) _);exact aBd) | ((specialize LE _ (.Call (.Name "isinstance" _) _ _ _) (aC CU _));refine' x9 aCu B.isinstance yN ?_) | ((specialize LE _ _ (wSl oSl _ _ _));refine' QN sll ?_ ?_ ?_) | ((specialize LE _ _ (m4 _));refine' G4 rfl B.list B.range ?_) | ((specialize LE _ _ (IV));exact V0) | ((specialize LE _ (.Call (.Name "len" _) _ _ _) (aC K7 _));refine' x9 XH B.len R9 ?_) | ((specialize LE _ _ (vF _ _ _));refine' QP hr.units ?_ ?_ ?_) | ((specialize LE _ (.Call (.Name "max" _) _ _ _) (aC FX _));refine' x9 (XF rfl) B.max aD1 ?_) | ((specialize LE _ (.Call (.Name "sorted" _) _ _ _) (aC xR _));refine' x9 (IA hr.units) B.sorted oK ?_) | ((specialize LE _ _ (TM false));exact V1) | ((specialize LE _ _ (IW _ _ _));refine' V2 hr.units ?_ ?_ ?_) | ((specialize LE _ _ (aM aAm _ _));refine' YM (ixD hr.units) ?_ ?_ (λ_ _=>rfl)) | ((specialize LE _ _ (uA _ G1 _ _));refine' QS PySem.F.plainAttrs_tuple PySem.F.slot_tuple_index PySem.F.type_tuple_index (P5 hr.units) ?_ ?_) | ((specialize LE _ (.IfExp _ _ _ _) _);refine' QO ?_ ?_ ?_) | ((specialize LE _ (.Name "int" _) (wC _));exact QM B.int SA) | ((specialize LE _ (.Name "bool" _) (wC _));exact QM B.bool XN) | ((specialize LE _ (.UnaryOp .Not _ _) _);refine' aBc ?_) | ((specialize LE _ (.Name "tuple" _) (wC _));exact QM B.tuple FI) | ((specialize LE _ (.Call (.Name "all" _) _ _ _) (aC SI _));refine' x9 (aCw rfl) B.all aD2 ?_) | ((specialize LE _ (.Call (.Name "abs" _) _ _ _) (aC SJ _));refine' x9 aCx B.abs aD3 ?_) | ((specialize LE _ _ (uA _ BG _ _));refine' QS PySem.F.plainAttrs_list PySem.F.slot_list_pop PySem.F.type_list_pop P0 ?_ ?_) | ((specialize LE _ (.Call (.Name "int" _) _ _ _) (aC aD7 _));refine' aBa aCv B.int SA ?_) | ((specialize LE _ _ (jL _));refine' x8 hr.units rfl B.set B.sorted ?_) | ((specialize LE _ (.Call (.Name "list" _) _ _ _) (aC FY _));refine' aBa XG B.list K6 ?_) | ((specialize LE _ (.Call (.Name _ _) _ _ _) (aC _ _));refine' aFo (by assumption) hr ?_) | ((specialize LE _ (.Name _ _) (wC _));exact aFm (by assumption))) | ((with_reducible show LS _ _ _);first | ((specialize LS _ (.Assign [.Name _ _] (.ListComp _ _ _ _) _) _);refine' L5 _ _ ?a ?b ?r ?s (by assumption) ?_ ?g ?u ?v;(case a | b=>decide+kernel);(case r | s=>walk_at "t");(case g | u | v=>walk_at "h")) | ((specialize LS _ (.Assign [.Tuple _ _ _] _ _) (IX _ _ _));refine' aB0 rfl ?_ ?_ ?r;(case r=>walk_at "t")) | ((specialize LS _ (.Assign [.Name _ _] (.ListComp _ _ _ _) _) _);refine' VR _ ?_ ?_) | ((specialize LS _ (.Return (some _) _) _);refine' aB1 ?_) | ((specialize LS _ (.If _ _ _ _) _);refine' aFf ?_ ?_ ?_) | ((specialize LS _ (.Expr _ _) _);refine' aJ8 ?_) | ((specialize LS _ (.For _ _ _ _ _) _);refine' aB5 PassesOwn.never rfl ?_ ?_ ?r ?_;(case r=>walk_at "t")) | ((specialize LS _ (.While _ _ _ _) _);refine' QE PassesOwn.never ?_ ?_) | ((specialize LS _ (.Assign [.Tuple _ _ _] (.Tuple _ _ _) _) _);refine' aB2 _ _ rfl (by assumption) ?_) | ((specialize LS _ (.Break _) _);exact QI) | ((specialize LS _ (.Raise _ _ _) _);exact QG) | ((specialize LS _ (.Assign [.Name _ _] _ _) _);refine' aJ7 _ ?_ ?_) | ((specialize LS _ (.Assign [.Subscript _ _ _] _ _) _);refine' VQ ?_ ?_ ?_) | ((specialize LS _ (.Assign [.Tuple _ _ _] _ _) _);refine' aB6 ?_ ?_ ?r;(case r=>walk_at "t")) | ((specialize LS _ (.Assign [.Subscript _ _ _] _ _) _);refine' VS hr.units ?_ ?_ ?_)) | ((with_reducible show LI _ _ _ _);first | ((specialize LI _ _ _ (kL _));refine' L6 rfl B.range ?_) | ((specialize LI _ _ _ (X9 _));refine' aFj rfl B.enumerate ?_) | ((specialize LI _ _ _ (yY _));refine' VX rfl B.zip ?_) | ((specialize LI _ _ _ (dG _));refine' aB7 ?_)) | ((with_reducible show PG _ _ _);first | ((specialize PG _ (.Name _ _) _);exact TY _ (by assumption)) | ((specialize PG _ (.Tuple _ _ _) _);refine' Z6 rfl ?_)) | ((with_reducible show TB _ _ _);first | ((specialize TB _ [] _);exact VN) | ((specialize TB _ [_] _);refine' VM ?_)) | ((with_reducible show LA _ _ _);first | ((specialize LA _ (_::_) _);refine' aJc ?_ ?_) | ((specialize LA _ [] _);exact aBn)) | ((with_reducible show hZ _ _ _);first | ((specialize hZ _ [_] _);refine' aB3 ?_) | ((specialize hZ _ [] _);exact aB4) | ((specialize hZ _ (_::_) _);refine' VU ?_ ?_)) | ((with_reducible show XX _ _ _);first | ((specialize XX _ (_::_) _);refine' O3 ?_ ?_) | ((specialize XX _ [] _);exact UY)) | ((with_reducible show g7 _ _ _);first | ((specialize g7 _ _ (bY _ oEq));exact aF6 hr.units) | ((specialize g7 _ _ (bY _ i9));exact aAk) | ((specialize g7 _ _ (bY _ D8));exact aF5 hr.units) | ((specialize g7 _ _ (bY _ v9));exact aAh) | ((specialize g7 _ _ (bY _ oMod));exact aAi) | ((specialize g7 _ _ (bY _ JK));exact aF3 hr.units) | ((specialize g7 _ _ (bY _ GS));exact aAe) | ((specialize g7 _ _ (bY _ oLt));exact aF4 hr.units) | ((specialize g7 _ _ (bY _ PD));exact aAf) | ((specialize g7 _ _ (bY _ LY));exact aAg hr.units) | ((specialize g7 _ _ (bY _ pE));exact U9) | ((specialize g7 _ _ (bY _ JL));exact VA) | ((specialize g7 _ _ (bY _ VC));exact aAj hr.units)) | ((with_reducible show LT _ _ _);first | ((specialize LT _ (.Compare _ [_] [_] _) _);refine' aAx ?_ ?_ ?_ (aF7 _)) | ((specialize LT _ (.UnaryOp .Not _ _) _);refine' aAw ?_) | ((specialize LT _ (.BoolOp .And _ _) _);refine' LW.lt (aAv ?_ ?_)) | ((specialize LT _ (.BoolOp .Or _ _) _);refine' LW.lt (aFd ?_ ?_)) | ((specialize LT _ _ _);refine' QD ?_)) | ((specialize UnR _ _ _);exact Y2) | ((with_reducible show LO _ _ _);first | ((specialize LO _ none _);exact VW) | ((specialize LO _ (some _) _);refine' VV ?_)) | ((with_reducible show LW _ _ _);first | ((specialize LW _ (.BoolOp .And [_] _) _);refine' VL ?_) | ((specialize LW _ (.BoolOp .Or [_] _) _);refine' aAu ?_)))
local macro_rules | `(tactic| walk_at "h")=>`(tactic| (intros;repeat' walk_at "g"))
set_option hygiene true
section
variable {P:Program}{w:World}{K:aNq}{mg:aNt}{base:Heap}{k:Nat}
theorem tJ:aP ["keys","numbers"] ["keys"] (aF gS):=⟨rfl,rfl,rfl,by decide+kernel,rfl,by decide+kernel,by decide+kernel⟩
def qD:WS:=(bL (aC c5 (aA (rW ["own"] [1] (dG (aB 0)) (gN 0) iX (aC c5 (aA (rW ["key"] [1] (dG (aB 0)) (gN 0) iX (vF (aB 1) (aB 0) (aC K7 (aA (aB 1) aD)))) aD))) aD)))
def k7:WS:=(aN (bB IV (gN 1)) (qD))
theorem G6(B:Bl mg):l7 P w K mg base k "numbered" ["keys","numbers"] gS (k7):=by
 intro f cdv A outer s H E hr;have nd:=tJ.nd;show hZ _ (_::_) _
 repeat' walk_at "g"
theorem lW:aP ["some","names","name","net"] ["some"] (aF dA):=⟨rfl,rfl,rfl,by decide+kernel,rfl,by decide+kernel,by decide+kernel⟩
def jB:WS:=(eM (uA "list" bN (aM aX (aB 1) (aB 3)) (aA (aB 2) aD)))
def j7:WS:=(bL (rW ["own"] [] (dG (aB 1)) (gN 0) iX (aC c5 (aA (aB 0) aD))))
def j8:WS:=(aN (lG (dG (aM aX (aB 0) (wC (.int 1)))) (gT 2 (aQ (gN 2) (aQ (gN 3) eG))) (jB)) (j7))
def fG:WS:=(aN (bB (rW ["net"] [] (kL (aA (aM aX (aB 0) (wC (.int 0))) aD)) (gN 0) iX (fR aD)) (gN 1)) (j8))
theorem wK(B:Bl mg):l7 P w K mg base k "names_by_net" ["some","names","name","net"] dA (fG):=by
 intro f cdv A outer s H E hr;have nd:=lW.nd;show hZ _ (_::_) _
 repeat' walk_at "g"
theorem lX:aP ["some","hooks","sort","gate","one","other","width","length"] ["some"] (aF dB):=⟨rfl,rfl,rfl,by decide+kernel,rfl,by decide+kernel,by decide+kernel⟩
def iA:WS:=(eM (uA "list" bN (aM aX (aB 1) (aB 5)) (aA (cX (aA (cX (aA (aB 2) (aA (aB 6) (aA (aB 7) (aA (wC (.int 1)) aD))))) (aA (aB 3) (aA (aB 4) aD)))) aD)))
def iB:WS:=(aN (eM (uA "list" bN (aM aX (aB 1) (aB 4)) (aA (cX (aA (cX (aA (aB 2) (aA (aB 6) (aA (aB 7) (aA (wC (.int 1)) aD))))) (aA (aB 3) (aA (aB 5) aD)))) aD))) (iA))
def jC:WS:=(aN (eM (uA "list" bN (aM aX (aB 1) (aB 3)) (aA (cX (aA (cX (aA (aB 2) (aA (aB 6) (aA (aB 7) (aA (wC (.int 0)) aD))))) (aA (aB 4) (aA (aB 5) aD)))) aD))) (iB))
def j9:WS:=(bL (aB 1))
def kA:WS:=(aN (lG (dG (aM aX (aB 0) (wC (.int 2)))) (gT 6 (aQ (gN 2) (aQ (gN 3) (aQ (gN 4) (aQ (gN 5) (aQ (gN 6) (aQ (gN 7) eG))))))) (jC)) (j9))
def fH:WS:=(aN (bB (rW ["net"] [] (kL (aA (aM aX (aB 0) (wC (.int 0))) aD)) (gN 0) iX (fR aD)) (gN 1)) (kA))
theorem wL(B:Bl mg)(oJ:rT K mg "AT_GATE" (.int 0))(FH:rT K mg "AT_END" (.int 1)):l7 P w K mg base k "hooks_by_net" ["some","hooks","sort","gate","one","other","width","length"] dB (fH):=by
 intro f cdv A outer s H E hr;have nd:=lX.nd;show hZ _ (_::_) _
 repeat' walk_at "g"
theorem vU:aP ["hook","own","fixed","one","other","left","right"] ["hook","own"] (aF iZ):=⟨rfl,rfl,rfl,by decide+kernel,rfl,by decide+kernel,by decide+kernel⟩
def mH:WS:=(bL (cX (aA (aB 2) (aA (aB 5) (aA (aB 6) aD)))))
def tB:WS:=(aN (dD (cU (aM oEq (aM aX (aB 2) (wC (.int 3))) (wC (.int 0)))) (bB (cX (aA (aC xS (aA (aB 5) (aA (aB 6) aD))) (aA (aC FX (aA (aB 5) (aA (aB 6) aD))) aD))) (gT 2 (aQ (gN 5) (aQ (gN 6) eG)))) bR) (mH))
def tE:WS:=(aN (bB (cX (aA (aM aX (aB 1) (aB 3)) (aA (aM aX (aB 1) (aB 4)) aD))) (gT 2 (aQ (gN 5) (aQ (gN 6) eG)))) (tB))
def oB:WS:=(aN (bB (aB 0) (gT 3 (aQ (gN 2) (aQ (gN 3) (aQ (gN 4) eG))))) (tE))
theorem MA(B:Bl mg)(oJ:rT K mg "AT_GATE" (.int 0)):l7 P w K mg base k "telling" ["hook","own","fixed","one","other","left","right"] iZ (oB):=by
 intro f cdv A outer s H E hr;have nd:=vU.nd;show hZ _ (_::_) _
 repeat' walk_at "g"
theorem nJ:aP ["one","other"] ["one","other"] (aF dQ):=⟨rfl,rfl,rfl,by decide+kernel,rfl,by decide+kernel,by decide+kernel⟩
def gJ(a s1:OA):WS:=(bL (aC a (aA (fR (aA (aC s1 (aA (aB 0) aD)) (aA (aC s1 (aA (aB 1) aD)) aD))) aD)))
variable{s0 s1:OA}
theorem yD(B:Bl mg)(gB:Fn P w K mg base k "numbered" ["keys"] s0)(nZ:Fn P w K mg base k "names_by_net" ["some"] s1):l7 P w K mg base k "first_marks" ["one","other"] dQ (gJ s0 s1):=by
 intro f cdv A outer s H E hr;have nd:=nJ.nd;show hZ _ (_::_) _
 repeat' walk_at "g"
theorem o6:aP ["sides","marked","keys","hooks","own"] ["sides","marked"] (aF eN):=⟨rfl,rfl,rfl,by decide+kernel,rfl,by decide+kernel,by decide+kernel⟩
def g9(s0 s1:OA):WS:=(eM (uA "list" bN (aB 2) (aA (rW ["net"] [4,3] (kL (aA (aC fT (aA (aB 4) aD)) aD)) (gN 0) iX (cX (aA (aM aX (aB 1) (aB 0)) (aA (aC c5 (aA (aC xR (aA (rW ["hook"] [1] (dG (aM aX (aB 2) (aB 0))) (gN 0) iX (aC s0 (aA (aB 0) (aA (aB 1) aD)))) aD)) aD)) aD)))) aD)))
def mI(s0 s1:OA):WS:=(bL (aC s1 (aA (aB 2) aD)))
def mJ(s0 s1:OA):WS:=(aN (lG (yY (aA (aB 0) (aA (aB 1) aD))) (gT 2 (aQ (gN 3) (aQ (gN 4) eG))) (g9 s0 s1)) (mI s0 s1))
def iD(s0 s1:OA):WS:=(aN (bB (fR aD) (gN 2)) (mJ s0 s1))
theorem BI(B:Bl mg)(zY:Fn P w K mg base k "telling" ["hook","own"] s0)(gB:Fn P w K mg base k "numbered" ["keys"] s1):l7 P w K mg base k "next_marks" ["sides","marked","keys","hooks","own"] eN (iD s0 s1):=by
 intro f cdv A outer s H E hr;have nd:=o6.nd;show hZ _ (_::_) _
 repeat' walk_at "g"
theorem tI:aP ["one","other"] ["one","other"] (aF gR):=⟨rfl,rfl,rfl,by decide+kernel,rfl,by decide+kernel,by decide+kernel⟩
def k6(s0:OA):WS:=(bL (cX (aA (aC s0 (aA (aB 0) aD)) (aA (aC s0 (aA (aB 1) aD)) aD))))
theorem G5(B:Bl mg)(n5:Fn P w K mg base k "hooks_by_net" ["some"] s0):l7 P w K mg base k "sides_of" ["one","other"] gR (k6 s0):=by
 intro f cdv A outer s H E hr;have nd:=tI.nd;show hZ _ (_::_) _
 repeat' walk_at "g"
theorem o9:aP ["marked"] ["marked"] (aF eQ):=⟨rfl,rfl,rfl,by decide+kernel,rfl,by decide+kernel,by decide+kernel⟩
def iG:WS:=(bL (aM LY (aC n9 (aA (aM aX (aB 0) (wC (.int 0))) aD)) (aC n9 (aA (aM aX (aB 0) (wC (.int 1))) aD))))
theorem BL(B:Bl mg):l7 P w K mg base k "are_parted" ["marked"] eQ (iG):=by
 intro f cdv A outer s H E hr;have nd:=o9.nd;show hZ _ (_::_) _
 repeat' walk_at "g"
theorem tK:aP ["sides","first","told","following"] ["sides","first"] (aF gU):=⟨rfl,rfl,rfl,by decide+kernel,rfl,by decide+kernel,by decide+kernel⟩
def lO(s0 s1:OA):WS:=(eM (uA "list" bN (aB 2) (aA (aB 3) aD)))
def lP(s0 s1:OA):WS:=(aN (dD (cU (aM oEq (aB 3) (aM aX (aB 2) (NX v8 (wC (.int 1)))))) Y0 bR) (lO s0 s1))
def jV(s0 s1:OA):WS:=(aN (bB (aC s1 (aA (aB 0) (aA (aM aX (aB 2) (NX v8 (wC (.int 1)))) aD))) (gN 3)) (lP s0 s1))
def d5(s0 s1:OA):WS:=(bL (aB 2))
def qE(s0 s1:OA):WS:=(aN (rY (fU (i8 (aC s0 (aA (aM aX (aB 2) (NX v8 (wC (.int 1)))) aD)))) (jV s0 s1)) (d5 s0 s1))
def k9(s0 s1:OA):WS:=(aN (bB (fR (aA (aB 1) aD)) (gN 2)) (qE s0 s1))
theorem G7(B:Bl mg)(cQ:Fn P w K mg base k "are_parted" ["marked"] s0)(rL:Fn P w K mg base k "next_marks" ["sides","marked"] s1):l7 P w K mg base k "marks_on" ["sides","first","told","following"] gU (k9 s0 s1):=by
 intro f cdv A outer s H E hr;have nd:=tK.nd;show hZ _ (_::_) _
 repeat' walk_at "g"
theorem qT:aP ["first","net","other_net","keys","own","named"] ["first","net","other_net"] (aF fK):=⟨rfl,rfl,rfl,by decide+kernel,rfl,by decide+kernel,by decide+kernel⟩
def iS(s0:OA):WS:=(eM (uA "list" bN (aB 3) (aA (rW ["number","mark"] [5] (X9 (aA (aB 4) aD)) (gT 2 (aQ (gN 0) (aQ (gN 1) eG))) iX (cX (aA (aB 1) (aA (aM oEq (aB 0) (aB 2)) aD)))) aD)))
def oP(s0:OA):WS:=(bL (aC s0 (aA (aB 3) aD)))
def oQ(s0:OA):WS:=(aN (lG (yY (aA (aB 0) (aA (cX (aA (aB 1) (aA (aB 2) aD))) aD))) (gT 2 (aQ (gN 4) (aQ (gN 5) eG))) (iS s0)) (oP s0))
def jA(s0:OA):WS:=(aN (bB (fR aD) (gN 3)) (oQ s0))
theorem EK(B:Bl mg)(gB:Fn P w K mg base k "numbered" ["keys"] s0):l7 P w K mg base k "with_name" ["first","net","other_net","keys","own","named"] fK (jA s0):=by
 intro f cdv A outer s H E hr;have nd:=qT.nd;show hZ _ (_::_) _
 repeat' walk_at "g"
theorem o7:aP ["own","many","mark"] ["own"] (aF eO):=⟨rfl,rfl,rfl,by decide+kernel,rfl,by decide+kernel,by decide+kernel⟩
def lN:WS:=(NY (aM i9 (IW (aB 1) (aB 2) (wC (.int 0))) (wC (.int 1))) (aB 1) (aB 2))
def mK:WS:=(bL (rW ["net","mark"] [1] (X9 (aA (aB 0) aD)) (gT 2 (aQ (gN 0) (aQ (gN 1) eG))) (cU (aM D8 (aM aAm (aB 2) (aB 1)) (wC (.int 1)))) (aB 0)))
def mL:WS:=(aN (lG (dG (aB 0)) (gN 2) (lN)) (mK))
def iE:WS:=(aN (bB (TM false) (gN 1)) (mL))
theorem BJ(B:Bl mg):l7 P w K mg base k "nets_alike" ["own","many","mark"] eO (iE):=by
 intro f cdv A outer s H E hr;have nd:=o7.nd;show hZ _ (_::_) _
 repeat' walk_at "g"
theorem jN:aP ["told","net","other_net","rounds","marked"] ["told","net","other_net"] (aF cO):=⟨rfl,rfl,rfl,by decide+kernel,rfl,by decide+kernel,by decide+kernel⟩
def h9:WS:=(dD (cU (aM JK (aM aX (aM aX (aB 4) (wC (.int 0))) (aB 1)) (aM aX (aM aX (aB 4) (wC (.int 1))) (aB 2)))) (bL (aB 3)) bR)
def iU:WS:=(bL (wC .b8))
def dZ:WS:=(aN (lG (X9 (aA (wSl oSl (aB 0) wNo (DC (wC (.int 2)))) aD)) (gT 2 (aQ (gN 3) (aQ (gN 4) eG))) (h9)) (iU))
theorem sH(B:Bl mg):l7 P w K mg base k "rounds_to_part" ["told","net","other_net","rounds","marked"] cO (dZ):=by
 intro f cdv A outer s H E hr;have nd:=jN.nd;show hZ _ (_::_) _
 repeat' walk_at "g"
theorem nH:aP ["one","other"] ["one","other"] (aF dP):=⟨rfl,rfl,rfl,by decide+kernel,rfl,by decide+kernel,by decide+kernel⟩
def gI:WS:=(bL (m5 (aM oEq (aM aX (aB 0) (wC (.int 0))) (aM aX (aB 1) (wC (.int 0)))) (aM oEq (aC fT (aA (aM aX (aB 0) (wC (.int 2))) aD)) (aC fT (aA (aM aX (aB 1) (wC (.int 2))) aD)))))
theorem yC(B:Bl mg):l7 P w K mg base k "is_as_great" ["one","other"] dP (gI):=by
 intro f cdv A outer s H E hr;have nd:=nH.nd;show hZ _ (_::_) _
 repeat' walk_at "g"
theorem vT:aP ["sides","told","last","alike","papers","net","paper"] ["sides","told"] (aF iY):=⟨rfl,rfl,rfl,by decide+kernel,rfl,by decide+kernel,by decide+kernel⟩
def mF(s0 s1 s2:OA):WS:=(eM (uA "list" bN (aB 4) (aA (aB 6) aD)))
def iT(s0 s1 s2:OA):WS:=(aN (dD (cU (aM oEq (aM aX (aB 6) (wC (.int 0))) (wC (.str "one")))) (bL (aB 6)) bR) (mF s0 s1 s2))
def qC(s0 s1 s2:OA):WS:=(aN (bB (aC s2 (aA (aB 0) (aA (aB 1) (aA (aM aX (aB 3) (wC (.int 0))) (aA (aB 5) aD))))) (gN 6)) (iT s0 s1 s2))
def sV(s0 s1 s2:OA):WS:=(bL (cX (aA (wC (.str "tries")) (aA (aM aX (aB 3) (wC (.int 0))) (aA (aC c5 (aA (aB 4) aD)) aD)))))
def mG(s0 s1 s2:OA):WS:=(aN (lG (kL (aA (aC fT (aA (aM aX (aB 2) (wC (.int 1))) aD)) aD)) (gN 5) (qC s0 s1 s2)) (sV s0 s1 s2))
def sW(s0 s1 s2:OA):WS:=(aN (bB (fR aD) (gN 4)) (mG s0 s1 s2))
def sX(s0 s1 s2:OA):WS:=(aN (dD (fU (i8 (aB 3))) (bL (cX (aA (wC (.str "one")) (aA (aC c5 (aA (rW ["mark"] [2] (dG (aM aX (aB 2) (wC (.int 0)))) (gN 0) iX (uA "tuple" G1 (aM aX (aB 1) (wC (.int 1))) (aA (aB 0) aD))) aD)) aD)))) bR) (sW s0 s1 s2))
def sY(s0 s1 s2:OA):WS:=(aN (bB (aC s1 (aA (aM aX (aB 2) (wC (.int 0))) aD)) (gN 3)) (sX s0 s1 s2))
def sZ(s0 s1 s2:OA):WS:=(aN (dD (i8 (aC s0 (aA (aB 2) aD))) (bL (cX (aA (wC (.str "marks")) (aA (aM GS (aC fT (aA (aB 1) aD)) (wC (.int 1))) aD)))) bR) (sY s0 s1 s2))
def oA(s0 s1 s2:OA):WS:=(aN (bB (aM aX (aB 1) (NX v8 (wC (.int 1)))) (gN 2)) (sZ s0 s1 s2))
variable{s2:OA}
theorem L9(B:Bl mg)(cQ:Fn P w K mg base k "are_parted" ["marked"] s0)(eA:Fn P w K mg base k "nets_alike" ["own"] s1)(KQ:Fn P w K mg base k "tried" ["sides","told","net","other_net"] s2):l7 P w K mg base k "weighed" ["sides","told","last","alike","papers","net","paper"] iY (oA s0 s1 s2):=by
 intro f cdv A outer s H E hr;have nd:=vT.nd;show hZ _ (_::_) _
 repeat' walk_at "g"
theorem DQ:aP ["sides","told","net","other_net","rounds"] ["sides","told","net","other_net"] (aF nC):=⟨rfl,rfl,rfl,by decide+kernel,rfl,by decide+kernel,by decide+kernel⟩
def yU(s0 s1 s2 a:OA):WS:=(bL (aC s1 (aA (aB 0) (aA (aC s2 (aA (aB 0) (aA (aC a (aA (aM aX (aB 1) (wC (.int 0))) (aA (aB 2) (aA (aB 3) aD)))) aD))) aD))))
def rX(s0 s1 s2 a:OA):WS:=(aN (dD (cU (aM pE (aB 4) (wC .b8))) (bL (cX (aA (wC (.str "marks")) (aA (aB 4) aD)))) bR) (yU s0 s1 s2 a))
def uJ(s0 s1 s2 a:OA):WS:=(aN (bB (aC s0 (aA (aB 1) (aA (aB 2) (aA (aB 3) aD)))) (gN 4)) (rX s0 s1 s2 a))
variable{s3:OA}
theorem V7(B:Bl mg)(d9:Fn P w K mg base k "rounds_to_part" ["told","net","other_net"] s0)(oF:Fn P w K mg base k "weighed" ["sides","told"] s1)(dY:Fn P w K mg base k "marks_on" ["sides","first"] s2)(jS:Fn P w K mg base k "with_name" ["first","net","other_net"] s3):l7 P w K mg base k "tried" ["sides","told","net","other_net","rounds"] nC (uJ s0 s1 s2 s3):=by
 intro f cdv A outer s H E hr;have nd:=DQ.nd;show hZ _ (_::_) _
 repeat' walk_at "g"
theorem JF:aP ["one","other","sides","told","paper"] ["one","other"] (aF qS):=⟨rfl,rfl,rfl,by decide+kernel,rfl,by decide+kernel,by decide+kernel⟩
def vD(s0 s1 s2 s3 a b c:OA):WS:=(bL (wIf (cU (aM oEq (aM aX (aB 4) (wC (.int 0))) (wC (.str "one")))) (aB 4) (cX (aA (wC (.str "two")) (aA (aB 4) aD)))))
def vE(s0 s1 s2 s3 b c a:OA):WS:=(aN (bB (aC a (aA (aB 2) (aA (aB 3) aD))) (gN 4)) (vD s0 s1 s2 s3 b c a))
def C8(s0 s1 s2 s3 a b c:OA):WS:=(aN (dD (tF (fU (i8 (aC a (aA (aM aX (aB 3) (NX v8 (wC (.int 1)))) aD)))) (cU (aM D8 (aC fT (aA (aC b (aA (aM aX (aM aX (aB 3) (NX v8 (wC (.int 1)))) (wC (.int 0))) aD)) aD)) (wC (.int 8))))) NZ bR) (vE s0 s1 s2 s3 a b c))
def C9(s0 s1 s2 s3 a b c:OA):WS:=(aN (bB (aC s2 (aA (aB 2) (aA (aC s3 (aA (aB 0) (aA (aB 1) aD))) aD))) (gN 3)) (C8 s0 s1 s2 s3 a b c))
def DA(s0 s1 s2 s3 a b c:OA):WS:=(aN (bB (aC s1 (aA (aB 0) (aA (aB 1) aD))) (gN 2)) (C9 s0 s1 s2 s3 a b c))
def AO(s0 s1 s2 s3 a b c:OA):WS:=(aN (dD (fU (i8 (aC s0 (aA (aB 0) (aA (aB 1) aD))))) (bL (cX (aA (wC (.str "two")) (aA (cX (aA (wC (.str "marks")) (aA (wC (.int 0)) aD))) aD)))) bR) (DA s0 s1 s2 s3 a b c))
variable{s4:OA}
theorem aBo(B:Bl mg)(gM:Fn P w K mg base k "is_as_great" ["one","other"] s0)(lL:Fn P w K mg base k "sides_of" ["one","other"] s1)(dY:Fn P w K mg base k "marks_on" ["sides","first"] s2)(gO:Fn P w K mg base k "first_marks" ["one","other"] s3)(cQ:Fn P w K mg base k "are_parted" ["marked"] s4){s5:OA}(eA:Fn P w K mg base k "nets_alike" ["own"] s5){s6:OA}(oF:Fn P w K mg base k "weighed" ["sides","told"] s6)(rQ:rT K mg "MOST_ALIKE" (.int 8)):l7 P w K mg base k "held" ["one","other","sides","told","paper"] qS (AO s0 s1 s2 s3 s4 s5 s6):=by
 intro f cdv A outer s H E hr;have nd:=JF.nd;show hZ _ (_::_) _
 repeat' walk_at "g"
theorem tM:aP ["thing"] ["thing"] (aF gV):=⟨rfl,rfl,rfl,by decide+kernel,rfl,by decide+kernel,by decide+kernel⟩
def lA:WS:=(bL (m5 (aC CU (aA (aB 0) (aA (wC (.ty "int")) aD))) (IU (aC CU (aA (aB 0) (aA (wC (.ty "bool")) aD))))))
theorem G8(B:Bl mg):l7 P w K mg base k "is_whole" ["thing"] gV (lA):=by
 intro f cdv A outer s H E hr;have nd:=tM.nd;show hZ _ (_::_) _
 repeat' walk_at "g"
theorem nF:aP ["thing","many"] ["thing","many"] (aF dN):=⟨rfl,rfl,rfl,by decide+kernel,rfl,by decide+kernel,by decide+kernel⟩
def gG:WS:=(bL (m5 (aC CU (aA (aB 0) (aA (wC (.ty "tuple")) aD))) (aM oEq (aC fT (aA (aB 0) aD)) (aB 1))))
theorem yA(B:Bl mg):l7 P w K mg base k "is_tuple_of" ["thing","many"] dN (gG):=by
 intro f cdv A outer s H E hr;have nd:=nF.nd;show hZ _ (_::_) _
 repeat' walk_at "g"
theorem DT:aP ["one","other","renaming","names","switches","sort","gate","low","high","width","length","ends"] ["one","other","renaming"] (aF nD):=⟨rfl,rfl,rfl,by decide+kernel,rfl,by decide+kernel,by decide+kernel⟩
def qF:WS:=(eM (uA "list" bN (aB 4) (aA (cX (aA (aB 5) (aA (aM aX (aB 2) (aB 6)) (aA (aM aX (aB 11) (wC (.int 0))) (aA (aM aX (aB 11) (wC (.int 1))) (aA (aB 9) (aA (aB 10) aD))))))) aD)))
def u4:WS:=(aN (bB (aC eD (aA (fR (aA (aM aX (aB 2) (aB 7)) (aA (aM aX (aB 2) (aB 8)) aD))) aD)) (gN 11)) (qF))
def yV:WS:=(bL (m5 (aM oEq (aC c5 (aA (aC eD (aA (aB 3) aD)) aD)) (aM aX (aB 1) (wC (.int 1)))) (aM oEq (aC c5 (aA (aC eD (aA (aB 4) aD)) aD)) (aM aX (aB 1) (wC (.int 2))))))
def yW:WS:=(aN (lG (dG (aM aX (aB 0) (wC (.int 2)))) (gT 6 (aQ (gN 5) (aQ (gN 6) (aQ (gN 7) (aQ (gN 8) (aQ (gN 9) (aQ (gN 10) eG))))))) (u4)) (yV))
def yX:WS:=(aN (bB (fR aD) (gN 4)) (yW))
def uK:WS:=(aN (bB (rW ["name","net"] [2] (dG (aM aX (aB 0) (wC (.int 1)))) (gT 2 (aQ (gN 0) (aQ (gN 1) eG))) iX (cX (aA (aB 0) (aA (aM aX (aB 2) (aB 1)) aD)))) (gN 3)) (yX))
theorem V8(B:Bl mg):l7 P w K mg base k "leads" ["one","other","renaming","names","switches","sort","gate","low","high","width","length","ends"] nD (uK):=by
 intro f cdv A outer s H E hr;have nd:=DT.nd;show hZ _ (_::_) _
 repeat' walk_at "g"
theorem nG:aP ["one","other","thing"] ["one","other","thing"] (aF dO):=⟨rfl,rfl,rfl,by decide+kernel,rfl,by decide+kernel,by decide+kernel⟩
def lQ(s0 s1:OA):WS:=(bL (aM VC (aC n9 (aA (aB 2) aD)) (m4 (aA (aM aX (aB 1) (wC (.int 0))) aD))))
def gH(s0 s1:OA):WS:=(aN (dD (F8 (fU (i8 (aC s0 (aA (aB 2) (aA (aM aX (aB 0) (wC (.int 0))) aD))))) (fU (i8 (aC SI (aA (rW ["net"] [] (dG (aB 2)) (gN 0) iX (aC s1 (aA (aB 0) aD))) aD))))) (bL (wC (.bl false))) bR) (lQ s0 s1))
theorem yB(B:Bl mg)(cB:Fn P w K mg base k "is_tuple_of" ["thing","many"] s0)(gC:Fn P w K mg base k "is_whole" ["thing"] s1):l7 P w K mg base k "is_renaming" ["one","other","thing"] dO (gH s0 s1):=by
 intro f cdv A outer s H E hr;have nd:=nG.nd;show hZ _ (_::_) _
 repeat' walk_at "g"
theorem tO:aP ["thing","rounds"] ["thing","rounds"] (aF gX):=⟨rfl,rfl,rfl,by decide+kernel,rfl,by decide+kernel,by decide+kernel⟩
def lC(s0 s1:OA):WS:=(bL (m5 (aC s0 (aA (aB 0) (aA (wC (.int 2)) aD))) (m5 (aC s1 (aA (aM aX (aB 0) (wC (.int 1))) aD)) (aM oEq (aB 0) (cX (aA (wC (.str "marks")) (aA (aB 1) aD)))))))
theorem HB(B:Bl mg)(cB:Fn P w K mg base k "is_tuple_of" ["thing","many"] s0)(gC:Fn P w K mg base k "is_whole" ["thing"] s1):l7 P w K mg base k "is_marks" ["thing","rounds"] gX (lC s0 s1):=by
 intro f cdv A outer s H E hr;have nd:=tO.nd;show hZ _ (_::_) _
 repeat' walk_at "g"
theorem tN:aP ["thing","net","many"] ["thing","net","many"] (aF gW):=⟨rfl,rfl,rfl,by decide+kernel,rfl,by decide+kernel,by decide+kernel⟩
def qH(s0 s1:OA):WS:=(bL (m5 (aM oEq (wSl oSl (aB 0) wNo (DC (wC (.int 2)))) (cX (aA (wC (.str "tries")) (aA (aB 1) aD)))) (aC s0 (aA (aM aX (aB 0) (wC (.int 2))) (aA (aB 2) aD)))))
def lB(s0 s1:OA):WS:=(aN (dD (F8 (fU (i8 (aC s0 (aA (aB 0) (aA (wC (.int 3)) aD))))) (fU (i8 (aC s1 (aA (aM aX (aB 0) (wC (.int 1))) aD))))) (bL (wC (.bl false))) bR) (qH s0 s1))
theorem G9(B:Bl mg)(cB:Fn P w K mg base k "is_tuple_of" ["thing","many"] s0)(gC:Fn P w K mg base k "is_whole" ["thing"] s1):l7 P w K mg base k "is_tries" ["thing","net","many"] gW (lB s0 s1):=by
 intro f cdv A outer s H E hr;have nd:=tN.nd;show hZ _ (_::_) _
 repeat' walk_at "g"
theorem zD:aP ["sides","told","nets","thing","net","other_net","rounds"] ["sides","told","nets","thing"] (aF kO):=⟨rfl,rfl,rfl,by decide+kernel,rfl,by decide+kernel,by decide+kernel⟩
def vB(s0 s1 s2 s3 s4:OA):WS:=(bL (aC s2 (aA (aB 0) (aA (aC s3 (aA (aB 0) (aA (aC s4 (aA (aM aX (aB 1) (wC (.int 0))) (aA (aB 4) (aA (aB 5) aD)))) aD))) (aA (aB 3) aD)))))
def pS(s0 s1 s2 s3 s4:OA):WS:=(aN (dD (cU (aM pE (aB 6) (wC .b8))) (bL (aC s1 (aA (aB 3) (aA (aB 6) aD)))) bR) (vB s0 s1 s2 s3 s4))
def vC(s0 s1 s2 s3 s4:OA):WS:=(aN (bB (aC s0 (aA (aB 1) (aA (aB 4) (aA (aB 5) aD)))) (gN 6)) (pS s0 s1 s2 s3 s4))
def qG(s0 s1 s2 s3 s4:OA):WS:=(aN (bB (aB 2) (gT 2 (aQ (gN 4) (aQ (gN 5) eG)))) (vC s0 s1 s2 s3 s4))
theorem QV(B:Bl mg)(d9:Fn P w K mg base k "rounds_to_part" ["told","net","other_net"] s0)(gD:Fn P w K mg base k "is_marks" ["thing","rounds"] s1)(iO:Fn P w K mg base k "is_parting" ["sides","told","thing"] s2)(dY:Fn P w K mg base k "marks_on" ["sides","first"] s3)(jS:Fn P w K mg base k "with_name" ["first","net","other_net"] s4):l7 P w K mg base k "is_try" ["sides","told","nets","thing","net","other_net","rounds"] kO (qG s0 s1 s2 s3 s4):=by
 intro f cdv A outer s H E hr;have nd:=zD.nd;show hZ _ (_::_) _
 repeat' walk_at "g"
theorem o8:aP ["sides","told","thing","last","alike","net","paper"] ["sides","told","thing"] (aF eP):=⟨rfl,rfl,rfl,by decide+kernel,rfl,by decide+kernel,by decide+kernel⟩
def lR(s0 s1 s2 s3 s4:OA):WS:=(dD (fU (i8 (aC s4 (aA (aB 0) (aA (aB 1) (aA (cX (aA (aM aX (aB 4) (wC (.int 0))) (aA (aB 5) aD))) (aA (aB 6) aD))))))) (bL (wC (.bl false))) bR)
def mN(s0 s1 s2 s3 s4:OA):WS:=(bL (wC (.bl true)))
def mO(s0 s1 s2 s3 s4:OA):WS:=(aN (lG (X9 (aA (aM aX (aB 2) (wC (.int 2))) aD)) (gT 2 (aQ (gN 5) (aQ (gN 6) eG))) (lR s0 s1 s2 s3 s4)) (mN s0 s1 s2 s3 s4))
def mP(s0 s1 s2 s3 s4:OA):WS:=(aN (dD (F8 (fU (i8 (aB 4))) (fU (i8 (aC s3 (aA (aB 2) (aA (aM aX (aB 4) (wC (.int 0))) (aA (aC fT (aA (aM aX (aB 3) (wC (.int 1))) aD)) aD))))))) (bL (wC (.bl false))) bR) (mO s0 s1 s2 s3 s4))
def mQ(s0 s1 s2 s3 s4:OA):WS:=(aN (bB (aC s2 (aA (aM aX (aB 3) (wC (.int 0))) aD)) (gN 4)) (mP s0 s1 s2 s3 s4))
def mR(s0 s1 s2 s3 s4:OA):WS:=(aN (dD (i8 (aC s0 (aA (aB 3) aD))) (bL (aC s1 (aA (aB 2) (aA (aM GS (aC fT (aA (aB 1) aD)) (wC (.int 1))) aD)))) bR) (mQ s0 s1 s2 s3 s4))
def iF(s0 s1 s2 s3 s4:OA):WS:=(aN (bB (aM aX (aB 1) (NX v8 (wC (.int 1)))) (gN 3)) (mR s0 s1 s2 s3 s4))
theorem BK(B:Bl mg)(cQ:Fn P w K mg base k "are_parted" ["marked"] s0)(gD:Fn P w K mg base k "is_marks" ["thing","rounds"] s1)(eA:Fn P w K mg base k "nets_alike" ["own"] s2)(w4:Fn P w K mg base k "is_tries" ["thing","net","many"] s3)(E4:Fn P w K mg base k "is_try" ["sides","told","nets","thing"] s4):l7 P w K mg base k "is_parting" ["sides","told","thing","last","alike","net","paper"] eP (iF s0 s1 s2 s3 s4):=by
 intro f cdv A outer s H E hr;have nd:=o8.nd;show hZ _ (_::_) _
 repeat' walk_at "g"
theorem zC:aP ["one","other","thing","word","inner","sides"] ["one","other","thing"] (aF kN):=⟨rfl,rfl,rfl,by decide+kernel,rfl,by decide+kernel,by decide+kernel⟩
def uX(s0 s1 s2 s3 s4 d a b c:OA):WS:=(bL (aC a (aA (aB 5) (aA (aC b (aA (aB 5) (aA (aC c (aA (aB 0) (aA (aB 1) aD))) aD))) (aA (aB 4) aD)))))
def uY(s0 s1 s2 s3 s4 a b c d:OA):WS:=(aN (bB (aC a (aA (aB 0) (aA (aB 1) aD))) (gN 5)) (uX s0 s1 s2 s3 s4 a b c d))
def uZ(s0 s1 s2 s3 s4 a b c d:OA):WS:=(aN (dD (fU (i8 (aC s3 (aA (aB 0) (aA (aB 1) aD))))) (bL (aC s4 (aA (aB 4) (aA (wC (.int 0)) aD)))) bR) (uY s0 s1 s2 s3 s4 a b c d))
def u3(s0 s1 s2 s3 s4 a b c d:OA):WS:=(aN (dD (cU (aM JK (aB 3) (wC (.str "two")))) (bL (wC (.bl false))) bR) (uZ s0 s1 s2 s3 s4 a b c d))
def pL(s0 s1 s2 s3 s4 a b c d:OA):WS:=(aN (dD (cU (aM oEq (aB 3) (wC (.str "one")))) (bL (m5 (aC s1 (aA (aB 0) (aA (aB 1) (aA (aB 4) aD)))) (aC s2 (aA (aB 0) (aA (aB 1) (aA (aB 4) aD)))))) bR) (u3 s0 s1 s2 s3 s4 a b c d))
def pM(s0 s1 s2 s3 s4 a b c d:OA):WS:=(aN (bB (aB 2) (gT 2 (aQ (gN 3) (aQ (gN 4) eG)))) (pL s0 s1 s2 s3 s4 a b c d))
def mM(s0 s1 s2 s3 s4 a b c d:OA):WS:=(aN (dD (fU (i8 (aC s0 (aA (aB 2) (aA (wC (.int 2)) aD))))) (bL (wC (.bl false))) bR) (pM s0 s1 s2 s3 s4 a b c d))
theorem QU(B:Bl mg)(cB:Fn P w K mg base k "is_tuple_of" ["thing","many"] s0)(pI:Fn P w K mg base k "is_renaming" ["one","other","thing"] s1)(KR:Fn P w K mg base k "leads" ["one","other","renaming"] s2)(gM:Fn P w K mg base k "is_as_great" ["one","other"] s3)(gD:Fn P w K mg base k "is_marks" ["thing","rounds"] s4){s5:OA}(lL:Fn P w K mg base k "sides_of" ["one","other"] s5){s6:OA}(iO:Fn P w K mg base k "is_parting" ["sides","told","thing"] s6){s7:OA}(dY:Fn P w K mg base k "marks_on" ["sides","first"] s7){s8:OA}(gO:Fn P w K mg base k "first_marks" ["one","other"] s8):l7 P w K mg base k "looked" ["one","other","thing","word","inner","sides"] kN (mM s0 s1 s2 s3 s4 s5 s6 s7 s8):=by
 intro f cdv A outer s H E hr;have nd:=zC.nd;show hZ _ (_::_) _
 repeat' walk_at "g"
theorem tP:aP ["_law_script","_law_at","_law_cell","_law_mix","_law_k"] ["_law_script","_law_at"] (aF gY):=⟨rfl,rfl,rfl,by decide+kernel,rfl,by decide+kernel,by decide+kernel⟩
def o4:WS:=(bB (aM oMod (aM PD (aM i9 (aM i9 (aM v9 (aB 3) (wC (.int 48271))) (aM oMod (aM aX (aB 0) (aB 4)) (wC (.int 2147483647)))) (aM v9 (aB 4) (aB 4))) (wC (.int 5))) (wC (.int 2147483629))) (gN 3))
def qI:WS:=(bL (fR (aA (aB 2) (aA (aB 3) aD))))
def lD:WS:=(aN (dD (cU (aM oLt (aB 2) (aM PD (wC (.int 10)) (wC (.int 18))))) (bB (wC (.int 0)) (gN 2)) bR) (qI))
def qJ:WS:=(aN (lG (kL (aA (aC xS (aA (aC fT (aA (aB 0) aD)) (aA (wC (.int 60)) aD))) aD)) (gN 4) (o4)) (lD))
def lE:WS:=(aN (bB (aM i9 (aM i9 (aM v9 (aM v9 (wC (.int 7919)) (aB 1)) (aB 1)) (aM v9 (wC (.int 104729)) (aB 1))) (wC (.int 17))) (gN 3)) (qJ))
def qK:WS:=(aN (dD (cU (aM oLt (aB 1) (aC fT (aA (aB 0) aD)))) (bB (aC SJ (aA (aM aX (aB 0) (aB 1)) aD)) (gN 2)) bR) (lE))
def lF:WS:=(aN (bB (wC (.int 0)) (gN 2)) (qK))
theorem HC(B:Bl mg):l7 P w K mg base k "_law_bag" ["_law_script","_law_at","_law_cell","_law_mix","_law_k"] gY (lF):=by
 intro f cdv A outer s H E hr;have nd:=tP.nd;show hZ _ (_::_) _
 repeat' walk_at "g"
theorem qU:aP ["_law_bag_here","_law_many","_law_digit","_law_number","_law_room"] ["_law_bag_here","_law_many"] (aF fL):=⟨rfl,rfl,rfl,by decide+kernel,rfl,by decide+kernel,by decide+kernel⟩
def kB:WS:=(bB (aM v9 (aB 4) (wC (.int 1073741789))) (gN 4))
def kG:WS:=(aN (bB (aM i9 (aM v9 (aB 3) (wC (.int 1073741789))) (aM oMod (aM v9 (aM JL (aM aX (aB 0) (wC (.int 1))) (wC (.int 8))) (wC (.int 69621))) (wC (.int 1073741789)))) (gN 3)) (kB))
def mS:WS:=(aN (DB (aM oMod (aM PD (aM i9 (aM v9 (aM aX (aB 0) (wC (.int 1))) (wC (.int 48271))) (wC (.int 7919))) (wC (.int 5))) (wC (.int 2147483629))) (aB 0) (wC (.int 1))) (kG))
def jW:WS:=(bL (aM oMod (aB 3) (aB 1)))
def oR:WS:=(aN (rY (cU (aM oLt (aB 4) (aB 1))) (mS)) (jW))
def oS:WS:=(aN (bB (wC (.int 1)) (gN 4)) (oR))
def oT:WS:=(aN (bB (wC (.int 0)) (gN 3)) (oS))
def jD:WS:=(aN (dD (cU (aM D8 (aM aX (aB 0) (wC (.int 0))) (wC (.int 0)))) (aN (bB (aM oMod (aM aX (aB 0) (wC (.int 0))) (aB 1)) (gN 2)) (aN (DB (aM JL (aM aX (aB 0) (wC (.int 0))) (aB 1)) (aB 0) (wC (.int 0))) (bL (aB 2)))) bR) (oT))
theorem EL(B:Bl mg):l7 P w K mg base k "_law_take" ["_law_bag_here","_law_many","_law_digit","_law_number","_law_room"] fL (jD):=by
 intro f cdv A outer s H E hr;have nd:=qU.nd;show hZ _ (_::_) _
 repeat' walk_at "g"
theorem pC:aP ["_law_bag_here","_law_many","_law_left","_law_found"] ["_law_bag_here","_law_many"] (aF eT):=⟨rfl,rfl,rfl,by decide+kernel,rfl,by decide+kernel,by decide+kernel⟩
def hG(s0:OA):WS:=(eM (uA "list" bN (aB 3) (aA (uA "list" BG (aB 2) (aA (aC s0 (aA (aB 0) (aA (aC fT (aA (aB 2) aD)) aD))) aD)) aD)))
def iW(s0:OA):WS:=(bL (aB 3))
def mY(s0:OA):WS:=(aN (rY (cU (aM D8 (aC fT (aA (aB 2) aD)) (wC (.int 0)))) (hG s0)) (iW s0))
def mZ(s0:OA):WS:=(aN (bB (fR aD) (gN 3)) (mY s0))
def iJ(s0:OA):WS:=(aN (bB (m4 (aA (aB 1) aD)) (gN 2)) (mZ s0))
theorem BO(B:Bl mg)(bQ:Fn P w K mg base k "_law_take" ["_law_bag_here","_law_many"] s0):l7 P w K mg base k "_law_order" ["_law_bag_here","_law_many","_law_left","_law_found"] eT (iJ s0):=by
 intro f cdv A outer s H E hr;have nd:=pC.nd;show hZ _ (_::_) _
 repeat' walk_at "g"
theorem nK:aP ["_law_bag_here","_law_many","_law_easy","_law_sort","_law_tips","_law_kind"] ["_law_bag_here","_law_many","_law_easy"] (aF dR):=⟨rfl,rfl,rfl,by decide+kernel,rfl,by decide+kernel,by decide+kernel⟩
def hC(s0:OA):WS:=(bL (cX (aA (aB 3) (aA (aC s0 (aA (aB 0) (aA (aB 1) aD))) (aA (aM aX (aB 4) (wC (.int 0))) (aA (aM aX (aB 4) (wC (.int 1))) (aA (aM aX (fR (aA (wC (.int 6)) (aA (wC (.int 2)) (aA (wC (.int 6)) (aA (wC (.int 3)) aD))))) (aB 5)) (aA (aM aX (fR (aA (wC (.int 2)) (aA (wC (.int 6)) (aA (wC (.int 6)) (aA (wC (.int 4)) aD))))) (aB 5)) aD))))))))
def lS(s0:OA):WS:=(aN (bB (aM aX (fR (aA (wC (.int 0)) (aA (aC s0 (aA (aB 0) (aA (wC (.int 4)) aD))) aD))) (aC aD7 (aA (aM D8 (aB 2) (wC (.int 0))) aD))) (gN 5)) (hC s0))
def lT(s0:OA):WS:=(aN (bB (aC eD (aA (fR (aA (aC s0 (aA (aB 0) (aA (aB 1) aD))) (aA (aC s0 (aA (aB 0) (aA (aB 1) aD))) aD))) aD)) (gN 4)) (lS s0))
def gK(s0:OA):WS:=(aN (bB (aM aX (wC (.str "np")) (aC s0 (aA (aB 0) (aA (wC (.int 2)) aD)))) (gN 3)) (lT s0))
theorem yE(B:Bl mg)(bQ:Fn P w K mg base k "_law_take" ["_law_bag_here","_law_many"] s0):l7 P w K mg base k "_law_switch" ["_law_bag_here","_law_many","_law_easy","_law_sort","_law_tips","_law_kind"] dR (gK s0):=by
 intro f cdv A outer s H E hr;have nd:=nK.nd;show hZ _ (_::_) _
 repeat' walk_at "g"
theorem qV:aP ["_law_bag_here","_law_most","_law_wires","_law_easy","_law_many","_law_names","_law_name","_law_kind","_law_switches"] ["_law_bag_here","_law_most","_law_wires"] (aF fM):=⟨rfl,rfl,rfl,by decide+kernel,rfl,by decide+kernel,by decide+kernel⟩
def f7(s0 s1:OA):WS:=(dD (cU (aM oEq (aB 7) (wC (.int 1)))) (eM (uA "list" bN (aB 5) (aA (cX (aA (aB 6) (aA (aC s0 (aA (aB 0) (aA (aB 4) aD))) aD))) aD))) bR)
def kH(s0 s1:OA):WS:=(aN (dD (cU (aM D8 (aB 7) (wC (.int 0)))) (eM (uA "list" bN (aB 5) (aA (cX (aA (aB 6) (aA (aC s0 (aA (aB 0) (aA (aB 4) aD))) aD))) aD))) bR) (f7 s0 s1))
def mT(s0 s1:OA):WS:=(aN (bB (aC s0 (aA (aB 0) (aA (wC (.int 8)) aD))) (gN 7)) (kH s0 s1))
def jX(s0 s1:OA):WS:=(bL (cX (aA (aB 4) (aA (aC c5 (aA (jL (aB 5)) aD)) (aA (aC c5 (aA (aC eD (aA (aB 8) aD)) aD)) aD)))))
def oU(s0 s1:OA):WS:=(aN (dD (tF (cU (aM D8 (aC fT (aA (aB 8) aD)) (wC (.int 0)))) (cU (aM oEq (aC s0 (aA (aB 0) (aA (wC (.int 4)) aD))) (wC (.int 1))))) (eM (uA "list" bN (aB 8) (aA (aM aX (aB 8) (aC s0 (aA (aB 0) (aA (aC fT (aA (aB 8) aD)) aD)))) aD))) bR) (jX s0 s1))
def gL(s0 s1:OA):WS:=(aN (bB (rW ["_law_turn"] [0,4,3] (kL (aA (aC s0 (aA (aB 0) (aA (aM i9 (aB 2) (wC (.int 1))) aD))) aD)) (gN 0) iX (aC s1 (aA (aB 1) (aA (aB 2) (aA (aB 3) aD))))) (gN 8)) (oU s0 s1))
def oV(s0 s1:OA):WS:=(aN (lG (dG (fR (aA (wC (.str "a")) (aA (wC (.str "b")) (aA (wC (.str "c")) (aA (wC (.str "down")) (aA (wC (.str "out")) (aA (wC (.str "up")) aD)))))))) (gN 6) (mT s0 s1)) (gL s0 s1))
def oW(s0 s1:OA):WS:=(aN (bB (fR aD) (gN 5)) (oV s0 s1))
def oX(s0 s1:OA):WS:=(aN (bB (aM i9 (wC (.int 1)) (aC s0 (aA (aB 0) (aA (aB 1) aD)))) (gN 4)) (oW s0 s1))
def jE(s0 s1:OA):WS:=(aN (bB (aC s0 (aA (aB 0) (aA (wC (.int 3)) aD))) (gN 3)) (oX s0 s1))
theorem EM(B:Bl mg)(bQ:Fn P w K mg base k "_law_take" ["_law_bag_here","_law_many"] s0)(gP:Fn P w K mg base k "_law_switch" ["_law_bag_here","_law_many","_law_easy"] s1):l7 P w K mg base k "_law_some" ["_law_bag_here","_law_most","_law_wires","_law_easy","_law_many","_law_names","_law_name","_law_kind","_law_switches"] fM (jE s0 s1):=by
 intro f cdv A outer s H E hr;have nd:=qV.nd;show hZ _ (_::_) _
 repeat' walk_at "g"
theorem lY:aP ["_law_some_here","_law_order_here","_law_names","_law_switches","_law_sort","_law_gate","_law_one","_law_other","_law_width","_law_length","_law_low","_law_high"] ["_law_some_here","_law_order_here"] (aF dC):=⟨rfl,rfl,rfl,by decide+kernel,rfl,by decide+kernel,by decide+kernel⟩
def iC:WS:=(eM (uA "list" bN (aB 3) (aA (cX (aA (aB 4) (aA (aM aX (aB 1) (aB 5)) (aA (aB 10) (aA (aB 11) (aA (aB 8) (aA (aB 9) aD))))))) aD)))
def jH:WS:=(aN (IX (aC eD (aA (fR (aA (aM aX (aB 1) (aB 6)) (aA (aM aX (aB 1) (aB 7)) aD))) aD)) 2 (aQ (gN 10) (aQ (gN 11) eG))) (iC))
def kI:WS:=(bL (cX (aA (aM aX (aB 0) (wC (.int 0))) (aA (aC c5 (aA (aB 2) aD)) (aA (aC c5 (aA (aC eD (aA (aB 3) aD)) aD)) aD)))))
def kJ:WS:=(aN (lG (dG (aM aX (aB 0) (wC (.int 2)))) (gT 6 (aQ (gN 4) (aQ (gN 5) (aQ (gN 6) (aQ (gN 7) (aQ (gN 8) (aQ (gN 9) eG))))))) (jH)) (kI))
def kK:WS:=(aN (bB (fR aD) (gN 3)) (kJ))
def fI:WS:=(aN (bB (aC eD (aA (rW ["_law_name","_law_net"] [1] (dG (aM aX (aB 0) (wC (.int 1)))) (gT 2 (aQ (gN 0) (aQ (gN 1) eG))) iX (cX (aA (aB 0) (aA (aM aX (aB 2) (aB 1)) aD)))) aD)) (gN 2)) (kK))
theorem wM(B:Bl mg):l7 P w K mg base k "_law_renamed" ["_law_some_here","_law_order_here","_law_names","_law_switches","_law_sort","_law_gate","_law_one","_law_other","_law_width","_law_length","_law_low","_law_high"] dC (fI):=by
 intro f cdv A outer s H E hr;have nd:=lY.nd;show hZ _ (_::_) _
 repeat' walk_at "g"
theorem pA:aP ["_law_wheels","_law_more","_law_many","_law_switches","_law_size","_law_k","_law_tips"] ["_law_wheels","_law_more"] (aF eR):=⟨rfl,rfl,rfl,by decide+kernel,rfl,by decide+kernel,by decide+kernel⟩
def jF:WS:=(eM (uA "list" bN (aB 3) (aA (cX (aA (wC (.str "n")) (aA (wC (.int 0)) (aA (aM aX (aB 6) (wC (.int 0))) (aA (aM aX (aB 6) (wC (.int 1))) (aA (wC (.int 6)) (aA (wC (.int 2)) aD))))))) aD)))
def lU:WS:=(aN (bB (aC eD (aA (fR (aA (aM i9 (aB 2) (aB 5)) (aA (aM i9 (aB 2) (aM oMod (aM i9 (aB 5) (wC (.int 1))) (aB 4))) aD))) aD)) (gN 6)) (jF))
def jG:WS:=(bB (aM i9 (aB 2) (aB 4)) (gN 2))
def lV:WS:=(aN (lG (kL (aA (aB 4) aD)) (gN 5) (lU)) (jG))
def mU:WS:=(bL (cX (aA (aM i9 (aB 2) (aB 1)) (aA (cX (aA (cX (aA (wC (.str "a")) (aA (wC (.int 0)) aD))) aD)) (aA (aC c5 (aA (aC eD (aA (aB 3) aD)) aD)) aD)))))
def mV:WS:=(aN (lG (dG (aB 0)) (gN 4) (lV)) (mU))
def mW:WS:=(aN (bB (fR aD) (gN 3)) (mV))
def iH:WS:=(aN (bB (wC (.int 1)) (gN 2)) (mW))
theorem BM(B:Bl mg):l7 P w K mg base k "_law_rings" ["_law_wheels","_law_more","_law_many","_law_switches","_law_size","_law_k","_law_tips"] eR (iH):=by
 intro f cdv A outer s H E hr;have nd:=pA.nd;show hZ _ (_::_) _
 repeat' walk_at "g"
theorem pB:aP ["_law_bag_here","_law_total","_law_found","_law_part"] ["_law_bag_here","_law_total"] (aF eS):=⟨rfl,rfl,rfl,by decide+kernel,rfl,by decide+kernel,by decide+kernel⟩
def jI(s0:OA):WS:=(bB (aM GS (aB 1) (aB 3)) (gN 1))
def fJ(s0:OA):WS:=(aN (eM (uA "list" bN (aB 2) (aA (aB 3) aD))) (jI s0))
def jJ(s0:OA):WS:=(aN (dD (cU (aM D8 (aB 3) (aM GS (aB 1) (wC (.int 2))))) (bB (aB 1) (gN 3)) bR) (fJ s0))
def c9(s0:OA):WS:=(aN (bB (aM i9 (wC (.int 2)) (aC s0 (aA (aB 0) (aA (aM GS (aB 1) (wC (.int 1))) aD)))) (gN 3)) (jJ s0))
def iV(s0:OA):WS:=(bL (aB 2))
def cW(s0:OA):WS:=(aN (dD (cU (aM D8 (aB 1) (wC (.int 0)))) (eM (uA "list" bN (aB 2) (aA (aB 1) aD))) bR) (iV s0))
def mX(s0:OA):WS:=(aN (rY (cU (aM D8 (aB 1) (wC (.int 3)))) (c9 s0)) (cW s0))
def iI(s0:OA):WS:=(aN (bB (fR aD) (gN 2)) (mX s0))
theorem BN(B:Bl mg)(bQ:Fn P w K mg base k "_law_take" ["_law_bag_here","_law_many"] s0):l7 P w K mg base k "_law_parts" ["_law_bag_here","_law_total","_law_found","_law_part"] eS (iI s0):=by
 intro f cdv A outer s H E hr;have nd:=pB.nd;show hZ _ (_::_) _
 repeat' walk_at "g"
theorem qW:aP ["_law_bag_here","_law_one","_law_same","_law_rest"] ["_law_bag_here","_law_one"] (aF fN):=⟨rfl,rfl,rfl,by decide+kernel,rfl,by decide+kernel,by decide+kernel⟩
def jY(s0 s1 s2 s3:OA):WS:=(bL (aC s2 (aA (cX (aA (aM aX (aB 1) (wC (.int 0))) (aA (aM aX (aB 1) (wC (.int 1))) (aA (aC c5 (aA (aC eD (aA (aB 3) aD)) aD)) aD)))) (aA (aC s3 (aA (aB 0) (aA (aM aX (aB 1) (wC (.int 0))) aD))) aD))))
def oY(s0 s1 s2 s3:OA):WS:=(aN (dD (tF (cU (aM oEq (aB 2) (wC (.int 0)))) (cU (aM LY (aB 3) (fR aD)))) (DB (aC s1 (aA (aB 0) (aA (aM aX (aB 1) (wC (.int 0))) (aA (wC (.int 1)) aD)))) (aB 3) (aC s0 (aA (aB 0) (aA (aC fT (aA (aB 3) aD)) aD)))) bR) (jY s0 s1 s2 s3))
def oZ(s0 s1 s2 s3:OA):WS:=(aN (bB (aC FY (aA (aM aX (aB 1) (wC (.int 2))) aD)) (gN 3)) (oY s0 s1 s2 s3))
def jK(s0 s1 s2 s3:OA):WS:=(aN (bB (aC s0 (aA (aB 0) (aA (wC (.int 2)) aD))) (gN 2)) (oZ s0 s1 s2 s3))
theorem EN(B:Bl mg)(bQ:Fn P w K mg base k "_law_take" ["_law_bag_here","_law_many"] s0)(gP:Fn P w K mg base k "_law_switch" ["_law_bag_here","_law_many","_law_easy"] s1)(fQ:Fn P w K mg base k "_law_renamed" ["_law_some_here","_law_order_here"] s2)(rO:Fn P w K mg base k "_law_order" ["_law_bag_here","_law_many"] s3):l7 P w K mg base k "_law_next" ["_law_bag_here","_law_one","_law_same","_law_rest"] fN (jK s0 s1 s2 s3):=by
 intro f cdv A outer s H E hr;have nd:=qW.nd;show hZ _ (_::_) _
 repeat' walk_at "g"
theorem OB:aP ["_law_script","_law_k","_law_bag_here","_law_one","_law_lists","_law_papers","_law_i","_law_j","_law_duo"] ["_law_script"] (aF vN):=⟨rfl,rfl,rfl,by decide+kernel,rfl,by decide+kernel,by decide+kernel⟩
def pN(s0 s1 s2 s3 s4 b c a d:OA):WS:=(dD (tF (cU (aM oEq (aM aX (aM aX (aM aX (aB 5) (aB 6)) (aB 7)) (wC (.int 0))) (wC (.str "two")))) (i8 (aC a (aA (aM aX (aB 4) (aB 6)) (aA (aM aX (aB 4) (aB 7)) (aA (aM aX (aM aX (aB 5) (aB 6)) (aB 6)) aD)))))) (bL (wC (.bl false))) bR)
def u5(s0 s1 s2 s3 s4 b c d a:OA):WS:=(aN (dD (tF (cU (aM oEq (aM aX (aM aX (aM aX (aB 5) (aB 6)) (aB 7)) (wC (.int 0))) (wC (.str "one")))) (cU (aM JK (aC a (aA (aM aX (aB 4) (aB 6)) (aA (aM aX (aM aX (aM aX (aB 5) (aB 6)) (aB 7)) (wC (.int 1))) aD))) (aM aX (aB 4) (aB 7))))) (bL (wC (.bl false))) bR) (pN s0 s1 s2 s3 s4 b c d a))
def u6(s0 s1 s2 s3 s4 b c a d:OA):WS:=(aN (dD (fU (i8 (aC a (aA (aM aX (aB 4) (aB 6)) (aA (aM aX (aB 4) (aB 7)) (aA (aM aX (aM aX (aB 5) (aB 6)) (aB 7)) aD)))))) (bL (wC (.bl false))) bR) (u5 s0 s1 s2 s3 s4 b c a d))
def u7(s0 s1 s2 s3 s4 a b c d:OA):WS:=(aN (dD (F8 (cU (aM JK (aM aX (aM aX (aM aX (aB 5) (aB 6)) (aB 7)) (wC (.int 0))) (aM aX (aM aX (aM aX (aB 5) (aB 7)) (aB 6)) (wC (.int 0))))) (cU (aM JK (aM aX (aM aX (aM aX (aB 5) (aB 6)) (aB 6)) (wC (.int 0))) (wC (.str "one"))))) (bL (wC (.bl false))) bR) (u6 s0 s1 s2 s3 s4 a b c d))
def C6(s0 s1 s2 s3 s4 a b c d:OA):WS:=(lG (kL (aA (wC (.int 3)) aD)) (gN 7) (u7 s0 s1 s2 s3 s4 a b c d))
def pO(s0 s1 s2 s3 s4 b c a d:OA):WS:=(dD (tF (cU (aM oEq (aM aX (aM aX (aM aX (aB 5) (wC (.int 0))) (wC (.int 1))) (wC (.int 0))) (wC (.str "one")))) (cU (aM oEq (aM aX (aM aX (aM aX (aB 5) (wC (.int 1))) (wC (.int 2))) (wC (.int 0))) (wC (.str "one"))))) (aN (bB (aC c5 (aA (rW ["_law_net"] [5] (dG (aM aX (aM aX (aM aX (aB 5) (wC (.int 0))) (wC (.int 1))) (wC (.int 1)))) (gN 0) iX (aM aX (aM aX (aM aX (aM aX (aB 1) (wC (.int 1))) (wC (.int 2))) (wC (.int 1))) (aB 0))) aD)) (gN 8)) (dD (F8 (cU (aM JK (aM aX (aM aX (aM aX (aB 5) (wC (.int 0))) (wC (.int 2))) (wC (.int 0))) (wC (.str "one")))) (fU (i8 (aC a (aA (aM aX (aB 4) (wC (.int 0))) (aA (aM aX (aB 4) (wC (.int 2))) (aA (cX (aA (wC (.str "one")) (aA (aB 8) aD))) aD))))))) (bL (wC (.bl false))) bR)) bR)
def pP(s0 s1 s2 s3 s4 a b c d:OA):WS:=(aN (lG (kL (aA (wC (.int 3)) aD)) (gN 6) (C6 s0 s1 s2 s3 s4 a b c d)) (pO s0 s1 s2 s3 s4 a b c d))
def pQ(s0 s1 s2 s3 s4 b a c d:OA):WS:=(aN (bB (rW ["_law_first"] [4] (dG (aB 4)) (gN 0) iX (rW ["_law_second"] [0] (dG (aB 1)) (gN 0) iX (aC a (aA (aB 1) (aA (aB 0) aD))))) (gN 5)) (pP s0 s1 s2 s3 s4 b a c d))
def u9(s0 s1 s2 s3 s4 a b c d:OA):WS:=(aN (eM (uA "list" bN (aB 4) (aA (aC a (aA (aB 2) (aA (aM aX (aB 4) (wC (.int 1))) aD))) aD))) (pQ s0 s1 s2 s3 s4 a b c d))
def pR(s0 s1 s2 s3 s4 a b c d:OA):WS:=(aN (bB (fR (aA (aB 3) (aA (aC a (aA (aB 2) (aA (aB 3) aD))) aD))) (gN 4)) (u9 s0 s1 s2 s3 s4 a b c d))
def vA(s0 s1 s2 s3 s4 a b c d:OA):WS:=(aN (dD (cU (aM oEq (aC s1 (aA (aB 2) (aA (wC (.int 3)) aD))) (wC (.int 0)))) (bB (aC s2 (aA (aC s3 (aA (aB 2) (aA (aM i9 (wC (.int 2)) (aC s1 (aA (aB 2) (aA (wC (.int 5)) aD)))) aD))) (aA (wC (.int 0)) aD))) (gN 3)) (bB (aC s4 (aA (aB 2) (aA (wC (.int 5)) (aA (wC (.int 9)) aD)))) (gN 3))) (pR s0 s1 s2 s3 s4 a b c d))
def C7(s0 s1 s2 s3 s4 a b c d:OA):WS:=(aN (bB (aC s0 (aA (aB 0) (aA (aB 1) aD))) (gN 2)) (vA s0 s1 s2 s3 s4 a b c d))
def IS(s0 s1 s2 s3 s4 a b c d:OA):WS:=(bL (wC (.bl true)))
def IT(s0 s1 s2 s3 s4 a b c d:OA):WS:=(aN (lG (kL (aA (aM i9 (aC xS (aA (wC (.int 2)) (aA (aC fT (aA (aB 0) aD)) aD))) (wC (.int 1))) aD)) (gN 1) (C7 s0 s1 s2 s3 s4 a b c d)) (IS s0 s1 s2 s3 s4 a b c d))
theorem aFr(B:Bl mg)(w6:Fn P w K mg base k "_law_bag" ["_law_script","_law_at"] s0)(bQ:Fn P w K mg base k "_law_take" ["_law_bag_here","_law_many"] s1)(rM:Fn P w K mg base k "_law_rings" ["_law_wheels","_law_more"] s2)(rN:Fn P w K mg base k "_law_parts" ["_law_bag_here","_law_total"] s3)(tY:Fn P w K mg base k "_law_some" ["_law_bag_here","_law_most","_law_wires"] s4){s5:OA}(tZ:Fn P w K mg base k "_law_next" ["_law_bag_here","_law_one"] s5){s6:OA}(RO:Fn P w K mg base k "held" ["one","other"] s6){s7:OA}(E3:Fn P w K mg base k "looked" ["one","other","thing"] s7){s8:OA}(fQ:Fn P w K mg base k "_law_renamed" ["_law_some_here","_law_order_here"] s8):l7 P w K mg base k "law" ["_law_script","_law_k","_law_bag_here","_law_one","_law_lists","_law_papers","_law_i","_law_j","_law_duo"] vN (IT s0 s1 s2 s3 s4 s5 s6 s7 s8):=by
 intro f cdv A outer s H E hr;have nd:=OB.nd;show hZ _ (_::_) _
 repeat' walk_at "g"
end
theorem aFt:J9 2 0=some 0:=by decide
theorem aFs:J9 2 1=some 1:=by decide
theorem mB(d e:D)(ds:List D):fY (d::e::ds) 1=some e:=by
 have:=bZ (xs:=d::e::ds) (j:=1) (v:=e) rfl;simpa using this
theorem xG{i j:Int}(a: -18446744073709551616<j)(b:j<18446744073709551616):NO i j:= .inr ⟨a,b⟩
theorem YT{i j:Int}(a: -18446744073709551616<i)(b:i<18446744073709551616):NO i j:= .inl ⟨a,b⟩
theorem aCq{i:Int}{j:Int}(h0:0<=j)(a:j<=1000000)(b: -18446744073709551616<i)(c:i<18446744073709551616):aDc i j:=⟨h0,a,by omega⟩
abbrev En(mh:MH)(R:DK):f6:={nx:=λ_ a=>Out mh.length .b8 a R,rt:=λd a=>Out mh.length d a R}
theorem aCa(ds:List D)(mh:MH)(R:DK)(ok:fZ mh)(hs:bP ds mh R):jD (En mh R) (aG ["_law_bag_here","_law_many","_law_digit","_law_number","_law_room"] ds) mh:=by
 obtain⟨b,a,rfl,z,A,⟨c,m,h,p,j,k⟩,q⟩:=hs;have f:b<mh.length:=(aK5.mp h).1
 have g:∀(r n l :Int),0<=r->r<a->0<=n ->0<=l ->l<2147483629->Out mh.length (.int r) (mh.set b (.lst [.int n,.int l])) R:=λr n l s t u v a5=>
  bU (q r _ s t ⟨⟨n,l,by simp[f],u,v,a5⟩,_,rfl⟩)
 simp[jD,oT,oS,oR,aG,cA h,OD h,aFt];by_cases h0:0<c
 ·rw[if_pos h0];exact⟨by omega,⟨by omega,by omega⟩,g _ _ _ (aM6 _ (by omega)) (aLo _ (by omega)) (Int.ediv_nonneg (by omega) (by omega)) j k⟩
 ·rw[if_neg h0];refine k5 2 ?_;by_cases d:1<a
  ·have w:0<=(m*48271+7919)^5 % 2147483629:=aM6 _ (by omega);have x:(m*48271+7919)^5 % 2147483629<2147483629:=aLo _ (by omega);simp[eI,mS,kG,kB,jW,d,cA h,OD h,aFs,mB];refine⟨xG (by omega) (by omega),aCq (by omega) (by omega) (by omega) (by omega),?_⟩;have o:(mh.set b (.lst [.int c,.int ((m*48271+7919)^5 % 2147483629)]))[b]? =some (.lst [.int c,.int ((m*48271+7919)^5 % 2147483629)]):=by simp[f]
   simp only[cA o,mB,aH,OF,AZ];refine⟨xG (by omega) (by omega),⟨by omega,by omega⟩,xG (by omega) (by omega),by omega,xG (by omega) (by omega),?_⟩;simp;rw[if_neg (by omega)];exact⟨by omega,g _ _ _ (aM6 _ (by omega)) (aLo _ (by omega)) p w x⟩
  ·simp[eI,d,jW];have e:a=1:=by omega
   subst e;refine⟨by omega,?_⟩
   have y:mh.set b (.lst [.int c,.int m])=mh:=by
    apply List.ext_getElem?;intro i;by_cases hi:i=b
    ·subst hi;rw[List.getElem?_set_self f,h]
    ·rw[List.getElem?_set_ne (Ne.symm hi)]
   have:=g 0 c m (by omega) (by omega) p j k;rw[y]at this;exact this
variable{ns:List Int}
theorem FT{i:Int}(h0:0<=i)(a:i<ns.length):∃v,fY (ns.map D.int) i=some (.int v):=by
 refine⟨ns[i.toNat]'(by omega),?_⟩;have e:i=((i.toNat:Nat):Int):=by omega
 have:=bZ (xs:=ns.map D.int) (j:=i.toNat) (v:= .int (ns[i.toNat]'(by omega))) (by rw[List.getElem?_map,List.getElem?_eq_getElem (by omega)];rfl);rw[<-e]at this;exact this
variable{mh:MH}{R:DK}
theorem aCe{a c m:Int}{k:Option D}(q:∀mh',(∃o,mh' =mh++[o])->C1 mh' mh.length->R (.ref mh.length) mh')(d:0<=c)(e:0<=m)(f:m<2147483629):
  lD (En mh R) [some (.fl (ns.map .int)),some (.int a),some (.int c),some (.int m),k] mh:=by
 have b:∀c,0<=c->Out mh.length (.ref mh.length) (mh++[.lst [.int c,.int m]]) R:=λc g=>bU (q _ ⟨_,rfl⟩ ⟨c,m,by simp,g,e,f⟩);simp[lD,qI];refine⟨aCq (by omega) (by omega) (by omega) (by omega),?_⟩;split
 ·exact⟨by rw[sizeLine_eq];omega,b 0 (by omega)⟩
 ·exact⟨by rw[sizeLine_eq];omega,b c d⟩
theorem RC{a c:Int}(s:ns.length<=63)(b:0<=a)(f:a<=100)(q:∀mh',(∃o,mh' =mh++[o])->C1 mh' mh.length->R (.ref mh.length) mh')(j:0<=c):
  lE (En mh R) [some (.fl (ns.map .int)),some (.int a),some (.int c),none,none] mh:=by
 have l:7919*a*a<=79190000:=by
  have:a*a<=100*100:=Int.mul_le_mul f f b (by omega);have e:7919*a*a=7919*(a*a):=Int.mul_assoc _ _ _;omega
 have n:0<=7919*a*a:=Int.mul_nonneg (by omega) b;simp[lE,qJ];refine⟨YT (by omega) (by omega),xG (by omega) (by omega),YT (by omega) (by omega),?_,?_,?_⟩
 ·split <;> omega
 ·split <;> (rw[sizeLine_eq];omega)
 ·refine cH (λi g mh' =>mh' =mh/\∃m k,g=[some (.fl (ns.map .int)),some (.int a),some (.int c),some (.int m),k]/\0<=m/\m<2147483629) _ (λ_ _ _ _=>trivial) ?_ ?_ ⟨rfl,_,_,rfl,by omega,by omega⟩
  ·rintro i d g mh' N hi ⟨rfl,m,k,rfl,m0,m1⟩ nx;obtain⟨hi,rfl⟩:=jO hi
   have p:i<ns.length:=by
    revert hi;split <;> intro hi <;> omega
   have h:i<60:=by
    revert hi;split <;> intro hi <;> omega
   obtain⟨v,r⟩:=FT (ns:=ns) (i:=0+(i:Int)) (by omega) (by omega);have t:0<=v % 2147483647:=aM6 _ (by omega);have u:v % 2147483647<2147483647:=aLo _ (by omega);have w:0<=(0+(i:Int))*(0+(i:Int)):=Int.mul_nonneg (by omega) (by omega);have k1:(0+(i:Int))*(0+(i:Int))<=60*60:=Int.mul_le_mul (by omega) (by omega) (by omega) (by omega);simp only[aIl,o4,aEh,aI8,s_c,aEa,List.set_cons_succ,List.set_cons_zero,List.getElem?_cons_succ,List.getElem?_cons_zero,Option.join_some,aH,OF,AZ,aEf,r];refine⟨xG (by omega) (by omega),by omega,xG (by omega) (by omega),aCq (by omega) (by omega) (by omega) (by omega),by omega,nx _ _ ⟨rfl,_,_,rfl,aM6 _ (by omega),aLo _ (by omega)⟩⟩
  ·rintro g mh' ⟨rfl,m,k,rfl,m0,m1⟩;exact aCe q j m0 m1
theorem aG5(ds:List D)(mh:MH)(R:DK)(ok:fZ mh)(hs:vW ds mh R):lF (En mh R) (aG ["_law_script","_law_at","_law_cell","_law_mix","_law_k"] ds) mh:=by
 obtain⟨ns,a,rfl,d,b,c,q⟩:=hs;simp[lF,qK,aG];split
 ·rename_i hlt;obtain⟨v,e⟩:=FT (ns:=ns) (i:=a) b hlt;simp[e];exact RC d b c q (by split <;> omega)
 ·exact RC d b c q (by omega)
open Classical in
noncomputable def zP(us:List D)(d:D):Nat:=us.findIdx λx=>decide (x=d)
open Classical in
noncomputable def aV(us:List D)(d:D):List D:=if d∈us then us else us++[d]
noncomputable def aI:List D->List D->List Nat
 | _,[]=>[]
 | us,d::l=>zP (aV us d) d::aI (aV us d) l
variable{us:List D}{d:D}
theorem nB(h:d∈us):aV us d=us:=by unfold aV;rw[if_pos h]
theorem kM(h:d∉us):aV us d=us++[d]:=by unfold aV;rw[if_neg h]
theorem zI{d e:D}:e∈aV us d↔e∈us\/e=d:=by
 by_cases h:d∈us
 ·rw[nB h];exact⟨.inl,λz=>z.elim id λz=>z▸h⟩
 ·rw[kM h];simp
theorem WJ{us t:List D}(h:d∈us):zP (us++t) d=zP us d:=by
 unfold zP;rw[List.findIdx_append];rw[if_pos (List.findIdx_lt_length.mpr ⟨d,h,by simp⟩)]
theorem LJ(us:List D)(d:D):∃t,aV us d=us++t:=by
 by_cases h:d∈us
 ·exact⟨[],by rw[nB h];simp⟩
 ·exact⟨[d],kM h⟩
theorem EZ:∀(l us:List D),∃t,l.foldl aV us=us++t
 | [],us=>⟨[],by simp⟩
 | d::l,us=>by
  obtain⟨t,ht⟩:=LJ us d;obtain⟨t',a⟩:=EZ l (aV us d);exact⟨t++t',by rw[List.foldl_cons,a,ht];simp⟩
theorem D9:∀(l us:List D),l.map (zP (l.foldl aV us))=aI us l
 | [],us=>rfl
 | d::l,us=>by
  rw[List.foldl_cons,List.map_cons,D9 l (aV us d)];obtain⟨t,ht⟩:=EZ l (aV us d);simp only[aI];rw[ht,WJ (zI.mpr (.inr rfl))]
theorem bO:∀(l us:List D),(aI us l).length=l.length
 | [],us=>rfl
 | d::l,us=>by simp[aI,bO l]
theorem fD:∀(l m us:List D),aI us (l++m)=aI us l++aI (l.foldl aV us) m
 | [],m,us=>rfl
 | d::l,m,us=>by simp[aI,fD l m]
theorem sE:∀(L U:List (D×D)),(∀p∈U++L,∀q∈U++L,p.1=q.1↔p.2=q.2)->aI (U.map (·.1)) (L.map (·.1))=aI (U.map (·.2)) (L.map (·.2))
 | [],U,_=>rfl
 | p::L,U,h=>by
  have f:p∈U++p::L:=by simp
  have hm:p.1∈U.map (·.1)↔p.2∈U.map (·.2):=by
   simp only[List.mem_map];constructor
   ·rintro⟨q,a,e⟩;exact⟨q,a,(h q (aLk _ a) p f).mp e⟩
   ·rintro⟨q,a,e⟩;exact⟨q,a,(h q (aLk _ a) p f).mpr e⟩
  have c:∀V:List (D×D),(∀q∈V,q∈U++p::L)->zP (V.map (·.1)) p.1=zP (V.map (·.2)) p.2:=λV g=>by
   induction V with
   | nil=>rfl
   | cons q V ih=>
    have a:=h q (g q aK7) p f;have:=ih λr d=>g r (aK8 _ d);unfold zP at*;simp only[List.map_cons,List.findIdx_cons];by_cases e:q.1=p.1
    ·simp[e,a.mp e]
    ·have i :¬q.2=p.2:=λz=>e (a.mpr z);simp only[e,i,decide_false,cond_false,this]
  simp only[List.map_cons,aI];by_cases b:p.1∈U.map (·.1)
  ·rw[nB b,nB (hm.mp b),c U λq a=>List.mem_append_left _ a];rw[sE L U λq a r d=>h q (by rcases List.mem_append.mp a with z | z <;> simp[z]) r (by rcases List.mem_append.mp d with z | z <;> simp[z])]
  ·rw[kM b,kM λz=>b (hm.mpr z)];have j:U.map (·.1)++[p.1]=(U++[p]).map (·.1):=by simp
   have k:U.map (·.2)++[p.2]=(U++[p]).map (·.2):=by simp
   rw[j,k,c (U++[p]) (λq a=>by rcases List.mem_append.mp a with z | z <;> simp_all),sE L (U++[p]) λq a r d=>h q (by simpa using a) r (by simpa using d)]
mutual
def cY:D->Bool
 | .int _=>true
 | .str _=>true
 | .tup ds=>fP ds
 | .fl ds=>fP ds
 | _=>false
def fP:List D->Bool
 | []=>true
 | d::ds=>cY d && fP ds
end
mutual
theorem rJ:∀(d e:D),cY d=true->cY e=true->(eB d e=true↔d=e)
 | .int i,e,_,h2=>by cases e <;> simp[cY]at h2 <;> simp[eB]
 | .str x,e,_,h2=>by cases e <;> simp[cY]at h2 <;> simp[eB]
 | .tup ds,e,h1,h2=>by
  cases e with
  | tup es=>simp only[eB,D.tup.injEq];exact nX ds es (by simpa only[cY] using h1) (by simpa only[cY] using h2)
  | int i=>simp[eB]
  | str x=>simp[eB]
  | fl x=>simp[eB]
  | _=>simp[cY]at h2
 | .fl ds,e,h1,h2=>by
  cases e with
  | fl es=>simp only[eB,D.fl.injEq];exact nX ds es (by simpa only[cY] using h1) (by simpa only[cY] using h2)
  | int i=>simp[eB]
  | str x=>simp[eB]
  | tup x=>simp[eB]
  | _=>simp[cY]at h2
 | .b8,e,h1,_=>by simp[cY]at h1
 | .bl _,e,h1,_=>by simp[cY]at h1
 | .ty _,e,h1,_=>by simp[cY]at h1
 | .ref _,e,h1,_=>by simp[cY]at h1
theorem nX:∀(ds es:List D),fP ds=true->fP es=true->(cZ ds es=true↔ds=es)
 | [],es,_,_=>by cases es <;> simp[cZ]
 | d::ds,[],_,_=>by simp[cZ]
 | d::ds,e::es,h1,h2=>by
  simp only[fP,Bool.and_eq_true]at h1 h2;simp only[cZ,Bool.and_eq_true,List.cons.injEq];rw[rJ d e h1.1 h2.1,nX ds es h1.2 h2.2]
end
mutual
theorem d8:∀{d:D},cY d=true->bare d=true
 | .int _,_=>rfl
 | .str _,_=>rfl
 | .tup ds,h=>by show cL ds=true;exact dX (by simpa only[cY] using h)
 | .fl ds,h=>by show cL ds=true;exact dX (by simpa only[cY] using h)
 | .b8,h=>by simp[cY]at h
 | .bl _,h=>by simp[cY]at h
 | .ty _,h=>by simp[cY]at h
 | .ref _,h=>by simp[cY]at h
theorem dX:∀{ds:List D},fP ds=true->cL ds=true
 | [],_=>rfl
 | d::ds,h=>by
  simp only[fP,Bool.and_eq_true]at h;simp only[cL,d8 h.1,dX h.2,Bool.and_self]
end
def J0(k:Nat):List D->List (D×D)
 | []=>[]
 | d::us=>(d,.int (k:Nat))::J0 (k+1) us
theorem kR:∀(k:Nat) (us:List D),(J0 k us).map (·.1)=us
 | _,[]=>rfl
 | k,d::us=>by simp[J0,kR (k+1) us]
theorem JZ:∀(k:Nat) (us:List D) (d:D),J0 k (us++[d])=J0 k us++[(d,.int ((k+us.length:Nat):Int))]
 | k,[],d=>by simp[J0]
 | k,e::us,d=>by
  simp only[List.cons_append,J0,JZ (k+1) us d,List.length_cons];rw[show k+1+us.length=k+(us.length+1) by lia]
theorem BP(k:Nat)(us:List D):(J0 k us).length=us.length:=by
 have:=aL4 List.length (kR k us);simpa using this
theorem WD(h:d∉us):zP (us++[d]) d=us.length:=by
 have e:us.findIdx (λx=>@decide (x=d) (Classical.propDecidable _))=us.length:=List.findIdx_eq_length.mpr λx hx=>by
  have:¬x=d:=λz=>h (z▸hx);simp[this]
 unfold zP;rw[List.findIdx_append,e,if_neg (Nat.lt_irrefl _)];simp[List.findIdx_cons]
theorem JY:∀{k:Nat} {us:List D} {p:D×D},us.Nodup->p∈J0 k us->p.2= .int ((k+zP us p.1:Nat):Int)
 | _,[],p,_,h=>by simp[J0]at h
 | k,d::us,p,nd,h=>by
  have a :=aMl.mp nd;unfold zP;rw[List.findIdx_cons];rcases aKd.mp h with rfl | h
  ·simp
  ·have c:p.1∈us:=by rw[<-kR (k+1) us];exact aKz h
   have b:¬d=p.1:=λz=>a.1 (z▸c);have:=JY a.2 h;unfold zP at this;simp only[b,decide_false,cond_false];rw[this];congr 1
   lia
def Ky(d:D):Prop:=∃es,d= .tup es/\gd d=true/\deep d<=8
structure DS(mh M:MH)(us:List D):Prop where
 px:bD mh M
 at_:M[mh.length]? =some (MY (J0 0 us))
 nd:us.Nodup
 ky:∀d∈us,Ky d
def aE(l:List Nat):List D:=l.map λn=>.int (n:Nat)
def pD:OA:=λds mh Q=>∃(r a b:Nat) (k1 k2:List D),ds=[.ref r]/\mh[r]? =some (.lst [.ref a,.ref b])/\mh[a]? =some (.lst k1)/\mh[b]? =some (.lst k2)/\(∀k∈k1,Ky k)/\(∀k∈k2,Ky k)/\k1.length<=100/\k2.length<=100/\
 Q (.tup [.tup (aE (aI [] k1)),.tup (aE (aI (k1.foldl aV []) k2))]) mh
theorem aCk:∀(l us:List D),(l.foldl aV us).length<=us.length+l.length
 | [],us=>by simp
 | d::l,us=>by
  have:=aCk l (aV us d);have:(aV us d).length<=us.length+1:=by unfold aV;split <;> simp
  simp only[List.foldl_cons,List.length_cons]
  lia
theorem cG(n:Nat):∀l:List Nat,aS n (aE l)=true
 | []=>rfl
 | a::l=>by
  have:=cG n l;simp only[aE,List.map_cons]at*;simp[aS,bX,this]
theorem GU(us l:List D)(d:D):aI us (l++[d])=aI us l++[zP (aV (l.foldl aV us) d) d]:=by rw[fD];rfl
variable{M:MH}
theorem OL{us ks:List D}{B:Nat}{N:DK}(d:DS mh M us)(C:mh[B]? =some (.lst ks))(G:∀k∈ks,Ky k)(K:us.length+ks.length<=1000)(q:∀j,DS mh j (ks.foldl aV us)->N (.tup (aE (aI us ks))) j):
  aC c5 (aA (rW ["key"] [1] (dG (aB 0)) (gN 0) iX (vF (aB 1) (aB 0) (aC K7 (aA (aB 1) aD)))) aD) [some (.ref B),some (.ref mh.length)] M N:=by
 have sz:=aKc;simp;rw[bE (d.px.old C)];simp only[aH];refine kS (λi r j =>DS mh j ((ks.take i).foldl aV us)/\r=aE (aI us (ks.take i))) ks (λi r j h=>bE (h.1.px.old C)) ?_ ?_ ⟨by simpa using d,by simp[aI,aE]⟩
 ·rintro i k r j N hi ⟨c,rfl⟩ nx;have s:=aK9 hi;obtain⟨es,rfl,hg,n⟩:=G k s;have t:=aCk (ks.take i) us;have H:(ks.take i).length<=ks.length:=by rw[List.length_take];exact Nat.min_le_right _ _
  have E:ks.take (i+1)=ks.take i++[.tup es]:=by rw[List.take_add_one,hi];rfl
  have o:(ks.take (i+1)).foldl aV us=aV ((ks.take i).foldl aV us) (.tup es):=by rw[E,List.foldl_append];rfl
  have l:aI us (ks.take (i+1))=aI us (ks.take i)++[zP (aV ((ks.take i).foldl aV us) (.tup es)) (.tup es)]:=by rw[E,GU]
  generalize (ks.take i).foldl aV us=vs at c t o l⊢;simp[iP];refine⟨⟨_,c.at_⟩,mh.length,J0 0 vs,rfl,c.at_,J0 0 vs,c.at_,hg,n,by rw[BP];lia,λa b m=>?_,λa b m e=>?_,λu=>?_⟩
  ·have:a∈vs:=by rw[<-kR 0 vs];exact aKz (f:=Prod.fst) m
   obtain⟨v,I,g',_⟩:=c.ky a this;exact⟨⟨v,I⟩,g'⟩
  ·subst e;have w:D.tup es∈vs:=by rw[<-kR 0 vs];exact aKz (f:=Prod.fst) m
   have J:=JY c.nd m;rw[nB w]at o l;refine nx _ _ ⟨by rw[o];exact c,?_⟩;rw[l];simp only[aE,List.map_append,List.map_cons,List.map_nil];have A :b= .int ((0+zP vs (.tup es):Nat):Int):=J;rw[A,Nat.zero_add]
  ·have g :D.tup es∉vs:=λz=>by
    rw[<-kR 0 vs]at z;obtain⟨p,m,e⟩:=aKe.mp z;exact u p.2 (by rw[<-e];exact m)
   rw[kM g]at o l;rw[WD g]at l;refine nx _ _ ⟨?_,?_⟩
   ·rw[o];refine⟨c.px.set (aK6 _) _,?_,?_,λe he=>?_⟩
    ·rw[JZ,BP,Nat.zero_add];exact bK _ c.at_
    ·rw[List.nodup_append];exact⟨c.nd,by simp,λx hx y F=>by simp at F;subst F;exact λz=>g (z▸hx)⟩
    ·rcases aKi.mp he with he | he
     ·exact c.ky e he
     ·simp at he;subst he;exact⟨es,rfl,hg,n⟩
   ·rw[l,BP];simp[aE]
 ·rintro r j ⟨c,rfl⟩;rw[List.take_length]at c⊢;rw[bE (aJ _ _)];simp only[aH];refine q _ ⟨c.px.push _,aK c.at_,c.nd,c.ky⟩
theorem HG(ds:List D)(mh:MH)(R:DK)(ok:fZ mh)(hs:pD ds mh R):k7 (En mh R) (aG ["keys","numbers"] ds) mh:=by
 obtain⟨r,i,j,k1,k2,rfl,a,b,c,f,g,k,l,q⟩:=hs;have sz:=aKc
 have h:DS mh (mh++[MY []]) []:=⟨bD.refl.push _,by simp[J0],List.nodup_nil,by simp⟩
 simp[k7,qD,aG];rw[bE (aK a)];simp only[aH];simp only[i6];refine⟨bE (aK a),?_⟩;simp only[iP,gN]
 refine OL h b f (by simp;lia) λm d=>⟨bE (d.px.old a),?_⟩
 refine OL d c g (by have:=aCk k1 [];simp at this;lia) λM2 e=>⟨bE (e.px.old a),?_⟩
 rw[bE (aJ _ _)];exact(e.px.push _).out ok (by simp[bX,aS,cG]) q
structure Sw where
 s:Str
 g:Nat
 a:Nat
 b:Nat
 w:Int
 l:Int
def dI(x:Sw):D:= .tup [.str x.s,.int x.g,.int x.a,.int x.b,.int x.w,.int x.l]
def dU(p:Str×Nat):D:= .tup [.str p.1,.int (p.2:Nat)]
structure Ls where
 m:Nat
 ns:List (Str×Nat)
 sw:List Sw
def dE(x:Ls):D:= .tup [.int x.m,.tup (x.ns.map dU),.tup (x.sw.map dI)]
structure fB(x:Ls):Prop where
 m1:1<=x.m
 m8:x.m<=9
 ns:∀p∈x.ns,p.2<x.m
 sw:∀s∈x.sw,s.g<x.m/\s.a<x.m/\s.b<x.m
 ab:∀s∈x.sw,s.a<=s.b
 ln:x.ns.length<=12
 lw:x.sw.length<=13
 up:(x.ns.map dU).Pairwise (λd e=>lx (enc e) (enc d)=false)
 us:(x.sw.map dI).Pairwise (λd e=>lx (enc e) (enc d)=false)
structure LL(mh M:MH)(m:Nat)(f:Nat->List D):Prop where
 px:bD mh M
 at_:∀j,j<m->M[mh.length+j]? =some (.lst (f j))
 top:M[mh.length+m]? =some (.lst ((List.range m).map λj=>.ref (mh.length+j)))
variable{m n:Nat}{f:Nat->List D}
theorem LL.app(h:LL mh M m f)(b:n<m)(d:D):LL mh (M.set (mh.length+n) (.lst (f n++[d]))) m (λj=>if j=n then f j++[d] else f j):=by
 refine⟨h.px.set (by lia) _,λj a=>?_,get_set h.top (by lia)⟩;by_cases e:j=n
 ·subst e;simp only[if_true];exact bK _ (h.at_ j a)
 ·simp only[e,if_false];exact get_set (h.at_ j a) (by lia)
theorem LL.congr{f g:Nat->List D}(h:LL mh M m f)(e:∀j,j<m->f j=g j):LL mh M m g:=⟨h.px,λj a=>by rw[<-e j a];exact h.at_ j a,h.top⟩
variable{Q:DK}
theorem EH{g:WG}{ρe:hX}{St:MH->Prop}(hm:m<=1000)(a:∀M,St M)(hg:∀(i:Nat) (M:MH) (N:DK),N (.ref M.length) (M++[.lst []])->g (.int (i:Nat)) ρe λb=>fR aD b M N)
  (q:∀M,LL mh M m (λ_=>[])->M.length=mh.length+m+1->Q (.ref (mh.length+m)) M):i6 g iX (fR aD) ρe St Q (fA 0 m) [] mh:=by
 refine kS (λi c M=>M=mh++List.replicate i (.lst [])/\c=(List.range i).map λj=>.ref (mh.length+j)) _ (λ_ _ M _=>a M) ?_ ?_ ⟨by simp,rfl⟩
 ·rintro i d c M N hi ⟨rfl,rfl⟩ nx;obtain⟨h,rfl⟩:=jO hi;have e:(0:Int)+(i:Nat)=(i:Nat):=by lia
  rw[e];simp only[OC,if_true];refine hg i _ _ (nx _ _ ⟨?_,?_⟩)
  ·rw[List.append_assoc,List.replicate_succ']
  ·rw[List.range_succ];simp
 ·rintro c M ⟨rfl,rfl⟩;have k:(fA 0 m).length=m:=by simp
  rw[k];have f:(mh++List.replicate m (MO.lst [])).length=mh.length+m:=by simp
  rw[f];refine q _ ⟨⟨_,by rw[List.append_assoc]⟩,λj l=>?_,?_⟩ (by simp;lia)
  ·rw[List.append_assoc,List.getElem?_append_right (by lia),List.getElem?_append_left (by simp;lia)];simp[List.getElem?_replicate];lia
  ·rw[<-f];simp
theorem LL.ix(h:LL mh M m f)(a:n<m)(q:Q (.ref (mh.length+n)) M):aX (.ref (mh.length+m)) (.int (n:Nat)) M Q:=by
 rw[cA h.top];have:fY ((List.range m).map λj=>D.ref (mh.length+j)) (n:Nat)=some (.ref (mh.length+n)):=bZ (by simp[a]);rw[this];exact q
def bI(l:List (Str×Nat))(n:Nat):List D:=((l.filter λp=>decide (p.2=n)).map (·.1)).map .str
theorem zE(n:Nat):∀l:List Str,aS n (l.map .str)=true
 | []=>rfl
 | a::l=>by simp[aS,bX,zE n l]
theorem D0(n:Nat)(l:List (Str×Nat)):∀a:List Nat,aS n (a.map λj=>.tup (bI l j))=true
 | []=>rfl
 | j::a=>by
  have b:aS n (bI l j)=true:=zE n _;simp[aS,bX,b,D0 n l a]
def A0:OA:=λds mh Q=>∃x:Ls,ds=[dE x]/\fB x/\Q (.ref mh.length) (mh++[.lst ((List.range x.m).map λn=>.tup (bI x.ns n))])
theorem WY(ds:List D)(mh:MH)(R:DK)(ok:fZ mh)(hs:A0 ds mh R):fG (En mh R) (aG ["some","names","name","net"] ds) mh:=by
 obtain⟨x,rfl,c,q⟩:=hs;have sz:=aKc;have m8:=c.m8;simp[fG,aG,dE];refine⟨by lia,?_⟩;refine EH (by lia) (λ_=>trivial) (λi M N hN=>by simpa[iP] using hN) λM o u=>?_;simp[j8,mB,bC];refine cH (λi f g =>(∃h k,f=[some (D.tup [D.int x.m,D.tup (List.map dU x.ns),D.tup (List.map dI x.sw)]),some (.ref (mh.length+x.m)),h,k])/\LL mh g x.m (bI (x.ns.take i))) _ (λ_ _ _ _=>trivial) ?_ ?_ ⟨⟨_,_,rfl⟩,o.congr λj _=>by simp[bI]⟩
 ·rintro i d f g N hi ⟨⟨h,k,rfl⟩,a⟩ nx;obtain⟨p,l,rfl⟩:=lK hi;have b:=c.ns p (aK9 l);have r:i<x.ns.length:=(aK5.mp l).1;have ln:=c.ln;simp[dU,jB];refine a.ix b ⟨⟨rfl,_,a.at_ _ b⟩,?_⟩;rw[dS (a.at_ _ b)];refine⟨?_,nx _ _ ⟨⟨_,_,rfl⟩,(a.app b _).congr λj n=>?_⟩⟩
  ·have:(bI (x.ns.take i) p.2).length<=(x.ns.take i).length:=by simp only[bI,List.length_map];exact List.length_filter_le _ _
   rw[List.length_take]at this
   lia
  ·have s:x.ns.take (i+1)=x.ns.take i++[p]:=by rw[List.take_add_one,l];rfl
   rw[s];by_cases e:j=p.2
   ·subst e;simp[bI]
   ·have t :¬p.2=j:=λz=>e z.symm;simp[bI,e,t]
 ·rintro f g ⟨⟨h,k,rfl⟩,a⟩;rw[show (List.map dU x.ns).length=x.ns.length by simp,List.take_length]at a;simp[j7];rw[bE a.top];simp only[aH];refine fF (λj=>D.ref (mh.length+j)) (λj=>j) (λj=>.tup (bI x.ns j)) (List.range x.m) (bE a.top) (λj n N hN=>?_) ?_
  ·simp[iP];rw[bE (a.at_ j (by simpa using n))];exact hN
  ·refine(a.px.push _).uB ok a.px.le (by simp;rfl) ?_ (by simpa using q);show aS mh.length _=true;exact D0 _ _ _
structure Hk where
 s:Str
 w:Int
 l:Int
 t:Nat
 a:Nat
 b:Nat
def HJ(s:Str)(w l:Int)(t:Nat):D:= .tup [.str s,.int w,.int l,.int (t:Nat)]
def YQ(h:Hk):D:= .tup [HJ h.s h.w h.l h.t,.int (h.a:Nat),.int (h.b:Nat)]
def NP(x:Sw)(n:Nat):List Hk:=(if x.g=n then [⟨x.s,x.w,x.l,0,x.a,x.b⟩] else [])++((if x.a=n then [⟨x.s,x.w,x.l,1,x.g,x.b⟩] else [])++(if x.b=n then [⟨x.s,x.w,x.l,1,x.g,x.a⟩] else []))
def yF(l:List Sw)(n:Nat):List Hk:=l.flatMap λx=>NP x n
def uE(l:List Sw)(n:Nat):List D:=(yF l n).map YQ
def A1:OA:=λds mh Q=>∃x:Ls,ds=[dE x]/\fB x/\∀M,LL mh M x.m (uE x.sw)->Q (.ref (mh.length+x.m)) M
theorem WM(x:Sw)(n:Nat):(NP x n).length<=3:=by
 unfold NP;split <;> split <;> split <;> simp
theorem BV(n:Nat):∀l:List Sw,(yF l n).length<=3*l.length
 | []=>by simp[yF]
 | x::l=>by
  have:=BV n l;have:=WM x n;simp only[yF,List.flatMap_cons,List.length_append,List.length_cons]at*
  lia
theorem W4(ds:List D)(mh:MH)(R:DK)(ok:fZ mh)(hs:A1 ds mh R):fH (En mh R) (aG ["some","hooks","sort","gate","one","other","width","length"] ds) mh:=by
 obtain⟨x,rfl,v,q⟩:=hs;have sz:=aKc;have m8:=v.m8;simp[fH,aG,dE];refine⟨by lia,?_⟩;refine EH (by lia) (λ_=>trivial) (λi M N hN=>by simpa[iP] using hN) λM F S=>?_;have G:fY [D.int x.m,D.tup (List.map dU x.ns),D.tup (List.map dI x.sw)] 2=some (D.tup (List.map dI x.sw)):=rfl;simp[kA,G,bC];refine cH (λi y h =>(∃z A B a5 a6 C,y=[some (D.tup [D.int x.m,D.tup (List.map dU x.ns),D.tup (List.map dI x.sw)]),some (.ref (mh.length+x.m)),z,A,B,a5,a6,C])/\LL mh h x.m (uE (x.sw.take i))) _ (λ_ _ _ _=>trivial) ?_ ?_ ⟨⟨_,_,_,_,_,_,rfl⟩,F.congr λj _=>by simp[uE,yF]⟩
 ·rintro i d y h N hi ⟨⟨z,A,B,a5,a6,C,rfl⟩,e⟩ nx;obtain⟨p,E,rfl⟩:=lK hi;obtain⟨k,o,r⟩:=v.sw p (aK9 E);have H:i<x.sw.length:=(aK5.mp E).1;have lw:=v.lw
  have f:∀n,(uE (x.sw.take i) n).length<=39:=λn=>by
   have:=BV n (x.sw.take i);simp only[uE,List.length_map];rw[List.length_take]at this
   lia
  simp[dI,jC];refine e.ix k ⟨⟨rfl,_,e.at_ _ k⟩,by lia,by lia,?_⟩;rw[dS (e.at_ _ k)];refine⟨by have:=f p.g;lia,?_⟩;have t:=e.app k (.tup [HJ p.s p.w p.l 0,.int p.a,.int p.b]);simp[iB];refine t.ix o ⟨⟨rfl,_,t.at_ _ o⟩,by lia,by lia,?_⟩;rw[dS (t.at_ _ o)];refine⟨by have:=f p.a;split <;> simp <;> lia,?_⟩;have u:=t.app o (.tup [HJ p.s p.w p.l 1,.int p.g,.int p.b]);simp[iA];refine u.ix r ⟨⟨rfl,_,u.at_ _ r⟩,by lia,by lia,?_⟩;rw[dS (u.at_ _ r)];refine⟨by have:=f p.b;split <;> split <;> simp <;> lia,nx _ _ ⟨⟨_,_,_,_,_,_,rfl⟩,(u.app r (.tup [HJ p.s p.w p.l 1,.int p.g,.int p.a])).congr λj T=>?_⟩⟩;have I:x.sw.take (i+1)=x.sw.take i++[p]:=by rw[List.take_add_one,E];rfl
  have J:uE (x.sw.take i++[p]) j=uE (x.sw.take i) j++(NP p j).map YQ:=by simp[uE,yF]
  rw[I,J];generalize uE (x.sw.take i) j=U;simp only[NP,List.map_append,show (p.g=j)=(j=p.g) from propext eq_comm,show (p.a=j)=(j=p.a) from propext eq_comm,show (p.b=j)=(j=p.b) from propext eq_comm]
  have K:List.map YQ (if j=p.g then [⟨p.s,p.w,p.l,0,p.a,p.b⟩] else [])=if j=p.g then [.tup [HJ p.s p.w p.l 0,.int p.a,.int p.b]] else []:=by split <;> rfl
  have O:List.map YQ (if j=p.a then [⟨p.s,p.w,p.l,1,p.g,p.b⟩] else [])=if j=p.a then [.tup [HJ p.s p.w p.l 1,.int p.g,.int p.b]] else []:=by split <;> rfl
  have P:List.map YQ (if j=p.b then [⟨p.s,p.w,p.l,1,p.g,p.a⟩] else [])=if j=p.b then [.tup [HJ p.s p.w p.l 1,.int p.g,.int p.a]] else []:=by split <;> rfl
  rw[K,O,P]
  have Q:∀(c:Prop) [Decidable c] (L:List D) (d:D),(if c then L++[d] else L)=L++if c then [d] else []:=λc _ L d=>by split <;> simp
  simp only[Q];simp only[List.append_assoc]
 ·rintro y h ⟨⟨z,A,B,a5,a6,C,rfl⟩,e⟩;rw[show (List.map dI x.sw).length=x.sw.length by simp,List.take_length]at e;simp[j9];exact bU (q h e)
def mk(own:List Nat)(i:Nat):Nat:=own.getD i 0
def SS(h:Hk)(own:List Nat):Nat:=if h.t=0 then min (mk own h.a) (mk own h.b) else mk own h.a
def SR(h:Hk)(own:List Nat):Nat:=if h.t=0 then max (mk own h.a) (mk own h.b) else mk own h.b
def o5(own:List Nat)(h:Hk):D:= .tup [HJ h.s h.w h.l h.t,.int (SS h own:Nat),.int (SR h own:Nat)]
variable{own:List Nat}{i:Nat}
theorem e9(h:i<own.length):fY (aE own) (i:Nat)=some (.int (mk own i:Nat)):=bZ (by simp[aE,mk,List.getD,h])
def DV:OA:=λds mh Q=>∃(h:Hk) (own:List Nat),ds=[YQ h,.tup (aE own)]/\h.a<own.length/\h.b<own.length/\Q (o5 own h) mh
theorem MM(ds:List D)(mh:MH)(R:DK)(ok:fZ mh)(hs:DV ds mh R):oB (En mh R) (aG ["hook","own","fixed","one","other","left","right"] ds) mh:=by
 obtain⟨h,own,rfl,ha,f,q⟩:=hs;have sz:=aKc;have g:fY [D.str h.s,D.int h.w,D.int h.l,D.int (h.t:Nat)] 3=some (D.int (h.t:Nat)):=rfl;simp[oB,tE,aG,YQ,e9 ha,e9 f];refine⟨by lia,?_⟩;simp[tB,HJ,g];by_cases e:h.t=0
 ·rw[if_pos e];refine⟨by lia,?_⟩;simp[mH];refine⟨by lia,?_⟩
  have c:(if mk own h.b<mk own h.a then ((mk own h.b:Nat):Int) else ((mk own h.a:Nat):Int))=((SS h own:Nat):Int):=by
   unfold SS;rw[if_pos e];split <;> lia
  have d:(if mk own h.a<mk own h.b then ((mk own h.b:Nat):Int) else ((mk own h.a:Nat):Int))=((SR h own:Nat):Int):=by
   unfold SR;rw[if_pos e];split <;> lia
  rw[c,d];exact bU q
 ·rw[if_neg e];simp[mH];refine⟨by lia,?_⟩;have c:mk own h.a=SS h own:=by unfold SS;rw[if_neg e]
  have d:mk own h.b=SR h own:=by unfold SR;rw[if_neg e]
  rw[c,d];exact bU q
def HA(mh:MH)(r:Nat)(x:Ls):Prop:=∃nb,(∀j,j<x.m->mh[nb+j]? =some (.lst (uE x.sw j)))/\mh[r]? =some (.lst ((List.range x.m).map λj=>.ref (nb+j)))
variable{r:Nat}{x:Ls}
theorem HA.px(h:HA mh r x)(p:bD mh M):HA M r x:=by
 obtain⟨nb,a,b⟩:=h;exact⟨nb,λj c=>p.old (a j c),p.old b⟩
def tells(x:Ls)(own:List Nat)(n:Nat):List D:=(yF x.sw n).map (o5 own)
structure qA(x:Ls)(own:List Nat)(K:List D):Prop where
 len:K.length=x.m
 at_:∀n,n<x.m->∃L,K[n]? =some (.tup [.int (mk own n:Nat),.tup L])/\L.Perm (tells x own n)/\L.Pairwise (λd e=>lx (encM e) (encM d)=false)
theorem aFx(c:fB x){h:Hk}(hh:h∈yF x.sw n):h.a<x.m/\h.b<x.m:=by
 obtain⟨s,hs,hh⟩:=List.mem_flatMap.mp hh;obtain⟨d,e,f⟩:=c.sw s hs;unfold NP at hh;simp only[List.mem_append]at hh;rcases hh with hh | hh | hh <;> split at hh <;> simp at hh <;> subst hh <;> exact⟨by assumption,by assumption⟩
theorem LF(own:List Nat)(l:List Hk):XW (l.map (o5 own)):=⟨[.s,.i,.i,.i],[.sc .i,.sc .i],λd hd=>by
 obtain⟨h,_,rfl⟩:=aKe.mp hd
 exact⟨_,rfl,rfl⟩⟩
theorem aC6(a:fB x)(n:Nat):(yF x.sw n).length<=39:=by
 have:=BV n x.sw;have:=a.lw
 lia
variable{E:f6}{a0 a1:Option D}
theorem DX{r f:Nat}{kk:List D}(k:fB x)(w:own.length=x.m)(y:HA mh r x)(s:mh[f]? =some (.lst kk))(kl:kk.length<=10)
  (q:∀(M:MH) (K:List D),bD mh M->qA x own K->E.nx [a0,a1,some (.ref f),some (.ref r),some (.tup (aE own))] (List.set (M++[MO.lst K]) f (MO.lst (kk++[D.ref (List.length M)])))):
  g9 DV pD E [a0,a1,some (.ref f),some (.ref r),some (.tup (aE own))] mh:=by
 have sz:=aKc;have m8:=k.m8;obtain⟨nb,t,z⟩:=y;have A:(aE own).length=x.m:=by simp[aE,w]
 simp[g9,l9];refine⟨⟨_,s⟩,by lia,?_⟩;rw[A];refine kS (λi b M=>bD mh M/\b.length=i/\∀n,n<i->∃L,b[n]? =some (.tup [.int (mk own n:Nat),.tup L])/\L.Perm (tells x own n)/\L.Pairwise (λd e=>lx (encM e) (encM d)=false)) _ (λ_ _ _ _=>trivial) ?_ ?_ ⟨bD.refl,rfl,λn B=>by lia⟩
 ·rintro i d b M N hi ⟨px,c,g⟩ nx;obtain⟨a,rfl⟩:=jO hi;have C:(0:Int)+(i:Nat)=(i:Nat):=by lia
  rw[C];have l:i<own.length:=by lia
  have o:fY ((List.range x.m).map λj=>D.ref (nb+j)) (i:Nat)=some (.ref (nb+i)):=bZ (by simp[a]);simp[iP,e9 l];rw[cA (px.old z),o];simp only[aH];rw[bE (px.old (t i a))];simp only[aH,uE];refine fF YQ (λh=>h) (o5 own) (yF x.sw i) (bE (px.old (t i a))) (λh hm N hN=>?_) ?_
  ·obtain⟨u,v⟩:=aFx k hm;simp;exact⟨h,own,rfl,by lia,by lia,hN⟩
  ·have F:=aC6 k i;refine⟨_,_,rfl,f9 (aJ _ _),by simp;lia,by simpa using LF own _,λp pm G=>?_⟩;dsimp only;rw[bE (aJ _ _)];simp only[aH];refine⟨by lia,nx _ _ ⟨(px.push _).push _,by simp[c],λn B=>?_⟩⟩;by_cases e:n=i
   ·subst e;exact⟨p,by rw[<-c];simp,by simpa[tells] using pm,G⟩
   ·obtain⟨L,u,v,H⟩:=g n (by lia);exact⟨L,by rw[List.getElem?_append_left (by lia)];exact u,v,H⟩
 ·rintro b M ⟨px,c,g⟩;have I:(fA 0 x.m).length=x.m:=by simp
  rw[I]at c g;rw[dS (aK (px.old s))];exact⟨by lia,q M b px ⟨c,g⟩⟩
theorem sM:∀{ds:List D},(∀d∈ds,good d=true)->dW ds=true
 | [],_=>rfl
 | d::ds,h=>by simp only[dW,h d List.mem_cons_self,sM λe he=>h e (List.mem_cons_of_mem _ he),Bool.and_self]
theorem sR{n:Nat}:∀{ds:List D},(∀d∈ds,deep d<=n)->bS ds<=n
 | [],_=>by simp[bS]
 | d::ds,h=>by
  have:=sR (n:=n) (ds:=ds) λe he=>h e (aK8 _ he);have:=h d aK7;simp only[bS];lia
variable{K:List D}
theorem J3(h:qA x own K):∀k∈K,Ky k:=λk c=>by
 obtain⟨n,a⟩:=aKv.mp c;have f:n<x.m:=by rw[<-h.len];exact(aK5.mp a).1
 obtain⟨L,b,i,_⟩:=h.at_ n f;rw[a]at b;cases b
 have hm:∀d∈L,good d=true/\deep d<=2:=λd hd=>by
  obtain⟨e,_,rfl⟩:=aKe.mp (i.mem_iff.mp hd);exact⟨rfl,by simp[o5,HJ,deep,bS]⟩
 have g:=sM λd hd=>(hm d hd).1;have j:=sR λd hd=>(hm d hd).2;exact⟨_,rfl,RH (by simp[good,dW,g]) rfl,by simp only[deep,bS];lia⟩
noncomputable def uB(a b:List D):D:= .tup [.tup (aE (aI [] a)),.tup (aE (aI (a.foldl aV []) b))]
def tQ:OA:=λds mh Q=>∃(d e:Nat) (x1 a:Ls) (b c:List Nat),ds=[.tup [.ref d,.ref e],.tup [.tup (aE b),.tup (aE c)]]/\fB x1/\fB a/\b.length=x1.m/\c.length=a.m/\HA mh d x1/\HA mh e a/\
 ∀f g,qA x1 b f->qA a c g->Q (uB f g) mh
theorem aCc(ds:List D)(mh:MH)(R:DK)(ok:fZ mh)(hs:tQ ds mh R):iD DV pD (En mh R) (aG ["sides","marked","keys","hooks","own"] ds) mh:=by
 obtain⟨x,y,x1,z,A,B,rfl,h,i,t,u,j,k,q⟩:=hs;have sz:=aKc;have m1:=h.m8;have m2:=i.m8;have o:bD mh (mh++[MO.lst []]):=bD.refl.push _;simp[iD,mJ,aG,bC,oN];refine⟨by lia,by lia,?_⟩;simp only[l5];simp;refine DX h t (j.px o) (aJ _ _) (by simp) λa c e f=>?_;have l:bD mh (List.set (a++[MO.lst c]) mh.length (MO.lst ([]++[D.ref a.length]))):=((o.trans e).push _).set (aK6 _) _;have v:mh.length<a.length:=by have:=e.le;simp at this;lia
 have m:(List.set (a++[MO.lst c]) mh.length (MO.lst ([]++[D.ref a.length])))[mh.length]? =some (.lst ([]++[D.ref a.length])):=bK _ (aK (e.old (aJ _ _)));have n:(List.set (a++[MO.lst c]) mh.length (MO.lst ([]++[D.ref a.length])))[a.length]? =some (.lst c):=get_set (aJ _ _) (by lia);generalize List.set (a++[MO.lst c]) mh.length (MO.lst ([]++[D.ref a.length]))=C at l m n⊢;simp;refine DX i u (k.px l) m (by simp) λM2 d b g=>?_;have p:bD mh (List.set (M2++[MO.lst d]) mh.length (MO.lst ([]++[D.ref a.length]++[D.ref M2.length]))):=((l.trans b).push _).set (aK6 _) _
 have w:a.length<M2.length:=by
  have:=b.le;have:=(aK5.mp n).1
  lia
 have f0:(List.set (M2++[MO.lst d]) mh.length (MO.lst ([]++[D.ref a.length]++[D.ref M2.length])))[mh.length]? =some (.lst ([]++[D.ref a.length]++[D.ref M2.length])):=bK _ (aK (b.old m));have r:(List.set (M2++[MO.lst d]) mh.length (MO.lst ([]++[D.ref a.length]++[D.ref M2.length])))[a.length]? =some (.lst c):=get_set (aK (b.old n)) (by lia);have s:(List.set (M2++[MO.lst d]) mh.length (MO.lst ([]++[D.ref a.length]++[D.ref M2.length])))[M2.length]? =some (.lst d):=get_set (aJ _ _) (by lia);generalize List.set (M2++[MO.lst d]) mh.length (MO.lst ([]++[D.ref a.length]++[D.ref M2.length]))=E at p f0 r s⊢;simp[mI];refine⟨mh.length,a.length,M2.length,c,d,rfl,f0,r,s,J3 f,J3 g,by rw[f.len];lia,by rw[g.len];lia,?_⟩;exact p.out ok (by simp[bX,aS,cG]) (q c d f g)
def bA(x:Ls):List D:=(List.range x.m).map λn=>.tup (bI x.ns n)
theorem WL:∀l:List Str,EV (l.map .str)=false
 | []=>rfl
 | [_]=>rfl
 | [_,_]=>rfl
 | _::_::_::_=>rfl
theorem YH(x:Ls):∀k∈bA x,Ky k:=λk a=>by
 obtain⟨n,_,rfl⟩:=aKe.mp a
 have hm:∀d∈bI x.ns n,good d=true/\deep d<=0:=λd hd=>by
  obtain⟨z,_,rfl⟩:=aKe.mp hd;exact⟨rfl,aK6 _⟩
 have g:=sM λd hd=>(hm d hd).1;have b:=sR λd hd=>(hm d hd).2;exact⟨_,rfl,RH g (WL _),by simp only[deep];lia⟩
def pW:OA:=λds mh Q=>∃x1 a:Ls,ds=[dE x1,dE a]/\fB x1/\fB a/\Q (uB (bA x1) (bA a)) mh
theorem W5(ds:List D)(mh:MH)(R:DK)(ok:fZ mh)(hs:pW ds mh R):gJ pD A0 (En mh R) (aG ["one","other"] ds) mh:=by
 obtain⟨x1,c,rfl,a,b,q⟩:=hs;have sz:=aKc;have m1:=a.m8;have m2:=b.m8;simp[gJ,aG];refine⟨x1,rfl,a,?_⟩;refine⟨c,rfl,b,?_⟩;simp;refine⟨by lia,?_⟩;refine⟨_,mh.length,mh.length+1,bA x1,bA c,rfl,by simp,by simp[bA],by simp[bA],YH x1,YH c,by simp[bA];lia,by simp[bA];lia,?_⟩
 have px:bD mh (mh++[MO.lst (bA x1)]):=⟨_,rfl⟩
 exact bD.out ⟨_,rfl⟩ ok (by simp[bX,aS,cG]) q
def pV:OA:=λds mh Q=>∃x1 a:Ls,ds=[dE x1,dE a]/\fB x1/\fB a/\∀M b c,bD mh M->HA M b x1->HA M c a->Q (.tup [.ref b,.ref c]) M
theorem LL.ha(h:LL mh M x.m (uE x.sw)):HA M (mh.length+x.m) x:=⟨mh.length,h.at_,h.top⟩
theorem WU(ds:List D)(mh:MH)(R:DK)(ok:fZ mh)(hs:pV ds mh R):k6 A1 (En mh R) (aG ["one","other"] ds) mh:=by
 obtain⟨x1,e,rfl,a,b,q⟩:=hs;have sz:=aKc;simp[k6,aG];refine⟨x1,rfl,a,λf d=>?_⟩;refine⟨e,rfl,b,λM2 c=>?_⟩;simp;exact⟨by lia,bU (q M2 _ _ (d.px.trans c.px) (d.ha.px c.px) c.ha)⟩
def GY(a b:List Nat):D:= .tup [.tup (aE a),.tup (aE b)]
def fW(K:List D)(i:Nat):D:=K.getD i .b8
theorem wO(h:K[i]? =some d):fW K i=d:=by simp[fW,List.getD,h]
theorem wI:∀(l us:List D) (d:D),d∈l.foldl aV us↔d∈us\/d∈l
 | [],us,d=>by simp
 | e::l,us,d=>by
  rw[List.foldl_cons,wI l,zI];simp only[List.mem_cons];exact or_assoc
theorem J7(h:d∈us):us[zP us d]? =some d:=by
 have a:us.findIdx (λx=>@decide (x=d) (Classical.propDecidable _))<us.length:=List.findIdx_lt_length.mpr ⟨d,h,by simp⟩;have:=List.findIdx_getElem (w:=a);unfold zP;rw[List.getElem?_eq_getElem a];simpa using this
theorem WH{d e:D}(hd:d∈us)(he:e∈us)(h:zP us d=zP us e):d=e:=by
 have a:=J7 hd;rw[h,J7 he]at a;cases a;rfl
theorem P7(f:D->Nat)(h:i<K.length):mk (K.map f) i=f (fW K i):=by
 simp[mk,fW,List.getD,h]
variable{j:Nat}
theorem eU(hi:i<K.length)(a:j<K.length):mk (aI [] K) i=mk (aI [] K) j↔fW K i=fW K j:=by
 rw[<-D9 K [],P7 _ hi,P7 _ a];have b:fW K i∈K.foldl aV []:=(wI K [] _).mpr (.inr (by simp[fW,List.getD,hi]));have c:fW K j∈K.foldl aV []:=(wI K [] _).mpr (.inr (by simp[fW,List.getD,a]));exact⟨λz=>WH b c z,λz=>by rw[z]⟩
theorem X4{c d:Type}:∀{l:List c} {l' :List d},l.length=l'.length->(l.zip l').map (·.1)=l/\(l.zip l').map (·.2)=l'
 | [],[],_=>⟨rfl,rfl⟩
 | a::l,b::l',h=>by
  have:=X4 (l:=l) (l' :=l') (by simpa using h);simp[this.1,this.2]
variable{K':List D}
theorem IQ{p:D×D}(h:p∈K.zip K'):∃i,i<K.length/\i<K'.length/\p.1=fW K i/\p.2=fW K' i:=by
 obtain⟨i,hi⟩:=aKv.mp h;obtain⟨a,b⟩:=List.getElem?_zip_eq_some.mp hi;exact⟨i,(aK5.mp a).1,(aK5.mp b).1,(wO a).symm,(wO b).symm⟩
theorem LZ(c:K.length=K'.length)(h:∀i j,i<K.length->j<K.length->(fW K i=fW K j↔fW K' i=fW K' j)):aI [] K=aI [] K' :=by
 obtain⟨a,b⟩:=X4 c
 have:=sE (K.zip K') [] λp d q e=>by
  obtain⟨i,f,_,a,b⟩:=IQ (by simpa using d);obtain⟨j,g,_,k,l⟩:=IQ (by simpa using e);rw[a,b,k,l];exact h i j f g
 rw[a,b]at this;exact this
theorem oI{a:Type}{p q:a->Bool}:∀{l:List a},(∀x∈l,q x=true->p x=true)->(∃x∈l,p x=true/\q x=false)->l.countP q<l.countP p
 | [],_,h=>by obtain⟨x,hx,_⟩:=h;simp at hx
 | y::l,h1,h2=>by
  have d:l.countP q<=l.countP p:=List.countP_mono_left λx hx=>h1 x (aK8 _ hx);obtain⟨x,hx,b,c⟩:=h2;rcases aKd.mp hx with rfl | hx
  ·rw[List.countP_cons_of_neg (by simp[c]),List.countP_cons_of_pos b]
   lia
  ·have:=oI (l:=l) (λx hx=>h1 x (aK8 _ hx)) ⟨x,hx,b,c⟩;have h0:=h1 y aK7;by_cases e:q y=true
   ·rw[List.countP_cons_of_pos e,List.countP_cons_of_pos (h0 e)]
    lia
   ·rw[List.countP_cons_of_neg e];have:l.countP p<=(y::l).countP p:=by rw[List.countP_cons];lia
    lia
def prs(n:Nat):List (Nat×Nat):=(List.range n).flatMap λi=>(List.range n).map λj=>(i,j)
def eqs(c:List Nat):Nat:=(prs c.length).countP λq=>decide (mk c q.1=mk c q.2)
theorem JR:(i,j)∈prs n↔i<n/\j<n:=by
 simp only[prs,List.mem_flatMap,List.mem_map,List.mem_range];constructor
 ·rintro⟨a,ha,b,c,e⟩;cases e;exact⟨ha,c⟩
 ·rintro⟨d,f⟩;exact⟨i,d,j,f,rfl⟩
theorem UU(n:Nat):(prs n).length=n*n:=by
 simp only[prs,List.length_flatMap,List.length_map,List.length_range];rw[List.map_const',List.length_range];exact List.sum_replicate_nat
variable{c:List Nat}
theorem aCl:eqs c<=c.length*c.length:=by
 unfold eqs;exact aKr aN1 (Nat.le_of_eq (UU _))
def Fnr(c a :List Nat):Prop:=∀i j,i<a.length->j<a.length->mk a i=mk a j->mk c i=mk c j
theorem T2(g:K.length=K'.length)(d:Fnr (aI [] K) (aI [] K')):aI [] K' =aI [] K\/eqs (aI [] K')<eqs (aI [] K):=by
 by_cases h:∀i j,i<K.length->j<K.length->fW K i=fW K j->fW K' i=fW K' j
 ·refine .inl (LZ g.symm λi j hi c=>⟨λz=>?_,λz=>h i j (by lia) (by lia) z⟩);have:=d i j (by rw[bO];exact hi) (by rw[bO];exact c) ((eU hi c).mpr z);exact(eU (by lia) (by lia)).mp this
 ·right
  have:∃i j,i<K.length/\j<K.length/\fW K i=fW K j/\¬fW K' i=fW K' j:=by
   refine aKf λk=>h λi j hi c e=>aKf λf =>k ⟨i,j,hi,c,e,f⟩
  obtain⟨i,j,hi,c,e,f⟩:=this;unfold eqs;rw[bO,bO,<-g];refine oI (λx hx z=>?_) ⟨(i,j),JR.mpr ⟨hi,c⟩,?_,?_⟩
  ·obtain⟨a,b⟩:=x;obtain⟨ha,l⟩:=JR.mp hx;simp only[decide_eq_true_eq]at z⊢;exact d a b (by rw[bO];lia) (by rw[bO];lia) z
  ·simp only[decide_eq_true_eq];exact(eU hi c).mpr e
  ·simp only[decide_eq_false_iff_not];exact λz=>f ((eU (by lia) (by lia)).mp z)
variable{a b:List Nat}
theorem Fnr.trans(d:Fnr a b)(f:Fnr b c)(h:c.length<=b.length):Fnr a c:=λi j hi g e=>d i j (by lia) (by lia) (f i j hi g e)
structure Mk(m:Nat)(a b:List Nat):Prop where
 la:a.length=m
 lb:b.length=m
 nu:∃K:List D,K.length=m+m/\a++b=aI [] K
theorem cK(h:i<a.length):mk (a++b) i=mk a i:=by simp[mk,List.getD,List.getElem?_append_left h]
theorem oC(h:a.length=m):mk (a++b) (m+j)=mk b j:=by
 subst h;simp[mk,List.getD,List.getElem?_append_right]
variable{K1 K2:List D}
theorem wH(a:K1.length=m)(b:K2.length=m):Mk m (aI [] K1) (aI (K1.foldl aV []) K2):=
 ⟨by rw[bO,a],by rw[bO,b],K1++K2,by simp[a,b],(fD K1 K2 []).symm⟩
theorem vO(f:D->List Int){ds:List D}(inj:∀d∈ds,∀e∈ds,f d=f e->d=e):∀{g c:List D},(∀d∈g,d∈ds)->g.Perm c->g.Pairwise (λd e=>lx (f e) (f d)=false)->c.Pairwise (λd e=>lx (f e) (f d)=false)->g=c
 | [],c,_,p,_,_=>(List.nil_perm.mp p).symm
 | a::t,c,hm,p,s1,s2=>by
  cases c with
  | nil=>exact absurd p.length_eq (by simp)
  | cons b u=>
   have ha:lx (f b) (f a)=false:=by
    rcases aKd.mp (p.mem_iff.mpr aK7) with z | z
    ·rw[z];exact pY _
    ·exact(aLj.mp s1).1 b z
   have h:lx (f a) (f b)=false:=by
    rcases aKd.mp (p.mem_iff.mp aK7) with z | z
    ·rw[z];exact pY _
    ·exact(aLj.mp s2).1 a z
   have e:a=b:=inj a (hm a aK7) b (hm b (p.mem_iff.mpr aK7)) (uR _ _ h ha);subst e;rw[vO f inj (λd hd=>hm d (List.mem_cons_of_mem _ hd)) (List.Perm.cons_inv p) (List.pairwise_cons.mp s1).2 (List.pairwise_cons.mp s2).2]
theorem ZA{c d:List Nat}{a b:Hk}(e:encM (o5 c a)=encM (o5 d b)):o5 c a=o5 d b:=by
 have:=w9 (cs:=[.s,.i,.i,.i,.i,.i]) (es:=[.str a.s,.int a.w,.int a.l,.int (a.t:Nat),.int (SS a c:Nat),.int (SR a c:Nat)]) (fs:=[.str b.s,.int b.w,.int b.l,.int (b.t:Nat),.int (SS b d:Nat),.int (SR b d:Nat)]) rfl rfl (by simpa[D3.encM,o5,HJ,enc,List.flatMap_cons,bW] using e);simp only[List.cons.injEq,and_true]at this;obtain⟨f,g,h,j,k,m⟩:=this;unfold o5 HJ;rw[f,g,h,j,k,m]
theorem aFa{p q:Str×Nat}(h:lx (enc (dU q)) (enc (dU p))=false):lx (enc (.str q.1)) (enc (.str p.1))=false:=by
 by_cases e:q.1=p.1
 ·rw[e];exact pY _
 ·have:=iL (c:= .s) (d:= .str q.1) (e:= .str p.1) rfl rfl (λz=>e (by injection z)) (bW (.int (q.2:Nat))++[]) (bW (.int (p.2:Nat))++[]);simp only[enc,dU,List.flatMap_cons,List.flatMap_nil]at h⊢;rw[<-this];exact h
theorem GW:∀{l:List (Str×Nat)} (n:Nat),(l.map dU).Pairwise (λd e=>lx (enc e) (enc d)=false)->(bI l n).Pairwise (λd e=>lx (enc e) (enc d)=false)
 | [],n,_=>by simp[bI]
 | p::l,n,h=>by
  rw[List.map_cons,List.pairwise_cons]at h;have a:=GW n h.2;by_cases e:p.2=n
  ·have:bI (p::l) n= .str p.1::bI l n:=by simp[bI,e]
   rw[this,List.pairwise_cons];refine⟨λd hd=>?_,a⟩;obtain⟨s,hs,rfl⟩:=aKe.mp hd;obtain⟨q,b,rfl⟩:=aKe.mp hs;exact aFa (h.1 _ (aKz (aLu.mp b).1))
  ·have:bI (p::l) n=bI l n:=by simp[bI,e]
   rw[this];exact a
theorem TQ(l:List (Str×Nat))(n:Nat):FZ (bI l n):= .inl ⟨.s,λd hd=>by
 obtain⟨s,_,rfl⟩:=aKe.mp hd
 rfl⟩
variable{p:List Nat}
theorem jP(h:p.Perm (List.range m))(hi:i<m):mk p i<m:=by
 have a:i<p.length:=by rw[h.length_eq];simpa using hi
 have:mk p i∈p:=by simp[mk,List.getD,a]
 simpa using h.mem_iff.mp this
def A2(p:List Nat)(s:Sw):Sw:=if mk p s.a<=mk p s.b then ⟨s.s,mk p s.g,mk p s.a,mk p s.b,s.w,s.l⟩ else ⟨s.s,mk p s.g,mk p s.b,mk p s.a,s.w,s.l⟩
structure mC(x y:Ls)(p:List Nat):Prop where
 pm:p.Perm (List.range x.m)
 m:y.m=x.m
 ns:y.ns.Perm (x.ns.map λq=>(q.1,mk p q.2))
 sw:y.sw.Perm (x.sw.map (A2 p))
theorem mk_inj(h:p.Perm (List.range m))(hi:i<m)(c:j<m)(e:mk p i=mk p j):i=j:=by
 have nd:p.Nodup:=h.nodup_iff.mpr aM1;have l:p.length=m:=by have:=h.length_eq;simpa using this
 have a:i<p.length:=by lia
 have b:j<p.length:=by lia
 simp only[mk,List.getD,List.getElem?_eq_getElem a,List.getElem?_eq_getElem b,Option.getD_some]at e;exact(aNl nd).mp e
theorem PN{l l' :List (Str×Nat)}(h:l.Perm l')(n:Nat):(bI l n).Perm (bI l' n):=((h.filter _).map _).map _
theorem JN{p:List Nat}{m i:Nat}(h:p.Perm (List.range m))(hi:i<m):∀l:List (Str×Nat),(∀q∈l,q.2<m)->bI (l.map λq=>(q.1,mk p q.2)) (mk p i)=bI l i
 | [],_=>rfl
 | q::l,hl=>by
  have a:=JN h hi l λr b=>hl r (aK8 _ b);unfold bI at*
  have e:(mk p q.2=mk p i)↔(q.2=i):=⟨λz=>mk_inj h (hl q aK7) hi z,λz=>by rw[z]⟩
  by_cases z:q.2=i
  ·simp[z]at a⊢;exact a
  ·simp[z,e]at a⊢;exact a
variable{y:Ls}
theorem MF(h:mC x y p)(a:fB x)(c:fB y)(hi:i<x.m):bI y.ns (mk p i)=bI x.ns i:=by
 have b:=PN h.ns (mk p i);rw[JN h.pm hi _ a.ns]at b;exact fC (TQ y.ns (mk p i)) (λd hd=>hd) b (GW _ c.up) (GW _ a.up)
def K8(m:Nat)(p a b:List Nat):Prop:=∀i,i<m->mk b (mk p i)=mk a i
theorem r6(r:K8 m p a b){s:Str}{w l:Int}{t u v:Nat}(c:u<m)(d:v<m):o5 b ⟨s,w,l,t,mk p u,mk p v⟩=o5 a ⟨s,w,l,t,u,v⟩:=by
 simp only[o5,SS,SR,r u c,r v d]
theorem TX(own:List Nat)(s:Str)(w l:Int)(u v:Nat):o5 own ⟨s,w,l,0,u,v⟩=o5 own ⟨s,w,l,0,v,u⟩:=by
 simp only[o5,SS,SR,if_true,Nat.min_comm,Nat.max_comm]
theorem aC7(pm:p.Perm (List.range m))(r:K8 m p a b)(s:Sw)(d:s.g<m)(j:s.a<m)(k:s.b<m)(hi:i<m):((NP (A2 p s) (mk p i)).map (o5 b)).Perm ((NP s i).map (o5 a)):=by
 have e:∀u,u<m->(mk p u=mk p i)=(u=i):=λu n=>propext ⟨λz=>mk_inj pm n hi z,λz=>by rw[z]⟩
 have l:∀(c:Prop) [Decidable c] (h:Hk) (f:Hk->D),(if c then [h] else []).map f=if c then [f h] else []:=λc _ h f=>by split <;> rfl
 unfold A2;by_cases z:mk p s.a<=mk p s.b
 ·rw[if_pos z];simp only[NP,List.map_append,l,e _ d,e _ j,e _ k,r6 r j k,r6 r d k,r6 r d j];exact List.Perm.refl _
 ·rw[if_neg z];simp only[NP,List.map_append,l,e _ d,e _ j,e _ k,r6 r k j,r6 r d k,r6 r d j];rw[TX];exact List.Perm.append_left _ List.perm_append_comm
theorem sN{c d:Type}{f g:c->List d}:∀(l:List c),(∀a∈l,(f a).Perm (g a))->(l.flatMap f).Perm (l.flatMap g)
 | [],_=>by simp
 | a::l,h=>by
  rw[List.flatMap_cons,List.flatMap_cons];exact(h a aK7).append (sN l λb e=>h b (aK8 _ e))
theorem ME(h:mC x y p)(c:fB x)(r:K8 x.m p a b)(hi:i<x.m):(tells y b (mk p i)).Perm (tells x a i):=by
 unfold tells yF;refine((h.sw.flatMap_right _).map _).trans ?_;rw[List.flatMap_map,List.map_flatMap,List.map_flatMap];refine sN _ λs hs=>?_;obtain⟨d,e,f⟩:=c.sw s hs;exact aC7 h.pm r s d e f hi
theorem oD(h:qA x own K)(a:n<x.m):∃L,fW K n= .tup [.int (mk own n:Nat),.tup L]/\L.Perm (tells x own n)/\L.Pairwise (λd e=>lx (encM e) (encM d)=false):=by
 obtain⟨L,b,c⟩:=h.at_ n a;exact⟨L,wO b,c⟩
theorem vK{L f :List D}(g:L.Perm (tells x a i))(l:L.Pairwise (λd e=>lx (encM e) (encM d)=false))(m:f.Perm (tells y b j))(n:f.Pairwise (λd e=>lx (encM e) (encM d)=false))(p:(tells x a i).Perm (tells y b j)):L=f :=by
 have mt:∀{z:Ls} {c:List Nat} {k:Nat} {d:D},d∈tells z c k->∃o h,d=o5 o h:=λhd=>by
  obtain⟨h,_,rfl⟩:=aKe.mp hd;exact⟨_,h,rfl⟩
 refine vO encM (ds:=L) (λd hd e he q=>?_) (λd hd=>hd) ((g.trans p).trans m.symm) l n;obtain⟨_,_,rfl⟩:=mt (g.mem_iff.mp hd);obtain⟨_,_,rfl⟩:=mt (g.mem_iff.mp he);exact ZA q
theorem vX(pm:p.Perm (List.range m))(c:K1.length=m)(g:K2.length=m)(h:∀i,i<m->fW K2 (mk p i)=fW K1 i):K8 m p (aI [] K1) (aI (K1.foldl aV []) K2):=λi hi=>by
 have j:=jP pm hi;have d:(aI [] K1).length=m:=by rw[bO,c]
 rw[<-oC (a:=aI [] K1) (m:=m) d,<-cK (a:=aI [] K1) (b:=aI (K1.foldl aV []) K2) (by lia),<-fD];refine(eU (by simp;lia) (by simp;lia)).mpr ?_
 have e:fW (K1++K2) (m+mk p i)=fW K2 (mk p i):=by
  subst c;simp[fW,List.getD,List.getElem?_append_right]
 have f:fW (K1++K2) i=fW K1 i:=by simp[fW,List.getD,List.getElem?_append_left (show i<K1.length by lia)]
 rw[e,f,h i hi]
theorem Q2(h:mC x y p)(c:fB x)(k1:qA x a K1)(k2:qA y b K2)(r:K8 x.m p a b):K8 x.m p (aI [] K1) (aI (K1.foldl aV []) K2):=by
 refine vX h.pm k1.len (by rw[k2.len,h.m]) λi hi=>?_;obtain⟨L,d,e,s1⟩:=oD k1 hi;obtain⟨j,f,g,s2⟩:=oD k2 (n:=mk p i) (by rw[h.m];exact jP h.pm hi);rw[d,f,r i hi,vK e s1 g s2 (ME h c r hi).symm]
theorem MG(h:mC x y p)(b:fB x)(c:fB y):K8 x.m p (aI [] (bA x)) (aI ((bA x).foldl aV []) (bA y)):=by
 refine vX h.pm (by simp[bA]) (by simp[bA,h.m]) λi hi=>?_;have d:=jP h.pm hi;have a :mk p i<y.m:=by rw[h.m];exact d
 have e:fW (bA x) i= .tup (bI x.ns i):=by simp[fW,bA,List.getD,hi]
 have f:fW (bA y) (mk p i)= .tup (bI y.ns (mk p i)):=by simp[fW,bA,List.getD,a]
 rw[e,f,MF h b c hi]
theorem EW{d:Type}{k:Nat}{x:d}{F:Nat->List d}:∀(a:List Nat),a.Nodup->k∈a->(a.flatMap λj=>(if k=j then [x] else [])++F j).Perm (x::a.flatMap F)
 | [],_,h=>by simp at h
 | j::a,nd,h=>by
  rw[List.flatMap_cons,List.flatMap_cons];have b :=aMl.mp nd;by_cases e:k=j
  ·subst e
   have:(a.flatMap λj=>(if k=j then [x] else [])++F j)=a.flatMap F:=by
    have f:∀j∈a,(if k=j then [x] else [])++F j=F j:=λj c=>by
     have z:¬k=j:=λz=>b.1 (z.symm▸c);rw[if_neg z];rfl
    clear h nd b
    induction a with
    | nil=>rfl
    | cons i a ih=>rw[List.flatMap_cons,List.flatMap_cons,f i List.mem_cons_self,ih λj c=>f j (List.mem_cons_of_mem _ c)]
   rw[this];simp
  ·rw[if_neg e,List.nil_append];have g:k∈a:=by rcases aKd.mp h with z | z;exact absurd z e;exact z
   exact((EW a b.2 g).append_left (F j)).trans List.perm_middle
theorem pU{c:Type}(b:c->Nat){m:Nat}:∀l:List c,(∀a∈l,b a<m)->((List.range m).flatMap λj=>l.filter λa=>decide (b a=j)).Perm l
 | [],_=>by simp
 | x::l,h=>by
  have d:=pU b l λa ha=>h a (aK8 _ ha)
  have e:(λj=>(x::l).filter λa=>decide (b a=j))=λj=>(if b x=j then [x] else [])++l.filter λa=>decide (b a=j):=by
   funext j;by_cases z:b x=j
   ·simp[z]
   ·simp[z]
  rw[e];exact(EW _ aM1 (by simpa using h x aK7)).trans (d.cons x)
theorem pX(h:p.Perm (List.range m)):(List.range m).map (mk p)=p:=by
 have l:p.length=m:=by have:=h.length_eq;simpa using this
 refine aNm (by simp[l]) λi b a=>?_;simp[mk,List.getD,a]
theorem group{d e:Type}(c:d->Nat)(ky:e->Nat){X:List d}{Y:List e}(f:d->e)(pm:p.Perm (List.range m))(hx:∀a∈X,c a<m)(j:∀b∈Y,ky b<m)
  (h:∀i,i<m->(Y.filter λb=>decide (ky b=mk p i)).Perm ((X.filter λa=>decide (c a=i)).map f)):Y.Perm (X.map f):=by
 refine(pU ky Y j).symm.trans ?_;refine(pm.symm.flatMap_right _).trans ?_;rw[<-pX pm,List.flatMap_map];refine(sN (g:=λi=>(X.filter λa=>decide (c a=i)).map f) _ λi hi=>h i (by simpa using hi)).trans ?_;rw[<-List.map_flatMap];exact(pU c X hx).map f
def isG:D->Bool
 | .tup [.tup [_,_,_,.int t],_,_]=>decide (t=0)
 | _=>false
theorem RI(own:List Nat)(n:Nat):∀l:List Sw,((yF l n).map (o5 own)).filter isG=(l.filter λs=>decide (s.g=n)).map λs=>o5 own ⟨s.s,s.w,s.l,0,s.a,s.b⟩
 | []=>rfl
 | s::l=>by
  have f:=RI own n l;have e:yF (s::l) n=NP s n++yF l n:=rfl
  have i:∀(c:Prop) [Decidable c] (h:Hk),((if c then [h] else []).map (o5 own)).filter isG=if c/\h.t=0 then [o5 own h] else []:=λc _ h=>by
   by_cases z:c
   ·by_cases d:h.t=0
    ·have:isG (o5 own h)=true:=by simp[o5,HJ,isG,d]
     simp[z,d,this]
    ·have:isG (o5 own h)=false:=by simp[o5,HJ,isG];lia
     simp[z,d,this]
   ·simp[z]
  rw[e,List.map_append,List.filter_append,f];simp only[NP,List.map_append,List.filter_append,i];by_cases z:s.g=n
  ·simp[z]
  ·simp[z]
def psi(b:List Nat)(j:Nat):D->Sw
 | .tup [.tup [.str s,.int w,.int l,_],.int A,.int C]=>⟨s,j,min (b.idxOf A.toNat) (b.idxOf C.toNat),max (b.idxOf A.toNat) (b.idxOf C.toNat),w,l⟩
 | _=>⟨"",0,0,0,0,0⟩
theorem OW(b own:List Nat)(j:Nat)(s:Str)(w l:Int)(u v:Nat):psi b j (o5 own ⟨s,w,l,0,u,v⟩)=⟨s,j,min (b.idxOf (mk own u)) (b.idxOf (mk own v)),max (b.idxOf (mk own u)) (b.idxOf (mk own v)),w,l⟩:=by
 simp only[o5,HJ,psi,SS,SR,if_true,Int.toNat_natCast];rcases Nat.le_total (mk own u) (mk own v) with h | h
 ·rw[Nat.min_eq_left h,Nat.max_eq_right h]
 ·rw[Nat.min_eq_right h,Nat.max_eq_left h,Nat.min_comm,Nat.max_comm]
theorem P6(h:i<a.length):mk a i∈a:=by simp[mk,List.getD,h]
theorem HE(nd:b.Nodup)(h:i<b.length):b.idxOf (mk b i)=i:=by
 have:mk b i=b[i]:=by simp[mk,List.getD,h]
 rw[this];exact nd.idxOf_getElem i h
theorem aAr{v:Nat}(h:v∈b):mk b (b.idxOf v)=v:=by
 have a:=List.idxOf_lt_length_of_mem h;have:mk b (b.idxOf v)=b[b.idxOf v]:=by simp only[mk,List.getD,List.getElem?_eq_getElem a,Option.getD_some]
 rw[this];exact List.getElem_idxOf a
def lead(a b:List Nat):List Nat:=a.map λv=>b.idxOf v
theorem uP(h:i<a.length):mk (lead a b) i=b.idxOf (mk a i):=by simp[lead,mk,List.getD,h]
theorem zL(nd:a.Nodup)(pm:a.Perm b)(d:a.length=m):(lead a b).Perm (List.range m):=by
 have nb:b.Nodup:=pm.nodup_iff.mp nd
 have e:b.map (λv=>b.idxOf v)=List.range m:=by
  refine aNm (by simp[<-d,pm.length_eq]) λi c f=>?_;simp at c;simp[nb.idxOf_getElem i c]
 rw[<-e];exact pm.map _
theorem VG{l l' :List (Str×Nat)}(h:bI l i=bI l' j):(l.filter λq=>decide (q.2=i)).map (·.1)=(l'.filter λq=>decide (q.2=j)).map (·.1):=by
 unfold bI at h;exact aNe (λa b e=>by injection e) |>.mp h
theorem XA{l:List (Str×Nat)}:(l.filter λq=>decide (q.2=j))=((l.filter λq=>decide (q.2=j)).map (·.1)).map λs=>(s,j):=by
 rw[List.map_map]
 have:∀q∈l.filter λq=>decide (q.2=j),q=(q.1,j):=λq a=>by
  have:=(aLu.mp a).2;simp at this;rw[<-this]
 conv=>lhs;rw[<-List.map_id (l.filter λq=>decide (q.2=j))]
 exact aKo λq a=>this q a
theorem sound(o:fB x)(k:fB y)(hm:y.m=x.m)(la:a.length=x.m)(lb:b.length=x.m)
  (nm:∀i j,i<x.m->j<x.m->mk a i=mk b j->bI x.ns i=bI y.ns j)
  (st:∀i j,i<x.m->j<x.m->mk a i=mk b j->(tells x a i).Perm (tells y b j)) (nd:a.Nodup) (pm:a.Perm b):mC x y (lead a b):=by
 have f:=zL nd pm la;have nb:b.Nodup:=pm.nodup_iff.mp nd
 have t:∀i,i<x.m->mk a i=mk b (mk (lead a b) i):=λi hi=>by
  rw[uP (by lia),aAr (pm.mem_iff.mp (P6 (by lia)))]
 refine⟨f,hm,?_,?_⟩
 ·refine group (λq:Str×Nat=>q.2) (λq:Str×Nat=>q.2) (λq=>(q.1,mk (lead a b) q.2)) f o.ns (λq p=>by rw[<-hm];exact k.ns q p) λi hi=>?_;have r:=jP f hi;have e:=VG (nm i _ hi r (t i hi));rw[XA,<-e];rw[List.map_map];refine aLx (aKo λq p=>?_);have:=(aLu.mp p).2;simp at this;simp[this]
 ·refine group (λs=>s.g) (λs=>s.g) (A2 (lead a b)) f (λs hs=>(o.sw s hs).1) (λs hs=>by rw[<-hm];exact(k.sw s hs).1) λi hi=>?_;have r:=jP f hi;have n:=((st i _ hi r (t i hi)).filter isG).map (psi b (mk (lead a b) i));unfold tells at n;rw[RI,RI,List.map_map,List.map_map]at n
  have u:((x.sw.filter λs=>decide (s.g=i)).map (psi b (mk (lead a b) i) ∘ λs=>o5 a ⟨s.s,s.w,s.l,0,s.a,s.b⟩))=(x.sw.filter λs=>decide (s.g=i)).map (A2 (lead a b)):=by
   refine aKo λs hs=>?_;obtain⟨d,c⟩:=aLu.mp hs;obtain⟨v,A,B⟩:=o.sw s d;simp at c;simp only[Function.comp,OW,A2,uP (show s.a<a.length by lia),uP (show s.b<a.length by lia),c];split
   ·rename_i z;rw[Nat.min_eq_left z,Nat.max_eq_right z]
   ·rename_i z;rw[Nat.min_eq_right (by lia),Nat.max_eq_left (by lia)]
  have C:((y.sw.filter λs=>decide (s.g=mk (lead a b) i)).map (psi b (mk (lead a b) i) ∘ λs=>o5 b ⟨s.s,s.w,s.l,0,s.a,s.b⟩))=y.sw.filter λs=>decide (s.g=mk (lead a b) i):=by
   conv=>rhs;rw[<-List.map_id (y.sw.filter λs=>decide (s.g=mk (lead a b) i))]
   refine aKo λs hs=>?_;obtain⟨d,c⟩:=aLu.mp hs;obtain⟨v,A,B⟩:=k.sw s d;have h:=k.ab s d;simp at c;simp only[Function.comp,OW,HE nb (show s.a<b.length by lia),HE nb (show s.b<b.length by lia),<-c,Nat.min_eq_left h,Nat.max_eq_right h,id]
  rw[u,C]at n;exact n.symm
theorem all_map{b:Type}{f:b->D}{Pr:b->Prop}:∀{l:List D},(∀d∈l,∃a,Pr a/\d=f a)->∃as:List b,l=as.map f/\∀a∈as,Pr a
 | [],_=>⟨[],rfl,by simp⟩
 | d::l,h=>by
  obtain⟨a,ha,rfl⟩:=h d aK7;obtain⟨as,rfl,hs⟩:=all_map λe he=>h e (aK8 _ he);exact⟨a::as,rfl,by simp;exact⟨ha,hs⟩⟩
theorem qP(l:List (Str×Nat)):FZ (l.map dU):= .inr ⟨.s,[.i],λd hd=>by
 obtain⟨p,_,rfl⟩:=aKe.mp hd
 exact⟨_,rfl,rfl⟩⟩
theorem lH(l:List Sw):FZ (l.map dI):= .inr ⟨.s,[.i,.i,.i,.i,.i],λd hd=>by
 obtain⟨p,_,rfl⟩:=aKe.mp hd
 exact⟨_,rfl,rfl⟩⟩
theorem D1(n:Nat):∀l:List (Str×Nat),aS n (l.map dU)=true
 | []=>rfl
 | p::l=>by simp only[List.map_cons,aS,D1 n l,Bool.and_true];rfl
theorem DZ(n:Nat):∀l:List Sw,aS n (l.map dI)=true
 | []=>rfl
 | p::l=>by simp only[List.map_cons,aS,DZ n l,Bool.and_true];rfl
theorem qY(n:Nat)(x:Ls):bX n (dE x)=true:=by simp[dE,bX,aS,D1,DZ]
def bk(p:List Nat)(m:Nat):List Nat:=lead (List.range m) p
theorem nO(h:i<m):mk (List.range m) i=i:=by simp[mk,List.getD,h]
theorem XQ(h:p.Perm (List.range m)):(bk p m).Perm (List.range m):=zL aM1 h.symm (by simp)
theorem xI(h:p.Perm (List.range m))(hi:i<m):mk (bk p m) (mk p i)=i:=by
 have l:p.length=m:=by have:=h.length_eq;simpa using this
 have:=jP h hi;unfold bk;rw[uP (by simpa using this),nO this,HE (h.nodup_iff.mpr List.nodup_range) (by lia)]
theorem ZS(h:p.Perm (List.range m)){s:Sw}(d:s.g<m)(f:s.a<m)(i:s.b<m)(c:s.a<=s.b):A2 (bk p m) (A2 p s)=s:=by
 unfold A2;by_cases z:mk p s.a<=mk p s.b
 ·simp only[if_pos z,xI h d,xI h f,xI h i,if_pos c]
 ·by_cases e:s.b<=s.a
  ·have j :s.a=s.b:=by lia
   exact absurd (by rw[j];exact aK6 _) z
  ·simp only[if_neg z,xI h d,xI h f,xI h i,if_neg e]
theorem KC(h:mC x y p)(a:fB x):mC y x (bk p x.m):=by
 refine⟨by rw[h.m];exact XQ h.pm,h.m.symm,?_,?_⟩
 ·refine List.Perm.symm ((h.ns.map _).trans ?_);rw[List.map_map]
  conv=>rhs;rw[<-List.map_id x.ns]
  refine aLx (aKo λq b=>?_);simp[xI h.pm (a.ns q b)]
 ·refine List.Perm.symm ((h.sw.map _).trans ?_);rw[List.map_map]
  conv=>rhs;rw[<-List.map_id x.sw]
  refine aLx (aKo λs hs=>?_);obtain⟨c,d,e⟩:=a.sw s hs;exact ZS h.pm c d e (a.ab s hs)
theorem Q1(a:fB x):mC x x (List.range x.m):=by
 refine⟨List.Perm.refl _,rfl,?_,?_⟩
 ·conv=>lhs;rw[<-List.map_id x.ns]
  refine aLx (aKo λq b=>?_);simp[nO (a.ns q b)]
 ·conv=>lhs;rw[<-List.map_id x.sw]
  refine aLx (aKo λs hs=>?_);obtain⟨c,d,e⟩:=a.sw s hs;simp[A2,nO c,nO d,nO e,a.ab s hs]
theorem Q0{x y z:Ls}(a:mC x y p)(b:mC x z p)(c:fB y)(e:fB z):dE y=dE z:=by
 have f:=fC (qP y.ns) (λd hd=>hd) ((a.ns.trans b.ns.symm).map dU) c.up e.up;have g:=fC (lH y.sw) (λd hd=>hd) ((a.sw.trans b.sw.symm).map dI) c.us e.us;unfold dE;rw[f,g,a.m,b.m]
def Few(x:Ls):Prop:=x.m<=8\/∃i,i<x.m/\∀j,j<x.m->bI x.ns j=bI x.ns i->j=i
theorem iR:∀l:List Nat,fP (aE l)=true/\bS (aE l)<=1
 | []=>⟨rfl,by simp[aE,bS]⟩
 | n::l=>by
  obtain⟨a,b⟩:=iR l;have e:aE (n::l)= .int (n:Nat)::aE l:=rfl;refine⟨by rw[e];simp[fP,cY,a],?_⟩;rw[e];simp only[bS,deep]
  lia
theorem xB(M:MH)(n:Nat):∀l:List Nat,(aE l).map (eX M n)=aE l
 | []=>rfl
 | k::l=>by
  have e:aE (k::l)= .int (k:Nat)::aE l:=rfl;rw[e,List.map_cons,xB M n l];cases n <;> rfl
theorem nA(l:List Nat):FZ (aE l):= .inl ⟨.i,λd hd=>by
 obtain⟨n,_,rfl⟩:=aKe.mp hd
 rfl⟩
theorem rE(h:aE a=aE b):a=b:=(aNe λi j e=>by injection e with e;lia).mp h
def natOf:D->Nat
 | .int i=>i.toNat
 | _=>0
theorem wG:∀l:List Nat,(aE l).map natOf=l
 | []=>rfl
 | n::l=>by
  have:=wG l;unfold aE at*;simp only[List.map_cons,this,natOf,Int.toNat_natCast]
theorem zV:(aE a).Perm (aE b)↔a.Perm b:=by
 refine⟨λh=>?_,λh=>h.map _⟩;have:=h.map natOf;rw[wG,wG]at this;exact this
theorem zG{l:List D}(h:l.Perm (aE a)):∃c:List Nat,l=aE c/\c.Perm a:=by
 obtain⟨c,rfl,_⟩:=all_map (f:=λn:Nat=>D.int (n:Nat)) (Pr:=λ_=>True) (l:=l) λd hd=>by
  obtain⟨n,_,rfl⟩:=aKe.mp (h.mem_iff.mp hd);exact⟨n,trivial,rfl⟩
 exact⟨c,rfl,zV.mp h⟩
theorem GG{l l' :List D}(c:l.Perm (aE a))(s1:l.Pairwise (λd e=>lx (enc e) (enc d)=false))(f:l'.Perm (aE b))(s2:l'.Pairwise (λd e=>lx (enc e) (enc d)=false)):l=l' ↔a.Perm b:=by
 refine⟨λz=>?_,λz=>?_⟩
 ·subst z;exact zV.mp (c.symm.trans f)
 ·exact fC (nA a) (λd hd=>c.mem_iff.mp hd) ((c.trans (z.map _)).trans f.symm) s1 s2
theorem PX{k f :Nat}(h:M[k]? =some (.lst (aE a)))(h' :M[f]? =some (.lst (aE b)))(q:∀c:Bool,(c=true↔¬a=b)->Q (.bl c) M):LY (.ref k) (.ref f) M Q:=by
 have e:∀{k:Nat} {a:List Nat},M[k]? =some (.lst (aE a))->eX M 2 (.ref k)= .fl (aE a):=λh=>by
  simp only[eX,h];rw[xB]
 have j:=iR a;have l:=iR b;have g:cY (.fl (aE a))=true:=by simp[cY,j.1]
 have i:cY (.fl (aE b))=true:=by simp[cY,l.1]
 refine⟨2,?_⟩;rw[e h,e h'];refine⟨d8 g,d8 i,by simp only[deep];lia,q _ ?_⟩;have:=rJ _ _ g i;rw[Bool.not_eq_true',<-Bool.not_eq_true,this];exact⟨λz d=>z (by rw[d]),λz d=>z (rE (by injection d))⟩
def nL:OA:=λds mh Q=>∃a b:List Nat,ds=[GY a b]/\a.length<=50/\b.length<=50/\∀c:Bool,(c=true↔¬a.Perm b)->Q (.bl c) mh
theorem Q9(ds:List D)(mh:MH)(R:DK)(ok:fZ mh)(hs:nL ds mh R):iG (En mh R) (aG ["marked"] ds) mh:=by
 obtain⟨a,b,rfl,la,lb,q⟩:=hs;simp[iG,aG,GY,mB];refine⟨_,rfl,by simp[aE];lia,nA a,λl d s1=>⟨_,rfl,by simp[aE];lia,nA b,λl' e s2=>?_⟩⟩;have hi:=GG d s1 e s2;obtain⟨c,rfl,_⟩:=zG d;obtain⟨g,rfl,_⟩:=zG e;refine PX (aK (aJ _ _)) (aJ _ _) λk f=>?_;refine((bD.refl.push _).push _).out ok rfl (q k ?_);rw[f,<-hi];exact not_congr ⟨λz=>by rw[z],rE⟩
theorem sO:∀(own:List Nat) (k:Nat),n6 k (aE own)=(List.range own.length).map λi=>D.tup [.int ((k+i:Nat):Int),.int (mk own i:Nat)]
 | [],k=>rfl
 | a::own,k=>by
  have b:=sO own (k+1);have e:aE (a::own)= .int (a:Nat)::aE own:=rfl;rw[e,n6,b,List.length_cons,List.range_succ_eq_map,List.map_cons,List.map_map];congr 1;refine aKo λi _=>?_;simp only[Function.comp,mk,List.getD_cons_succ,Nat.succ_eq_add_one];rw[show k+1+i=k+(i+1) by lia]
def bH(own:List Nat)(n:Nat):List D:=(List.range own.length).map λi=>.tup [.int (mk own i:Nat),.bl (decide (i=n))]
variable{a2:Option D}
theorem DW{a n:Nat}{kk:List D}(c:own.length<=100)(b:mh[a]? =some (.lst kk))(kl:kk.length<=10)
  (q:E.nx [a0,a1,a2,some (.ref a),some (.tup (aE own)),some (.int (n:Nat))] (List.set (mh++[MO.lst (bH own n)]) a (MO.lst (kk++[D.ref (List.length mh)])))):
  iS pD E [a0,a1,a2,some (.ref a),some (.tup (aE own)),some (.int (n:Nat))] mh:=by
 have sz:=aKc;have d:(aE own).length=own.length:=by simp[aE]
 simp[iS,l9,bC];refine⟨⟨_,b⟩,by lia,?_⟩;rw[sO];refine fF (λi=>D.tup [.int ((0+i:Nat):Int),.int (mk own i:Nat)]) (λi=>i) (λi=>.tup [.int (mk own i:Nat),.bl (decide (i=n))]) (List.range own.length) (by simp[bC]) (λi hi N hN=>?_) ?_
 ·simp[iP];have e:(((i:Nat):Int)==((n:Nat):Int))=decide (i=n):=by rw[Bool.eq_iff_iff];simp;lia
  rw[e];exact⟨by lia,hN⟩
 ·rw[dS (aK b)];exact⟨by lia,by simpa[bH] using q⟩
theorem X5(own:List Nat)(n:Nat):∀k∈bH own n,Ky k:=λk a=>by
 obtain⟨i,_,rfl⟩:=aKe.mp a;exact⟨_,rfl,rfl,by simp[deep,bS]⟩
def sWN:OA:=λds mh Q=>∃(a b:List Nat) (i j:Nat),ds=[GY a b,.int (i:Nat),.int (j:Nat)]/\a.length<=100/\b.length<=100/\Q (uB (bH a i) (bH b j)) mh
theorem aC9(ds:List D)(mh:MH)(R:DK)(ok:fZ mh)(hs:sWN ds mh R):jA pD (En mh R) (aG ["first","net","other_net","keys","own","named"] ds) mh:=by
 obtain⟨a,b,i,j,rfl,la,lb,q⟩:=hs;have sz:=aKc;have o:bD mh (mh++[MO.lst []]):=bD.refl.push _;have h:∀(c:List Nat) (n:Nat),(bH c n).length=c.length:=λc n=>by simp[bH]
 simp[jA,oQ,aG,GY,bC,oN];refine⟨by lia,by lia,?_⟩;simp only[l5];simp;refine DW la (aJ _ _) (by simp) ?_;have g:bD mh (List.set (mh++[MO.lst []]++[MO.lst (bH a i)]) mh.length (MO.lst ([]++[D.ref (mh++[MO.lst []]).length]))):=(o.push _).set (aK6 _) _;have e:(List.set (mh++[MO.lst []]++[MO.lst (bH a i)]) mh.length (MO.lst ([]++[D.ref (mh++[MO.lst []]).length])))[mh.length]? =some (.lst ([]++[D.ref (mh++[MO.lst []]).length])):=bK _ (aK (aJ _ _));have f:(List.set (mh++[MO.lst []]++[MO.lst (bH a i)]) mh.length (MO.lst ([]++[D.ref (mh++[MO.lst []]).length])))[(mh++[MO.lst []]).length]? =some (.lst (bH a i)):=get_set (aJ _ _) (by simp);have p:(mh++[MO.lst []]).length=mh.length+1:=by simp
 rw[p]at e f g⊢;generalize List.set (mh++[MO.lst []]++[MO.lst (bH a i)]) mh.length (MO.lst ([]++[D.ref (mh.length+1)]))=d at g e f⊢;have r:mh.length+1<d.length:=(aK5.mp f).1;simp;refine DW lb e (by simp) ?_;have k:bD mh (List.set (d++[MO.lst (bH b j)]) mh.length (MO.lst ([]++[D.ref (mh.length+1)]++[D.ref d.length]))):=(g.push _).set (aK6 _) _;have f0:(List.set (d++[MO.lst (bH b j)]) mh.length (MO.lst ([]++[D.ref (mh.length+1)]++[D.ref d.length])))[mh.length]? =some (.lst ([]++[D.ref (mh.length+1)]++[D.ref d.length])):=bK _ (aK e);have l:(List.set (d++[MO.lst (bH b j)]) mh.length (MO.lst ([]++[D.ref (mh.length+1)]++[D.ref d.length])))[mh.length+1]? =some (.lst (bH a i)):=get_set (aK f) (by lia);have m:(List.set (d++[MO.lst (bH b j)]) mh.length (MO.lst ([]++[D.ref (mh.length+1)]++[D.ref d.length])))[d.length]? =some (.lst (bH b j)):=get_set (aJ _ _) (by lia);generalize List.set (d++[MO.lst (bH b j)]) mh.length (MO.lst ([]++[D.ref (mh.length+1)]++[D.ref d.length]))=s at k f0 l m⊢;simp[oP];refine⟨mh.length,mh.length+1,d.length,bH a i,bH b j,rfl,f0,l,m,X5 a i,X5 b j,by rw[h];lia,by rw[h];lia,?_⟩;exact k.out ok (by simp[bX,aS,cG]) q
def GJ:OA:=λds mh Q=>∃x y:Ls,ds=[dE x,dE y]/\fB x/\fB y/\x.m=y.m/\x.sw.length=y.sw.length/\Q (.bl true) mh
theorem aG4(ds:List D)(mh:MH)(R:DK)(ok:fZ mh)(hs:GJ ds mh R):gI (En mh R) (aG ["one","other"] ds) mh:=by
 obtain⟨x,y,rfl,d,h,e,f,q⟩:=hs;have sz:=aKc;have g:∀a b c:D,fY [a,b,c] 2=some c:=λa b c=>rfl;have i:=d.lw;simp[gI,aG,dE,g,e,f];exact bU q
def mD(a:List Nat):List Nat:=(List.range a.length).filter λi=>decide (1<a.count (mk a i))
def NC(l:List Nat)(v:Nat):Option D:=if l.count v=0 then none else some (.int ((l.count v:Nat):Int))
theorem RZ(l:List Nat)(v u:Nat):(l++[v]).count u=l.count u+if v=u then 1 else 0:=by
 rw[List.count_append];by_cases e:v=u
 ·subst e;simp
 ·rw[if_neg e,List.count_cons_of_ne e];simp
def S3:OA:=λds mh Q=>∃a:List Nat,ds=[.tup (aE a)]/\a.length<=100/\Q (.ref mh.length) (mh++[.lst (aE (mD a))])
theorem W6(ds:List D)(mh:MH)(R:DK)(ok:fZ mh)(hs:S3 ds mh R):iE (En mh R) (aG ["own","many","mark"] ds) mh:=by
 obtain⟨a,rfl,la,q⟩:=hs;have sz:=aKc;simp[iE,mL,aG,bC];refine cH (λi f M=>(∃a2,f=[some (D.tup (aE a)),some (.ref mh.length),a2])/\bD mh M/\∃kvs,M[mh.length]? =some (.dic false kvs)/\kvs.length<=i/\∀v:Nat,fS kvs (.int (v:Nat))=NC (a.take i) v) _ (λ_ _ _ _=>trivial) ?_ ?_ ⟨⟨_,rfl⟩,bD.refl.push _,[],aJ _ _,by simp,λv=>by simp[fS,NC]⟩
 ·rintro i d f M N hi ⟨⟨a2,rfl⟩,px,kvs,g,kl,b⟩ nx;obtain⟨v,c,rfl⟩:=lK hi;have j:i<a.length:=(aK5.mp c).1;have k:a.take (i+1)=a.take i++[v]:=by rw[List.take_add_one,c];rfl
  simp[lN];refine⟨⟨_,g⟩,kvs,g,⟨.inl (v:Int),rfl⟩,?_⟩
  have l:(fS kvs (.int (v:Nat))).getD (.int 0)= .int (((a.take i).count v:Nat):Int):=by
   rw[b v,NC];by_cases e:(a.take i).count v=0
   ·rw[if_pos e,e];rfl
   ·rw[if_neg e];rfl
  rw[l];simp;refine⟨_,kvs,.inl (v:Int),rfl,g,rfl,by lia,?_⟩;refine nx _ _ ⟨⟨_,rfl⟩,px.set (aK6 _) _,_,bK _ g,?_,λu=>?_⟩
  ·have:=OT kvs (.int (v:Nat)) (.int (((a.take i).count v:Nat)+1:Int))
   lia
  ·rw[k,NC,RZ];by_cases e:v=u
   ·subst e;rw[TN,if_pos rfl,if_neg (by lia)];simp
   ·rw[GA _ _ (λz=>e (by injection z with z;lia)),b u,NC,if_neg e,Nat.add_zero]
 ·rintro f M ⟨⟨a2,rfl⟩,px,kvs,g,kl,b⟩;rw[show (aE a).length=a.length by simp[aE],List.take_length]at b;simp[mK,bC];refine⟨by simp[aE];lia,?_⟩;rw[sO];refine HY (λi=>D.tup [.int ((0+i:Nat):Int),.int (mk a i:Nat)]) (λi=>decide (1<a.count (mk a i))) (λi=>i) (λi=>.int (i:Nat)) (List.range a.length) (by simp[bC]) (λi hi N p m n=>?_) ?_
  ·have h :i<a.length:=by simpa using hi
   have o:a.count (mk a i)≠0:=λz=>List.count_eq_zero.mp z (P6 h);simp[iP];refine⟨_,kvs,.inl (mk a i:Int),_,rfl,g,rfl,by rw[b,NC,if_neg o],?_⟩;simp;by_cases e:1<a.count (mk a i)
   ·rw[if_pos (by lia)];simpa using m (by simpa using e)
   ·rw[if_neg (by lia)];exact n (by simpa using e)
  ·refine(px.push _).uB ok px.le (aJ _ _) (cG _ _) ?_;simpa[mD,aE] using q
def tD(t:List Nat×List Nat):D:=GY t.1 t.2
def Rtp(tl:List (List Nat×List Nat))(i j:Nat)(d:D):Prop:=(d= .b8/\∀k t,k<2->tl[k]? =some t->mk t.1 i=mk t.2 j)\/∃(k:Nat) (t:List Nat×List Nat),d= .int (k:Nat)/\k<2/\tl[k]? =some t/\mk t.1 i≠mk t.2 j/\∀a t',a<k->tl[a]? =some t' ->mk t'.1 i=mk t'.2 j
variable{tl:List (List Nat×List Nat)}
theorem JH{d e:D}(h:Rtp tl i j d)(h' :Rtp tl i j e):d=e:=by
 rcases h with ⟨rfl,h⟩ | ⟨k,t,rfl,a,ht,ne,h⟩
 ·rcases h' with ⟨rfl,_⟩ | ⟨k,t,rfl,a,ht,ne,_⟩
  ·rfl
  ·exact absurd (h k t a ht) ne
 ·rcases h' with ⟨rfl,h'⟩ | ⟨f,t',rfl,g,b,c,h'⟩
  ·exact absurd (h' k t a ht) ne
  ·rcases aMy k f with z | z | z
   ·exact absurd (h' k t z ht) ne
   ·rw[z]
   ·exact absurd (h f t' z b) c
theorem K3(ds:List D):D3.cutD ds none (some 2)=ds.take 2:=by
 unfold D3.cutD;have a:HT.dM ds.length 0 none=0:=by simp[HT.dM]
 have b:HT.dM ds.length ds.length (some 2)=min 2 ds.length:=HT.UA _ _ 2;rw[a,b];simp
def LP:OA:=λds mh Q=>∃(r i j:Nat) (tl:List (List Nat×List Nat)),ds=[.ref r,.int (i:Nat),.int (j:Nat)]/\mh[r]? =some (.lst (tl.map tD))/\tl.length<=1000/\(∀t∈tl,i<t.1.length/\j<t.2.length)/\
 ∀d,Rtp tl i j d->Q d mh
theorem aFz(ds:List D)(mh:MH)(R:DK)(ok:fZ mh)(hs:LP ds mh R):dZ (En mh R) (aG ["told","net","other_net","rounds","marked"] ds) mh:=by
 obtain⟨r,i,j,tl,rfl,s,u,v,q⟩:=hs;have sz:=aKc;simp[dZ,aG];rw[aEc s,K3];rw[bE (aJ _ _)];simp only[aH];refine⟨by simp;lia,?_⟩;refine cH (λn g M=>(∃l m,g=[some (D.ref r),some (.int (i:Nat)),some (.int (j:Nat)),l,m])/\M=mh++[.lst ((tl.map tD).take 2)]/\∀k t,k<n->k<2->tl[k]? =some t->mk t.1 i=mk t.2 j) _ (λ_ _ M h=>by rw[h.2.1];exact bE (aJ _ _)) ?_ ?_ ⟨⟨_,_,rfl⟩,rfl,λk t c=>absurd c (aMn _)⟩
 ·rintro n d g M N w ⟨⟨l,m,rfl⟩,rfl,f⟩ nx;obtain⟨e,he,rfl⟩:=oH w
  have b:n<2:=by
   have:=(aK5.mp he).1;simp at this
   lia
  rw[List.getElem?_take_of_lt b,List.getElem?_map]at he;obtain⟨t,ht,rfl⟩:=aL0.mp he;obtain⟨x,y⟩:=v t (aK9 ht);simp[h9,tD,GY,mB,e9 x,e9 y];by_cases e:mk t.1 i=mk t.2 j
  ·rw[if_pos (by lia)];refine nx _ _ ⟨⟨_,_,rfl⟩,rfl,λk t' c o a =>?_⟩;by_cases z:k=n
   ·subst z;rw[ht]at a;cases a;exact e
   ·exact f k t' (by lia) o a
  ·rw[if_neg (by lia)];exact v5 ok rfl (q _ (.inr ⟨n,t,rfl,b,ht,e,λA t' p a =>f A t' p (by lia) a⟩))
 ·rintro g M ⟨⟨l,m,rfl⟩,rfl,f⟩;simp[iU];refine v5 ok rfl (q _ (.inl ⟨rfl,λk t c ht=>f k t ?_ c ht⟩));rw[oG];have:=(aK5.mp ht).1;simp
  lia
def tC(t:List Nat×List Nat):List Nat:=t.1++t.2
structure TL(x y:Ls)(t0:List Nat×List Nat)(tl:List (List Nat×List Nat)):Prop where
 hd:tl[0]? =some t0
 nb:∀t∈tl,Mk x.m t.1 t.2
 fn:∀t∈tl,Fnr (tC t0) (tC t)
 rs:∀p,mC x y p->K8 x.m p t0.1 t0.2->∀t∈tl,K8 x.m p t.1 t.2
 ln:tl.length<=400
def Stb(x y:Ls)(t:List Nat×List Nat):Prop:=¬t.1.Perm t.2\/∀i j,i<x.m->j<x.m->mk t.1 i=mk t.2 j->(tells x t.1 i).Perm (tells y t.2 j)
theorem wR(h:i<K1.length):fW (K1++K2) i=fW K1 i:=by simp[fW,List.getD,List.getElem?_append_left h]
theorem wQ(h:K1.length=m):fW (K1++K2) (m+j)=fW K2 j:=by
 subst h;simp[fW,List.getD,List.getElem?_append_right]
section
variable {x y:Ls}{a b:List Nat}{K1 K2:List D}(hm:y.m=x.m)(mk0:Mk x.m a b)(k1:qA x a K1)(k2:qA y b K2)
include hm mk0 k1 k2
theorem ER(hi:i<x.m+x.m):∃L,fW (K1++K2) i= .tup [.int (mk (a++b) i:Nat),.tup L]:=by
 by_cases h:i<x.m
 ·obtain⟨L,e,_⟩:=oD k1 h;exact⟨L,by rw[wR (by rw[k1.len];exact h),e,cK (by rw[mk0.la];exact h)]⟩
 ·obtain⟨j,rfl⟩:∃j,i=x.m+j:=⟨i-x.m,by lia⟩
  obtain⟨L,e,_⟩:=oD k2 (n:=j) (by lia);exact⟨L,by rw[wQ k1.len,e,oC mk0.la]⟩
theorem wD:(K1++K2).length=x.m+x.m:=by simp[k1.len,k2.len,hm]
theorem JO:Mk x.m (aI [] K1) (aI (K1.foldl aV []) K2):=wH k1.len (by rw[k2.len,hm])
theorem JP:Fnr (a++b) (aI [] K1++aI (K1.foldl aV []) K2):=λi j hi c e=>by
 have f:=wD hm mk0 k1 k2;rw[<-fD]at hi c e;rw[bO,f]at hi c;have d :=(eU (by lia) (by lia)).mp e;obtain⟨L,g⟩:=ER hm mk0 k1 k2 hi;obtain⟨k,h⟩:=ER hm mk0 k1 k2 c;rw[g,h]at d;simp at d
 lia
theorem VI:(aI [] K1++aI (K1.foldl aV []) K2)=a++b\/eqs (aI [] K1++aI (K1.foldl aV []) K2)<eqs (a++b):=by
 obtain⟨K,kl,e⟩:=mk0.nu;have fn:=JP hm mk0 k1 k2;have c:=wD hm mk0 k1 k2;rw[<-fD]at fn⊢;rw[e]at fn⊢;exact T2 (by lia) fn
theorem VH(e:(aI [] K1++aI (K1.foldl aV []) K2)=a++b)(hi:i<x.m)(k:j<x.m)(h:mk a i=mk b j):(tells x a i).Perm (tells y b j):=by
 have l:=wD hm mk0 k1 k2;rw[<-cK (a:=a) (b:=b) (by rw[mk0.la];exact hi),<-oC (a:=a) (b:=b) mk0.la,<-e,<-fD]at h;have h' :=(eU (by lia) (by lia)).mp h;rw[wR (by rw[k1.len];exact hi),wQ k1.len]at h';obtain⟨L,d,c,_⟩:=oD k1 hi;obtain⟨o,f,g,_⟩:=oD k2 (n:=j) (by lia);rw[d,f]at h';simp at h';rw[h'.2]at c;exact c.symm.trans g
end
theorem TL.snoc{t0 l:List Nat×List Nat}(h:TL x y t0 (tl++[l]))(c:fB x)(hm:y.m=x.m)(k1:qA x l.1 K1)(k2:qA y l.2 K2)(d:tl.length+2<=400):TL x y t0 ((tl++[l])++[(aI [] K1,aI (K1.foldl aV []) K2)]):=by
 have a:l∈tl++[l]:=by simp
 have mk0:=h.nb l a;refine⟨?_,λt ht=>?_,λt ht=>?_,λp is r t ht=>?_,by simp;lia⟩
 ·rw[List.getElem?_append_left (by simp)];exact h.hd
 ·rcases aKi.mp ht with ht | ht
  ·exact h.nb t ht
  ·simp at ht;subst ht;exact JO hm mk0 k1 k2
 ·rcases aKi.mp ht with ht | ht
  ·exact h.fn t ht
  ·simp at ht;subst ht;have b:=JO hm mk0 k1 k2;exact(h.fn l a).trans (JP hm mk0 k1 k2) (by simp[tC,b.la,b.lb,mk0.la,mk0.lb])
 ·rcases aKi.mp ht with ht | ht
  ·exact h.rs p is r t ht
  ·simp at ht;subst ht;exact Q2 is c k1 k2 (h.rs p is r l a)
theorem aAs{a b c d:List Nat}(q:∀k:Bool,(k=true↔a=c/\b=d)->Q (.bl k) mh):oEq (GY a b) (GY c d) mh Q:=by
 have f:∀a b:List Nat,fP [D.tup (aE a),.tup (aE b)]=true/\bS [D.tup (aE a),.tup (aE b)]<=2:=λa b=>by
  have e:=iR a;have g:=iR b;refine⟨by simp[fP,cY,e.1,g.1],?_⟩;simp only[bS,deep]
  lia
 unfold GY;rw[YB];refine⟨dX (f a b).1,dX (f c d).1,by have:=(f a b).2;lia,q _ ?_⟩;rw[nX _ _ (f a b).1 (f c d).1];simp only[List.cons.injEq,D.tup.injEq,and_true];exact⟨λz=>⟨rE z.1,rE z.2⟩,λz=>by rw[z.1,z.2];exact⟨rfl,rfl⟩⟩
def Nxt(x y:Ls)(t t' :List Nat×List Nat):Prop:=∃K1 K2,qA x t.1 K1/\qA y t.2 K2/\t' =(aI [] K1,aI (K1.foldl aV []) K2)
theorem EO(h:qA x a K)(h' :qA x a K'):K=K' :=by
 refine List.ext_getElem? λn=>?_;by_cases b:n<x.m
 ·obtain⟨L,e,p,s⟩:=h.at_ n b;obtain⟨g,c,d,f⟩:=h'.at_ n b;rw[e,c,vK p s d f (List.Perm.refl _)]
 ·rw[List.getElem?_eq_none (by rw[h.len];lia),List.getElem?_eq_none (by rw[h'.len];lia)]
theorem A7{t u v:List Nat×List Nat}(h:Nxt x y t u)(h' :Nxt x y t v):u=v:=by
 obtain⟨K1,K2,k1,k2,rfl⟩:=h;obtain⟨c,d,a,b,rfl⟩:=h';rw[EO k1 a,EO k2 b]
inductive Run (x y:Ls):List Nat×List Nat->List (List Nat×List Nat)->List Nat×List Nat->Prop where
 | stop (t:List Nat×List Nat):(¬t.1.Perm t.2\/Nxt x y t t)->Run x y t [] t
 | step {t t' l:List Nat×List Nat} {tl:List (List Nat×List Nat)}:t.1.Perm t.2->Nxt x y t t' ->t' ≠t->Run x y t' tl l->Run x y t (t::tl) l
theorem JG{t l:List Nat×List Nat}(h:Run x y t tl l):∀{tl' l'},Run x y t tl' l' ->tl=tl' /\l=l' :=by
 induction h with
 | stop t z=>
  intro tl' l' h'
  cases h' with
  | stop _ _=>exact⟨rfl,rfl⟩
  | step p n ne _=>
   rcases z with z | z
   ·exact absurd p z
   ·exact absurd (A7 n z) ne
 | step p n ne _ a=>
  intro tl' l' h'
  cases h' with
  | stop _ z=>
   rcases z with z | z
   ·exact absurd p z
   ·exact absurd (A7 n z) ne
  | step f b c h' =>
   cases A7 n b;obtain⟨d,e⟩:=a h';exact⟨by rw[d],e⟩
def OJ:OA:=λds mh Q=>∃(a b:Nat) (x y:Ls) (t0:List Nat×List Nat),ds=[.tup [.ref a,.ref b],tD t0]/\fB x/\fB y/\y.m=x.m/\HA mh a x/\HA mh b y/\Mk x.m t0.1 t0.2/\
 ∀tl l,TL x y t0 (tl++[l])->Stb x y l->Run x y t0 tl l->Q (.ref mh.length) (mh++[.lst ((tl++[l]).map tD)])
theorem A4(n:Nat):∀tl:List (List Nat×List Nat),aS n (tl.map tD)=true
 | []=>rfl
 | t::tl=>by simp[aS,bX,tD,GY,cG,A4 n tl]
theorem aJg(ds:List D)(mh:MH)(R:DK)(ok:fZ mh)(hs:OJ ds mh R):k9 nL tQ (En mh R) (aG ["sides","first","told","following"] ds) mh:=by
 obtain⟨h,m,x,y,t0,rfl,n,F,hm,G,H,mk0,q⟩:=hs;have sz:=aKc;have O:=n.m8
 have go:∀(k:Nat) (tl:List (List Nat×List Nat)) (l:List Nat×List Nat) (M:MH) (o:Option D),eqs (tC l)<=k->TL x y t0 (tl++[l])->(∀tl' l',Run x y l tl' l' ->Run x y t0 (tl++tl') l')->tl.length+k<=330->bD mh M->M[mh.length]? =some (.lst ((tl++[l]).map tD))->
   eI (fU (i8 (aC nL (aA (aM aX (aB 2) (NX v8 (wC (.int 1)))) aD)))) (jV nL tQ) {En mh R with nx:=d5 nL tQ (En mh R)} (k+1) [some (.tup [.ref h,.ref m]),some (tD t0),some (.ref mh.length),o] M:=by
  intro k
  induction k using Nat.strongRecOn with
  | ind k I=>
   intro tl l M o J T s P px g;have K:l∈tl++[l]:=by simp
   have a:=T.nb l K;have u:fY ((tl++[l]).map tD) (-1)=some (tD l):=by rw[List.map_append];exact uS _ _
   have v:Stb x y l->Run x y l [] l->d5 nL tQ (En mh R) [some (.tup [.ref h,.ref m]),some (tD t0),some (.ref mh.length),o] M:=λst d=>by
    simp[d5];exact px.uB ok (aK6 _) g (A4 _ _) (q tl l T st (by have:=s [] l d;rwa [List.append_nil]at this))
   have f :∀B,Stb x y l->Run x y l [] l->d5 nL tQ (En mh R) [some (.tup [.ref h,.ref m]),some (tD t0),some (.ref mh.length),B] M:=λB st d=>by
    simp[d5];exact px.uB ok (aK6 _) g (A4 _ _) (q tl l T st (by have:=s [] l d;rwa [List.append_nil]at this))
   rw[eI];simp;rw[cA g,u];simp only[aH];refine⟨l.1,l.2,rfl,by rw[a.la];lia,by rw[a.lb];lia,λc b=>?_⟩
   cases c with
   | true=>
    exact v (.inl (b.mp rfl)) (.stop _ (.inl (b.mp rfl)))
   | false=>
    simp[jV];rw[cA g,u];simp only[aH];refine⟨h,m,x,y,l.1,l.2,rfl,n,F,a.la,by rw[a.lb,hm],G.px px,H.px px,λK1 K2 k1 k2=>?_⟩;simp[lP];rw[cA g,u];simp only[aH];refine aAs λc w=>?_
    cases c with
    | true=>
     simp;obtain⟨C,E⟩:=w.mp rfl;exact f _ (.inr λi j hi L e=>VH hm a k1 k2 (by rw[C,E]) hi L e) (.stop _ (.inr ⟨K1,K2,k1,k2,by rw[C,E]⟩))
    | false=>
     simp[lO,l9];refine⟨⟨_,g⟩,?_⟩;rw[dS g]
     have lt:eqs (aI [] K1++aI (K1.foldl aV []) K2)<k:=by
      rcases VI hm a k1 k2 with z | z
      ·have:=List.append_inj z (by rw[bO,k1.len,a.la]);exact absurd (w.mpr this) aLa
      ·exact aKh z J
     refine⟨by simp;lia,?_⟩
     obtain⟨A,rfl⟩:∃A,k=A +1:=⟨k-1,by lia⟩
     refine I A (aL2 _) (tl++[l]) (aI [] K1,aI (K1.foldl aV []) K2) _ _ (Nat.le_of_lt_succ lt) (T.snoc n hm k1 k2 (by lia)) (λtl' l' d=>?_) (by simp;lia) (px.set (aK6 _) _) ?_
     ·rw[List.append_assoc];exact s _ l' (.step (aKf λN=>aLa (b.mpr N)) ⟨K1,K2,k1,k2,rfl⟩ (λz=>aLa (w.mpr ⟨aL4 Prod.fst z,aL4 Prod.snd z⟩)) d)
     ·rw[bK _ g,List.map_append (l₁:=tl++[l])];rfl
 have Q:eqs (tC t0)<=324:=by
  refine aKr aCl ?_;have:(tC t0).length<=18:=by simp[tC,mk0.la,mk0.lb];lia
  exact Nat.mul_le_mul this this
 simp[k9,qE,aG];refine⟨by lia,k5 (eqs (tC t0)+1) (go _ [] t0 _ _ (aK6 _) ⟨rfl,?_,?_,?_,by simp⟩ (λ_ _ z=>z) (by simp;lia) (bD.refl.push _) (by simp))⟩
 ·intro t ht;simp at ht;subst ht;exact mk0
 ·intro t ht;simp at ht;subst ht;exact λi j _ _ e=>e
 ·intro p is r t ht;simp at ht;subst ht;exact r
theorem wA(c:K1.length=m)(e:K2.length=m)(hi:i<m)(f:j<m):mk (aI [] K1) i=mk (aI (K1.foldl aV []) K2) j↔fW K1 i=fW K2 j:=by
 have d:(aI [] K1).length=m:=by rw[bO,c]
 rw[<-cK (a:=aI [] K1) (b:=aI (K1.foldl aV []) K2) (by lia),<-oC (a:=aI [] K1) (b:=aI (K1.foldl aV []) K2) d,<-fD];rw[eU (by simp;lia) (by simp;lia),wR (by lia),wQ c]
def GV(a:List Nat)(i:Nat):Bool:=(List.range a.length).any λj=>decide (j≠i) && decide (mk a j=mk a i)
def JM(a:List Nat):Nat:=(List.range a.length).countP (GV a)
theorem fO:GV a i=true↔∃j,j<a.length/\j≠i/\mk a j=mk a i:=by
 simp only[GV,List.any_eq_true,List.mem_range,Bool.and_eq_true,decide_eq_true_eq]
theorem sI(h:i<a.length):fW (bH a n) i= .tup [.int (mk a i:Nat),.bl (decide (i=n))]:=by simp[fW,bH,List.getD,h]
theorem k3(a:List Nat)(n:Nat):(bH a n).length=a.length:=by simp[bH]
theorem NV(hi:i<a.length)(b:j<a.length):mk (aI [] (bH a n)) i=mk (aI [] (bH a n)) j↔mk a i=mk a j/\(i=n↔j=n):=by
 rw[eU (by rw[k3];exact hi) (by rw[k3];exact b),sI hi,sI b];simp only[D.tup.injEq,List.cons.injEq,D.int.injEq,D.bl.injEq,and_true,decide_eq_decide];exact and_congr_left' (by lia)
theorem PF(c:n<a.length)(h:GV a n=true):JM (aI [] (bH a n))<JM a:=by
 unfold JM;have l:(aI [] (bH a n)).length=a.length:=by rw[bO,k3]
 rw[l];refine oI (λi hi z=>?_) ⟨n,by simpa using c,h,?_⟩
 ·obtain⟨j,b,ne,e⟩:=fO.mp z;rw[l]at b;exact fO.mpr ⟨j,b,ne,((NV b (by simpa using hi)).mp e).1⟩
 ·rw[<-Bool.not_eq_true,fO];rintro⟨j,b,ne,e⟩;rw[l]at b;exact ne (((NV b c).mp e).2.mpr rfl)
theorem map_mk(a:List Nat):(List.range a.length).map (mk a)=a:=by
 refine aNm (by simp) λi c b=>?_;simp[mk,List.getD,b]
theorem CT(hi:i<a.length)(h:1<a.count (mk a i)):GV a i=true:=by
 refine aKf λc=>?_;have d:∀j,j<a.length->mk a j=mk a i->j=i:=λj b e=>aKf λne=>c (fO.mpr ⟨j,b,ne,e⟩)
 have e:a.count (mk a i)=(List.range a.length).countP λj=>decide (mk a j=mk a i):=by
  have z:=aL4 (List.count (mk a i)) (map_mk a);rw[<-z,List.count,List.countP_map];congr 1
 have f:((List.range a.length).countP λj=>decide (mk a j=mk a i))<=(List.range a.length).countP λj=>j==i:=List.countP_mono_left λj b z=>by
  simp only[decide_eq_true_eq]at z;simpa using d j (by simpa using b) z
 have g:((List.range a.length).countP λj=>j==i)<=1:=List.nodup_iff_count.mp aM1 i
 lia
theorem uV:i∈mD a↔i<a.length/\1<a.count (mk a i):=by simp[mD]
theorem XU(h:mD a=[]):a.Nodup:=by
 rw[List.nodup_iff_count];intro v;by_cases b:v∈a
 ·obtain⟨i,hi,e⟩:=List.getElem_of_mem b;have c :mk a i=v:=by simp[mk,List.getD,hi,e]
  refine aKf λd=>?_;have:i∈mD a:=uV.mpr ⟨hi,by rw[c];lia⟩;rw[h]at this;simp at this
 ·rw[List.count_eq_zero.mpr b];lia
theorem OK(pm:p.Perm (List.range m))(la:a.length=m)(lb:b.length=m)(r:K8 m p a b):a.Perm b:=by
 have c:a=p.map (mk b):=by
  rw[<-map_mk a,la,<-pX pm,List.map_map];refine aKo λi hi=>?_;exact(r i (by simpa using hi)).symm
 rw[c];refine(pm.map (mk b)).trans ?_;rw[<-lb,map_mk]
def rA(p:List Nat):D:= .tup [.str "one",.tup (aE p)]
def xT(d:D):Prop:=∃(z:Str) (es:List D),d= .tup (.str z::es)/\(z== "one")=false/\∀n,aS n es=true
theorem xT.refs(h:xT d)(n:Nat):bX n d=true:=by
 obtain⟨z,es,rfl,_,h⟩:=h;simp[bX,aS,h n]
theorem q5(p:List Nat)(n:Nat):bX n (rA p)=true:=by simp[rA,bX,aS,cG]
structure TW(x y:Ls)(t0:List Nat×List Nat)(tl:List (List Nat×List Nat))(l:List Nat×List Nat):Prop where
 T:TL x y t0 (tl++[l])
 st:Stb x y l
 nm:∀i j,i<x.m->j<x.m->mk t0.1 i=mk t0.2 j->bI x.ns i=bI y.ns j
mutual
inductive YV (x y:Ls):List (List Nat×List Nat)->List Nat×List Nat->D->Prop where
 | marks {tl:List (List Nat×List Nat)} {l:List Nat×List Nat}:¬l.1.Perm l.2->YV x y tl l (.tup [.str "marks",.int (tl.length:Nat)])
 | tries {tl:List (List Nat×List Nat)} {l:List Nat×List Nat} {i0:Nat} {rest:List Nat} {ps:List D}:l.1.Perm l.2->mD l.1=i0::rest->ps.length=x.m->(∀j d,ps[j]? =some d->Trd x y tl l i0 j d)->YV x y tl l (.tup [.str "tries",.int (i0:Nat),.tup ps])
inductive Trd (x y:Ls):List (List Nat×List Nat)->List Nat×List Nat->Nat->Nat->D->Prop where
 | marks {tl:List (List Nat×List Nat)} {l:List Nat×List Nat} {i j:Nat} {k:Nat}:Rtp (tl++[l]) i j (.int (k:Nat))->Trd x y tl l i j (.tup [.str "marks",.int (k:Nat)])
 | goes {tl tl' :List (List Nat×List Nat)} {l t0 l' :List Nat×List Nat} {i j:Nat} {d:D}:Rtp (tl++[l]) i j .b8->(tl++[l])[0]? =some t0->Run x y (aI [] (bH t0.1 i),aI ((bH t0.1 i).foldl aV []) (bH t0.2 j)) tl' l' ->YV x y tl' l' d->Trd x y tl l i j d
end
def DU(n:Nat):OA:=λds mh Q=>∃(a b r:Nat) (x y:Ls) (t0:List Nat×List Nat) (tl:List (List Nat×List Nat)) (l:List Nat×List Nat),ds=[.tup [.ref a,.ref b],.ref r]/\fB x/\fB y/\y.m=x.m/\HA mh a x/\HA mh b y/\mh[r]? =some (.lst ((tl++[l]).map tD))/\TW x y t0 tl l/\JM t0.1<n/\
 ∀d,((∃p,d=rA p/\mC x y p)\/(xT d/\YV x y tl l d/\∀p,mC x y p->¬K8 x.m p t0.1 t0.2))->Q d mh
def OH(n:Nat):OA:=λds mh Q=>∃(a b r i j:Nat) (x y:Ls) (t0:List Nat×List Nat) (tl:List (List Nat×List Nat)) (l:List Nat×List Nat),ds=[.tup [.ref a,.ref b],.ref r,.int (i:Nat),.int (j:Nat)]/\fB x/\fB y/\y.m=x.m/\HA mh a x/\HA mh b y/\mh[r]? =some (.lst ((tl++[l]).map tD))/\TW x y t0 tl l/\JM t0.1<n+1/\i∈mD l.1/\j<x.m/\
 ∀d,((∃p,d=rA p/\mC x y p)\/(xT d/\Trd x y tl l i j d/\∀p,mC x y p->K8 x.m p t0.1 t0.2->mk p i≠j))->Q d mh
theorem WQ(n:Nat)(ds:List D)(mh:MH)(R:DK)(ok:fZ mh)(hs:OH n ds mh R):uJ LP (DU n) OJ sWN (En mh R) (aG ["sides","told","net","other_net","rounds"] ds) mh:=by
 obtain⟨F,G,r,i,j,x,y,t0,tl,l,rfl,o,H,hm,I,J,K,W,hn,hi,Q,q⟩:=hs;have sz:=aKc;have m9:=o.m8;have L:l∈tl++[l]:=by simp
 have c:=W.T.nb l L;have s:t0∈tl++[l]:=aK9 W.T.hd;have m0:=W.T.nb t0 s;obtain⟨a,w⟩:=uV.mp hi;rw[c.la]at a;simp[uJ,aG];refine⟨r,i,j,tl++[l],rfl,K,by have:=W.T.ln;lia,λt ht=>by have:=W.T.nb t ht;rw[this.la,this.lb];exact⟨a,Q⟩,λd hd=>?_⟩;have f:=hd
 rcases hd with ⟨rfl,_⟩ | ⟨k,t,rfl,S,A,ne,_⟩
 ·have U:fY ((tl++[l]).map tD) 0=some (tD t0):=bZ (j:=0) (by rw[List.getElem?_map,W.T.hd];rfl);simp[rX,pE,tV,yU];rw[cA K,U];simp only[aH];refine⟨t0.1,t0.2,i,j,rfl,by rw[m0.la];lia,by rw[m0.lb];lia,?_⟩;refine⟨F,G,x,y,(aI [] (bH t0.1 i),aI ((bH t0.1 i).foldl aV []) (bH t0.2 j)),rfl,o,H,hm,I,J,wH (by rw[k3,m0.la]) (by rw[k3,m0.lb]),λtl' l' V B C =>?_⟩;have px:bD mh (mh++[.lst ((tl' ++[l']).map tD)]):=bD.refl.push _;have M:(bH t0.1 i).length=x.m:=by rw[k3,m0.la]
  have N:(bH t0.2 j).length=x.m:=by rw[k3,m0.lb]
  have X:GV t0.1 i=true:=by
   obtain⟨k,g,ne,e⟩:=fO.mp (CT (by rw[c.la];exact a) w);rw[c.la]at g;have:=W.T.fn l L k i (by simp[tC,c.la];lia) (by simp[tC,c.la];lia) (by rw[tC,cK (by rw[c.la];exact g),cK (by rw[c.la];exact a)];exact e);rw[tC,cK (by rw[m0.la];exact g),cK (by rw[m0.la];exact a)]at this;exact fO.mpr ⟨k,by rw[m0.la];exact g,ne,this⟩
  refine⟨F,G,mh.length,x,y,_,tl',l',rfl,o,H,hm,I.px px,J.px px,aJ _ _,⟨V,B,λu v b E e=>?_⟩,?_,λd hd=>?_⟩
  ·have O :=(wA M N b E).mp e;rw[sI (by rw[m0.la];exact b),sI (by rw[m0.lb];exact E)]at O;simp at O;exact W.nm u v b E (by lia)
  ·have:=PF (by rw[m0.la];exact a) X;show JM (aI [] (bH t0.1 i))<n
   lia
  ·rcases hd with ⟨p,rfl,is⟩ | ⟨P,pt,h⟩
   ·exact px.out ok (q5 p _) (q _ (.inl ⟨p,rfl,is⟩))
   ·refine px.out ok (P.refs _) (q _ (.inr ⟨P,.goes f W.T.hd C pt,λp is rs e=>h p is ?_⟩));refine vX is.pm M N λu b=>?_;have Y:=jP is.pm b;have Z:fW (bH t0.1 i) u=_:=sI (by rw[m0.la];exact b);have kp:fW (bH t0.2 j) (mk p u)=_:=sI (by rw[m0.lb];exact Y);rw[Z,kp,rs u b];have:(mk p u=j)=(u=i):=propext ⟨λz=>mk_inj is.pm b a (by rw[z,e]),λz=>by rw[z,e]⟩;simp only[this]
 ·simp[rX,pE,tV];refine⟨by lia,bU (q _ (.inr ⟨⟨"marks",[.int (k:Nat)],rfl,by decide,λn=>rfl⟩,.marks f,λp is rs e=>ne ?_⟩))⟩;have:=W.T.rs p is rs t (aK9 A) i a;rw[e]at this;exact this.symm
theorem zX{v:Nat}:∀{b:List Nat},v∈b->(aE b).findIdx? (λy=>eB y (.int (v:Nat)))=some (b.idxOf v)
 | [],h=>by simp at h
 | u::b,h=>by
  have e:aE (u::b)= .int (u:Nat)::aE b:=rfl;rw[e,List.findIdx?_cons,List.idxOf_cons];by_cases z:u=v
  ·subst z;simp[eB]
  ·have a:v∈b:=by rcases aKd.mp h with q | q;exact absurd q.symm z;exact q
   have c:eB (.int (u:Nat)) (.int (v:Nat))=false:=by simp[eB];lia
   have d:(u==v)=false:=by simpa using z
   rw[c,d,zX a];simp
theorem zW:∀b:List Nat,(aE b).all tX=true
 | []=>rfl
 | u::b=>by
  have e:aE (u::b)= .int (u:Nat)::aE b:=rfl;rw[e,List.all_cons,zW b];rfl
theorem aDu{z:Str}{es:List D}(q:Q (.str z) mh):aX (.tup (.str z::es)) (.int 0) mh Q:=by
 have:fY (D.str z::es) 0=some (.str z):=bZ (j:=0) rfl;simp[this];exact q
theorem sA{n:Nat}{d:D}:∀{ps:List D},aS n ps=true->bX n d=true->aS n (ps++[d])=true
 | [],_,h=>by simp[aS,h]
 | e::ps,h1,h2=>by
  simp only[aS,Bool.and_eq_true,List.cons_append]at h1⊢;exact⟨h1.1,sA h1.2 h2⟩
variable{t0:List Nat×List Nat}{a5 a6:Option D}
theorem HF{k o r:Nat}{l:List Nat×List Nat}(ok:fZ mh)(E:fB x)(J:fB y)(hm:y.m=x.m)(K:HA mh k x)(L:HA mh o y)(O:mh[r]? =some (.lst ((tl++[l]).map tD)))(W:TW x y t0 tl l)(P:JM t0.1<n+1)
  (q:∀d,((∃p,d=rA p/\mC x y p)\/(xT d/\YV x y tl l d/\∀p,mC x y p->¬K8 x.m p t0.1 t0.2))->R d mh) (pm:l.1.Perm l.2) {i0:Nat} {rest:List Nat} (ha:mD l.1=i0::rest):
  mG nL S3 (OH n) (En mh R) [some (.tup [.ref k,.ref o]),some (.ref r),some (tD l),some (.ref mh.length),some (.ref (mh.length+1)),a5,a6] (mh++[.lst (aE (mD l.1))]++[.lst []]):=by
 have sz:=aKc;have Y:=E.m8;have F:=W.T.nb l (by simp);have f:i0∈mD l.1:=by rw[ha];simp
 have v:i0<x.m:=by rw[<-F.la];exact(uV.mp f).1
 have G:fY (aE (mD l.1)) 0=some (.int (i0:Nat)):=by rw[ha];exact bZ (j:=0) rfl
 have H:bD mh (mh++[.lst (aE (mD l.1))]++[.lst []]):=(bD.refl.push _).push _;have b:(mh++[MO.lst (aE (mD l.1))]++[MO.lst []])[mh.length]? =some (.lst (aE (mD l.1))):=aK (aJ _ _)
 have a:(mh++[MO.lst (aE (mD l.1))]++[MO.lst []])[mh.length+1]? =some (.lst []):=by
  have:=aJ (mh++[MO.lst (aE (mD l.1))]) (MO.lst []);simpa using this
 generalize mh++[MO.lst (aE (mD l.1))]++[MO.lst []]=Z at H b a⊢;have Q:(aE l.2).length=x.m:=by simp[aE,F.lb]
 simp[mG,tD,GY,mB];refine⟨by lia,?_⟩;rw[Q];refine cH (λi w M=>(∃a5 a6,w=[some (.tup [.ref k,.ref o]),some (.ref r),some (tD l),some (.ref mh.length),some (.ref (mh.length+1)),a5,a6])/\bD mh M/\M[mh.length]? =some (.lst (aE (mD l.1)))/\∃ps:List D,M[mh.length+1]? =some (.lst ps)/\ps.length=i/\(∀n,aS n ps=true)/\(∀j d,ps[j]? =some d->Trd x y tl l i0 j d)/\∀p,mC x y p->K8 x.m p t0.1 t0.2->∀j,j<i->mk p i0≠j) _ (λ_ _ _ _=>trivial) ?_ ?_ ⟨⟨_,_,rfl⟩,H,b,[],a,rfl,λ_=>rfl,λj d hd=>by simp at hd,λ_ _ _ j s=>absurd s (aMn _)⟩
 ·rintro i d w M N hi ⟨⟨a5,a6,rfl⟩,px,b,ps,a,g,t,c,u⟩ nx;obtain⟨I,rfl⟩:=jO hi;have S:(0:Int)+(i:Nat)=(i:Nat):=by lia
  rw[S];simp[qC];rw[cA b,G];simp only[aH];refine⟨k,o,r,i0,i,x,y,t0,tl,l,rfl,E,J,hm,K.px px,L.px px,px.old O,W,P,f,by lia,λd hd=>?_⟩
  rcases hd with ⟨p,rfl,is⟩ | ⟨A,U,h⟩
  ·simp[iT,rA];exact px.out ok (q5 p _) (q _ (.inl ⟨p,rfl,is⟩))
  ·obtain⟨z,es,rfl,hz,B⟩:=A;have C :fY (D.str z::es) 0=some (.str z):=bZ (j:=0) rfl;simp[iT,C,hz,mF,l9];refine⟨⟨_,a⟩,?_⟩;rw[dS a];refine⟨by lia,nx _ _ ⟨⟨_,_,rfl⟩,px.set (by lia) _,get_set b (by lia),ps++[.tup (.str z::es)],bK _ a,by simp[g],λn=>?_,λj d hd=>?_,λp is rs j s=>?_⟩⟩
   ·exact sA (t n) (by simp[bX,aS,B n])
   ·by_cases e:j<ps.length
    ·rw[List.getElem?_append_left e]at hd;exact c j d hd
    ·have s:=(aK5.mp hd).1;simp at s;have V:j=ps.length:=by lia
     subst V;simp at hd;subst hd;rw[g];exact U
   ·by_cases e:j=i
    ·subst e;exact h p is rs
    ·exact u p is rs j (by lia)
 ·rintro w M ⟨⟨a5,a6,rfl⟩,px,b,ps,a,g,t,c,u⟩;have X:(fA 0 x.m).length=x.m:=by simp
  rw[X]at g u;simp[sV];rw[cA b,G];simp only[aH];rw[bE a];simp only[aH];refine⟨by lia,px.out ok (by simp[bX,aS,t]) (q _ (.inr ⟨⟨"tries",[.int (i0:Nat),.tup ps],rfl,by decide,λn=>by simp[bX,aS,t]⟩,.tries pm ha g c,λp is rs=>u p is rs _ (jP is.pm v) rfl⟩))⟩
theorem ML(n:Nat)(ds:List D)(mh:MH)(R:DK)(ok:fZ mh)(hs:DU (n+1) ds mh R):oA nL S3 (OH n) (En mh R) (aG ["sides","told","last","alike","papers","net","paper"] ds) mh:=by
 obtain⟨G,H,r,x,y,t0,tl,l,rfl,b,s,hm,t,w,d,W,A,q⟩:=hs;have sz:=aKc;have I:=b.m8;have f:l∈tl++[l]:=by simp
 have a:=W.T.nb l f;have g:t0∈tl++[l]:=aK9 W.T.hd;have m0:=W.T.nb t0 g;have B:fY ((tl++[l]).map tD) (-1)=some (tD l):=by rw[List.map_append];exact uS _ _
 simp[oA,aG];rw[cA d,B];simp only[aH];simp[sZ];refine⟨l.1,l.2,rfl,by rw[a.la];lia,by rw[a.lb];lia,λc h=>?_⟩
 cases c with
 | true=>
  simp[eJ];rw[lI d];simp;refine⟨by lia,bU (q _ (.inr ⟨⟨"marks",_,rfl,by decide,λn=>rfl⟩,.marks (h.mp rfl),λp is rs=>h.mp rfl ?_⟩))⟩;exact OK is.pm a.la a.lb (W.T.rs p is rs l f)
 | false=>
  have pm:l.1.Perm l.2:=aKf λC=>aLa (h.mpr C);simp[eJ,sY,tD,GY];refine⟨l.1,rfl,by rw[a.la];lia,?_⟩;simp[sX,eJ];by_cases ha:mD l.1=[]
  ·rw[if_pos (by rw[ha];rfl)];have st:∀M:MH,bC M (.tup (aE l.1))=some (aE l.1):=λ_=>rfl;rw[st];simp only[aH];refine fF (λv=>D.int (v:Nat)) (λv=>l.2.idxOf v) (λv=>.int (v:Nat)) l.1 rfl (λv E N hN=>?_) ?_
   ·have F:=zX (pm.mem_iff.mp E);simp[iP,mB,l9];exact⟨_,_,_,rfl,rfl,zW _,rfl,F,hN⟩
   ·rw[bE (aJ _ _)];simp only[aH];have nd:=XU ha;refine⟨by lia,?_⟩;refine((bD.refl.push _).push _).out ok (q5 (lead l.1 l.2) _) (q _ (.inl ⟨lead l.1 l.2,rfl,?_⟩));refine sound b s hm a.la a.lb (λi j hi k e=>W.nm i j hi k ?_) (λi j hi k e=>?_) nd pm
    ·have:=W.T.fn l f i (x.m+j) (by simp[tC,a.la];lia) (by simp[tC,a.la,a.lb];lia) (by rw[tC,cK (by rw[a.la];exact hi),oC a.la];exact e);rw[tC,cK (by rw[m0.la];exact hi),oC m0.la]at this;exact this
    ·rcases W.st with z | z
     ·exact absurd pm z
     ·exact z i j hi k e
  ·rw[if_neg λz=>ha (by cases hz:mD l.1 with | nil=>rfl | cons u v=>rw[hz]at z;cases z)]
   obtain⟨i0,rest,o⟩:∃i0 rest,mD l.1=i0::rest:=by
    cases hz:mD l.1 with
    | nil=>exact absurd hz ha
    | cons u v=>exact⟨u,v,rfl⟩
   simp[sW];have:=HF (a5:=none) (a6:=none) ok b s hm t w d W A q pm o;simpa[tD,GY] using this
theorem MX{l:List Nat×List Nat}(n:fB x)(hm:y.m=x.m)(o:t0.1=aI [] (bA x))(T:TL x y t0 (tl++[l]))(f:Few x):(mD l.1).length<=8:=by
 have r:=n.m8;have a:=T.nb l (by simp);have c:t0∈tl++[l]:=aK9 T.hd;have m0:=T.nb t0 c
 have le:(mD l.1).length=(List.range x.m).countP λi=>decide (1<l.1.count (mk l.1 i)):=by
  rw[mD,a.la,List.countP_eq_length_filter]
 rcases f with f | ⟨i,hi,f⟩
 ·rw[le];have:=aN1 (p:=λi=>decide (1<l.1.count (mk l.1 i))) (l:=List.range x.m);simp at this
  lia
 ·have lt:((List.range x.m).countP λi=>decide (1<l.1.count (mk l.1 i)))<(List.range x.m).countP λ_=>true:=by
   refine oI (λ_ _ _=>rfl) ⟨i,by simpa using hi,rfl,?_⟩;refine aLg λh=>?_;obtain⟨k,b,ne,e⟩:=fO.mp (CT (by rw[a.la];exact hi) h);rw[a.la]at b;have:=T.fn l (by simp) k i (by simp[tC,a.la];lia) (by simp[tC,a.la];lia) (by rw[tC,cK (by rw[a.la];exact b),cK (by rw[a.la];exact hi)];exact e);rw[tC,cK (by rw[m0.la];exact b),cK (by rw[m0.la];exact hi),o]at this;have d:=(eU (by simp[bA];exact b) (by simp[bA];exact hi)).mp this;have g:∀{j:Nat},j<x.m->fW (bA x) j= .tup (bI x.ns j):=λq=>by simp[fW,bA,List.getD,q]
   rw[g b,g hi]at d;exact ne (f k b (by injection d))
  have:((List.range x.m).countP λ_=>true)=x.m:=by simp
  lia
noncomputable def aCi(x y:Ls):List Nat×List Nat:=(aI [] (bA x),aI ((bA x).foldl aV []) (bA y))
def Y5(d:D):D:= .tup [.str "two",d]
def HP(x y:Ls)(d:D):Prop:=(∃p,d=rA p/\mC x y p)\/∃e tl l,d=Y5 e/\(∀n,bX n e=true)/\Run x y (aCi x y) tl l/\YV x y tl l e/\∀p,¬mC x y p
def lZ:OA:=λds mh Q=>∃x y:Ls,ds=[dE x,dE y]/\fB x/\fB y/\Few x/\y.m=x.m/\x.sw.length=y.sw.length/\∀d,HP x y d->Q d mh
theorem PH(a:List Nat):JM a<=a.length:=by
 unfold JM;refine aKr aN1 ?_;simp
theorem aCd(ds:List D)(mh:MH)(R:DK)(ok:fZ mh)(hs:lZ ds mh R):AO GJ pV OJ pW nL S3 (DU 12) (En mh R) (aG ["one","other","sides","told","paper"] ds) mh:=by
 obtain⟨x,y,rfl,a,f,F4,hm,J,q⟩:=hs;have sz:=aKc;have P:=a.m8;have r:(bA x).length=x.m:=by simp[bA]
 have B:(bA y).length=x.m:=by simp[bA,hm]
 simp[AO,aG];refine⟨x,y,rfl,a,f,hm.symm,J,?_⟩;simp[eJ,DA];refine⟨x,y,rfl,a,f,λM s t px C E=>?_⟩;simp[C9];refine⟨x,y,rfl,a,f,?_⟩;have mk0:Mk x.m (aI [] (bA x)) (aI ((bA x).foldl aV []) (bA y)):=wH r B;refine⟨s,t,x,y,(aI [] (bA x),aI ((bA x).foldl aV []) (bA y)),rfl,a,f,hm,C,E,mk0,λtl l T st K=>?_⟩;have b:bD mh (M++[.lst ((tl++[l]).map tD)]):=px.push _;have g:(M++[MO.lst ((tl++[l]).map tD)])[M.length]? =some (.lst ((tl++[l]).map tD)):=aJ _ _;have F:fY ((tl++[l]).map tD) (-1)=some (tD l):=by rw[List.map_append];exact uS _ _
 have u:=T.nb l (by simp);have h :=C.px (bD.refl.push (MO.lst ((tl++[l]).map tD)));have k :=E.px (bD.refl.push (MO.lst ((tl++[l]).map tD)));generalize M++[MO.lst ((tl++[l]).map tD)]=M2 at b g h k ⊢
 have n:∀v,bD M2 v->vE GJ pV OJ pW nL S3 (DU 12) (En mh R) [some (dE x),some (dE y),some (.tup [.ref s,.ref t]),some (.ref M.length),none] v:=λv o=>by
  simp[vE];refine⟨s,t,M.length,x,y,_,tl,l,rfl,a,f,hm,h.px o,k.px o,o.old g,⟨T,st,λi j hi L e=>?_⟩,?_,λd hd=>?_⟩
  ·have G :=(wA r B hi L).mp e;have w :j<y.m:=by lia
   have k1:fW (bA x) i= .tup (bI x.ns i):=by simp[fW,bA,List.getD,hi]
   have k2:fW (bA y) j= .tup (bI y.ns j):=by simp[fW,bA,List.getD,w]
   rw[k1,k2]at G;injection G
  ·have:=PH (aI [] (bA x));rw[bO,r]at this;show JM (aI [] (bA x))<12
   lia
  ·rcases hd with ⟨p,rfl,is⟩ | ⟨H,pt,N⟩
   ·simp[vD,rA];exact(b.trans o).out ok (q5 p _) (q _ (.inl ⟨p,rfl,is⟩))
   ·have I:=H.refs;obtain⟨z,es,rfl,hz,_⟩:=H;have A :fY (D.str z::es) 0=some (.str z):=bZ (j:=0) rfl;simp[vD,A,hz];refine⟨by lia,(b.trans o).out ok (show (true && (bX mh.length (.tup (.str z::es)) && true))=true by rw[I];rfl) (q _ (.inr ⟨_,tl,l,rfl,I,K,pt,λp is=>N p is (MG is a f)⟩))⟩
 simp[C8];rw[cA g,F];simp only[aH];refine⟨l.1,l.2,rfl,by rw[u.la];lia,by rw[u.lb];lia,λc Q=>?_⟩
 cases c with
 | true=>
  simp[eJ];exact n M2 bD.refl
 | false=>
  simp[eJ];rw[cA g,F];simp[tD,GY];refine⟨l.1,rfl,by rw[u.la];lia,?_⟩;dsimp only;rw[lI (aJ _ _)];have:=MX a hm rfl T F4;have O:(aE (mD l.1)).length=(mD l.1).length:=by simp[aE]
  rw[O];simp;rw[if_neg (by lia)];exact n _ (bD.refl.push _)
def YC:OA:=λds mh Q=>∃i:Int,ds=[.int i]/\Q (.bl true) mh
theorem WN(ds:List D)(mh:MH)(R:DK)(ok:fZ mh)(hs:YC ds mh R):lA (En mh R) (aG ["thing"] ds) mh:=by
 obtain⟨i,rfl,q⟩:=hs;have a:("int":String)∈bT:=by decide
 have b:("bool":String)∈bT:=by decide
 have s1:vL "int" "int"=true:=by decide
 have s2:vL "int" "bool"=false:=by decide
 simp[lA,aG,Y4,a,b,s1,s2,FV];exact bU q
def SV:OA:=λds mh Q=>∃es:List D,ds=[.tup es,.int ((es.length:Nat):Int)]/\Q (.bl true) mh
theorem aFy(ds:List D)(mh:MH)(R:DK)(ok:fZ mh)(hs:SV ds mh R):gG (En mh R) (aG ["thing","many"] ds) mh:=by
 obtain⟨es,rfl,q⟩:=hs;have a:("tuple":String)∈bT:=by decide
 have s1:vL "tuple" "tuple"=true:=by decide
 simp[gG,aG,Y4,a,s1,FV];exact bU q
def YD:OA:=λds mh Q=>∃k:Nat,ds=[.tup [.str "marks",.int (k:Nat)],.int (k:Nat)]/\Q (.bl true) mh
theorem MR(ds:List D)(mh:MH)(R:DK)(ok:fZ mh)(hs:YD ds mh R):lC SV YC (En mh R) (aG ["thing","rounds"] ds) mh:=by
 obtain⟨k,rfl,q⟩:=hs;have sz:=aKc;simp[lC,aG];refine⟨_,rfl,?_⟩;simp[FV,mB];refine⟨_,rfl,?_⟩;simp[FV,cL,bare,bS,deep,cZ,eB];exact⟨by lia,bU q⟩
def UB:OA:=λds mh Q=>∃(i:Nat) (ps:List D),ds=[.tup [.str "tries",.int (i:Nat),.tup ps],.int (i:Nat),.int ((ps.length:Nat):Int)]/\Q (.bl true) mh
theorem MQ(ds:List D)(mh:MH)(R:DK)(ok:fZ mh)(hs:UB ds mh R):lB SV YC (En mh R) (aG ["thing","net","many"] ds) mh:=by
 obtain⟨i,ps,rfl,q⟩:=hs;have sz:=aKc;have d:∀a b c:D,fY [a,b,c] 2=some c:=λ_ _ _=>rfl;have e:∀a b c:D,D3.cutD [a,b,c] none (some 2)=[a,b]:=λa b c=>K3 _;simp[lB,aG];refine⟨_,rfl,?_⟩;simp[eJ,mB];refine⟨_,rfl,?_⟩;simp[eJ,qH,e,cL,bare,bS,deep,cZ,eB,d,FV];exact⟨by lia,_,rfl,bU q⟩
def ZP(n:Nat):OA:=λds mh Q=>∃(a b r:Nat) (x y:Ls) (t0:List Nat×List Nat) (tl:List (List Nat×List Nat)) (l:List Nat×List Nat) (d:D),ds=[.tup [.ref a,.ref b],.ref r,d]/\fB x/\fB y/\y.m=x.m/\HA mh a x/\HA mh b y/\mh[r]? =some (.lst ((tl++[l]).map tD))/\TL x y t0 (tl++[l])/\JM t0.1<n/\YV x y tl l d/\Q (.bl true) mh
def sIT(n:Nat):OA:=λds mh Q=>∃(a b r i j:Nat) (x y:Ls) (t0:List Nat×List Nat) (tl:List (List Nat×List Nat)) (l:List Nat×List Nat) (d:D),ds=[.tup [.ref a,.ref b],.ref r,.tup [.int (i:Nat),.int (j:Nat)],d]/\fB x/\fB y/\y.m=x.m/\HA mh a x/\HA mh b y/\mh[r]? =some (.lst ((tl++[l]).map tD))/\TL x y t0 (tl++[l])/\JM t0.1<n+1/\i∈mD l.1/\j<x.m/\Trd x y tl l i j d/\Q (.bl true) mh
theorem W2(n:Nat)(ds:List D)(mh:MH)(R:DK)(ok:fZ mh)(hs:sIT n ds mh R):qG LP YD (ZP n) OJ sWN (En mh R) (aG ["sides","told","nets","thing","net","other_net","rounds"] ds) mh:=by
 obtain⟨p,s,r,i,j,x,y,t0,tl,l,d,rfl,f,u,hm,v,w,z,T,K,hi,B,C,q⟩:=hs;have sz:=aKc;have L:=f.m8;have A:l∈tl++[l]:=by simp
 have b:=T.nb l A;have g:t0∈tl++[l]:=aK9 T.hd;have m0:=T.nb t0 g;obtain⟨a,h⟩:=uV.mp hi;rw[b.la]at a;simp[qG,aG,vC];refine⟨r,i,j,tl++[l],rfl,z,by have:=T.ln;lia,λt ht=>by have:=T.nb t ht;rw[this.la,this.lb];exact⟨a,B⟩,λe he=>?_⟩
 cases C with
 | marks c=>
  cases JH he c;simp[pS,pE,tV];exact⟨_,rfl,bU q⟩
 | goes hno h0 rn pt=>
  cases JH he hno;rw[T.hd]at h0;cases h0;have E:fY ((tl++[l]).map tD) 0=some (tD t0):=bZ (j:=0) (by rw[List.getElem?_map,T.hd];rfl);simp[pS,pE,tV,vB];rw[cA z,E];simp only[aH];refine⟨t0.1,t0.2,i,j,rfl,by rw[m0.la];lia,by rw[m0.lb];lia,?_⟩;refine⟨p,s,x,y,(aI [] (bH t0.1 i),aI ((bH t0.1 i).foldl aV []) (bH t0.2 j)),rfl,f,u,hm,v,w,wH (by rw[k3,m0.la]) (by rw[k3,m0.lb]),λtl' l' F G m =>?_⟩;obtain⟨H,I⟩:=JG rn m;subst H I;have px:∀o,bD mh (mh++[o]):=λo=>bD.refl.push o
  have J:GV t0.1 i=true:=by
   obtain⟨k,c,ne,e⟩:=fO.mp (CT (by rw[b.la];exact a) h);rw[b.la]at c;have:=T.fn l A k i (by simp[tC,b.la];lia) (by simp[tC,b.la];lia) (by rw[tC,cK (by rw[b.la];exact c),cK (by rw[b.la];exact a)];exact e);rw[tC,cK (by rw[m0.la];exact c),cK (by rw[m0.la];exact a)]at this;exact fO.mpr ⟨k,by rw[m0.la];exact c,ne,this⟩
  refine⟨p,s,mh.length,x,y,_,_,_,d,rfl,f,u,hm,v.px (px _),w.px (px _),aJ _ _,F,?_,pt,(px _).out ok rfl q⟩;have:=PF (by rw[m0.la];exact a) J;show JM (aI [] (bH t0.1 i))<n
  lia
theorem EX(n:Nat)(ds:List D)(mh:MH)(R:DK)(ok:fZ mh)(hs:ZP (n+1) ds mh R):iF nL YD S3 UB (sIT n) (En mh R) (aG ["sides","told","thing","last","alike","net","paper"] ds) mh:=by
 obtain⟨t,u,r,x,y,t0,tl,l,d,rfl,v,z,hm,A,B,i,T,C,pt,q⟩:=hs;have sz:=aKc;have L:=v.m8;have E:l∈tl++[l]:=by simp
 have h:=T.nb l E;have F:fY ((tl++[l]).map tD) (-1)=some (tD l):=by rw[List.map_append];exact uS _ _
 simp[iF,aG];rw[cA i,F];simp only[aH];simp[mR];refine⟨l.1,l.2,rfl,by rw[h.la];lia,by rw[h.lb];lia,λc w=>?_⟩
 cases pt with
 | marks G=>
  cases c with
  | false=>exact absurd (w.mpr G) aLa
  | true=>
   simp[eJ];rw[lI i];simp;exact⟨_,rfl,bU q⟩
 | tries pm ha pl ptr=>
  rename_i i0 rest ps
  cases c with
  | true=>exact absurd pm (w.mp rfl)
  | false=>
   have m:i0∈mD l.1:=by rw[ha];simp
   have f:fY (aE (mD l.1)) 0=some (.int (i0:Nat)):=by rw[ha];exact bZ (j:=0) rfl
   have H:∀a b c:D,fY [a,b,c] 2=some c:=λ_ _ _=>rfl;have I:(aE l.2).length=ps.length:=by simp[aE,h.lb,pl]
   simp[eJ,mQ,tD,GY];refine⟨l.1,rfl,by rw[h.la];lia,?_⟩;have g:bD mh (mh++[.lst (aE (mD l.1))]):=bD.refl.push _;have o:(mh++[MO.lst (aE (mD l.1))])[mh.length]? =some (.lst (aE (mD l.1))):=aJ _ _;have te:eJ (mh++[MO.lst (aE (mD l.1))]) (.ref mh.length)=some true:=by simp[eJ,ha,aE]
   generalize mh++[MO.lst (aE (mD l.1))]=M at g o te⊢;simp[mP,te];rw[cA o,f];simp[mB];rw[I];refine⟨i0,ps,rfl,?_⟩;simp[eJ,mO,H,bC];refine⟨by lia,?_⟩;refine cH (λ_ p s =>(∃a5 a6,p=[some (.tup [.ref t,.ref u]),some (.ref r),some (.tup [.str "tries",.int (i0:Nat),.tup ps]),some (tD l),some (.ref mh.length),a5,a6])/\s =M) _ (λ_ _ _ _=>by simp[bC]) ?_ ?_ ⟨⟨_,_,rfl⟩,rfl⟩
   ·rintro k e p s N J ⟨⟨a5,a6,rfl⟩,rfl⟩ nx;obtain⟨d,hd,rfl⟩:=oH J;have K:=(aK5.mp hd).1;simp[lR];rw[cA o,f];simp;refine⟨by lia,?_⟩;refine⟨t,u,r,i0,k,x,y,t0,tl,l,d,by simp,v,z,hm,A.px g,B.px g,g.old i,T,C,m,by lia,ptr k d hd,?_⟩;simp[eJ];exact nx _ _ ⟨⟨_,_,rfl⟩,rfl⟩
   ·rintro p s ⟨⟨a5,a6,rfl⟩,rfl⟩;simp[mN];exact g.out ok rfl q
theorem gE{b:Type}:∀(l:List b) (i:Nat) (h:i<l.length),(l[i]::l.eraseIdx i).Perm l
 | [],i,h=>by simp at h
 | a::l,0,h=>by simp
 | a::l,i+1,h=>by
  simp only[List.getElem_cons_succ,List.eraseIdx_cons_succ];exact(List.Perm.swap _ _ _).trans ((gE l i (by simpa using h)).cons a)
theorem zJ{b c:Type}(f:b->c):∀(l:List b) (i:Nat),(l.map f).eraseIdx i=(l.eraseIdx i).map f
 | [],i=>by simp
 | a::l,0=>by simp
 | a::l,i+1=>by simp[zJ f l i]
def OI:OA:=λds mh Q=>∃b m:Nat,ds=[.ref b,.int (m:Nat)]/\m<=9/\C1 mh b/\∀(p:List Nat) a,p.Perm (List.range m)->dH mh b a->Q (.ref a.length) (a++[.lst (aE p)])
theorem WX(ds:List D)(mh:MH)(R:DK)(ok:fZ mh)(hs:OI ds mh R):iJ bP (En mh R) (aG ["_law_bag_here","_law_many","_law_left","_law_found"] ds) mh:=by
 obtain⟨b,m,rfl,hm,v,q⟩:=hs;have sz:=aKc
 have go:∀(k:Nat) (l f:List Nat) (M:MH),l.length=k->f.length<=9-k->k<=9->(f++l).Perm (List.range m)->dF mh b M->M[mh.length]? =some (.lst (aE l))->M[mh.length+1]? =some (.lst (aE f))->
   eI (cU (aM D8 (aC fT (aA (aB 2) aD)) (wC (.int 0)))) (hG bP) {En mh R with nx:=iW bP (En mh R)} (k+1) [some (.ref b),some (.int (m:Nat)),some (.ref mh.length),some (.ref (mh.length+1))] M:=by
  intro k
  induction k with
  | zero=>
   intro l f M n w _ pm j a c;have e:l=[]:=List.length_eq_zero_iff.mp n;subst e;simp only[eI];simp;rw[lI a];simp[aE,iW];rw[List.append_nil]at pm;exact j.uB ok (by lia) c (cG _ _) λo t=>q f o pm t
  | succ k ih=>
   intro l f M n w A pm j a c;rw[eI];simp;rw[lI a];have s:(aE l).length=k+1:=by simp[aE,n]
   rw[s];simp[hG,l9];refine⟨⟨_,c⟩,⟨_,a⟩,?_⟩;rw[lI a,s];refine fV j (by lia) (by lia) λr M2 x B p y u=>?_;obtain⟨i,rfl⟩:=aKp x;have hi:i<l.length:=by lia
   have g :=u mh.length (aK6 _);have h :=u (mh.length+1) (by lia);rw[a]at g;rw[c]at h;refine OE g (by lia) (d:= .int (l[i]:Nat)) (by simp[aE,hi]) ?_;rw[dS (get_set h (by lia))];have fl:(aE f).length=f.length:=by simp[aE]
   refine⟨by lia,?_⟩;refine ih (l.eraseIdx i) (f++[l[i]]) _ (by rw[List.length_eraseIdx_of_lt hi];lia) (by simp;lia) (by lia) ?_ ((p.set (aK6 _) _).set (by lia) _) ?_ ?_
   ·rw[List.append_assoc];exact((gE l i hi).append_left f).trans pm
   ·refine get_set (bK _ g) (by lia) |>.trans ?_;simp[aE,zJ]
   ·refine(bK _ (get_set h (by lia))).trans ?_;simp[aE]
 have j:dF mh b (mh++[MO.lst (fA 0 m)]++[MO.lst []]):=((dF.refl v).push _).push _;have a:(mh++[MO.lst (fA 0 m)]++[MO.lst []])[mh.length]? =some (.lst (fA 0 m)):=aK (aJ _ _);have c:=aJ (mh++[MO.lst (fA 0 m)]) (MO.lst []);rw[show (mh++[MO.lst (fA 0 m)]).length=mh.length+1 by simp]at c;simp[iJ,mZ,mY,aG];rw[show mh++[MO.lst (fA 0 m),MO.lst []]=mh++[MO.lst (fA 0 m)]++[MO.lst []] by simp];generalize mh++[MO.lst (fA 0 m)]++[MO.lst []]=M at j a c⊢;refine⟨by lia,k5 (m+1) ?_⟩;have z:fA 0 m=aE (List.range m):=by simp[fA,aE]
 rw[z]at a;exact go m (List.range m) [] M (by simp) (by simp) hm (by simp) j a c
def vV:OA:=λds mh Q=>∃(b m:Nat) (e:Int),ds=[.ref b,.int (m:Nat),.int e]/\1<=m/\m<=8/\C1 mh b/\∀(s:Sw) c,s.g<m->s.a<m->s.b<m->s.a<=s.b->dH mh b c->Q (dI s) c
theorem BH(a b:Int):lx (enc (.int b)) (enc (.int a))=false↔a<=b:=by
 simp only[enc,bW,lx];by_cases h:b<a
 ·simp[h]
 ·rw[if_neg h];exact⟨λ_=>by lia,λ_=>by split <;> rfl⟩
theorem FU{a b c d:Int}(h:i<4):∃v:Int,fY [D.int a,.int b,.int c,.int d] (i:Nat)=some (.int v):=by
 have:i=0\/i=1\/i=2\/i=3:=by lia
 rcases this with rfl | rfl | rfl | rfl
 ·exact⟨a,bZ rfl⟩
 ·exact⟨b,bZ rfl⟩
 ·exact⟨c,bZ rfl⟩
 ·exact⟨d,bZ rfl⟩
theorem aCy{z:Str}{r:Int}(h0:0<=r)(a:r<z.cps.toList.length)(hz:z.length<=1000)(q:∀c,Q (.str ⟨#[c]⟩) mh):aX (.str z) (.int r) mh Q:=by
 refine⟨r,rfl,by rw[sizeLine_eq];omega,z.cps.toList[r.toNat]'(by omega),?_,q _⟩;have e:r=((r.toNat:Nat):Int):=by omega
 have:=bZ (xs:=z.cps.toList) (j:=r.toNat) (v:=z.cps.toList[r.toNat]'(by omega)) (aL6 (by omega));rw[<-e]at this;exact this
theorem MP(ds:List D)(mh:MH)(R:DK)(ok:fZ mh)(hs:vV ds mh R):gK bP (En mh R) (aG ["_law_bag_here","_law_many","_law_easy","_law_sort","_law_tips","_law_kind"] ds) mh:=by
 obtain⟨b,m,N,rfl,m1,m8,V,q⟩:=hs;have sz:=aKc;simp[gK,lT,aG];refine fV (.refl V) (by lia) (by lia) λr M1 W X A Y h1=>?_;refine aCy W (by exact X) (by decide) λch=>?_;refine fV A (by lia) (by lia) λh M2 c0 c1 B Z h2=>?_;refine fV B (by lia) (by lia) λj s e0 e1 k ln3 h3=>?_;refine⟨by lia,_,_,rfl,f9 (aJ _ _),by simp,.inl ⟨.i,by simp[b7]⟩,λL pm pw=>?_⟩
 have C:∃x y:Int,L=[.int x,.int y]/\0<=x/\x<m/\0<=y/\y<m:=by
  have E:=pm.length_eq
  match L,E,pm with
  | [u,v],_,pm=>
   have O:=pm.mem_iff.mp (show u∈[u,v] by simp);have P:=pm.mem_iff.mp (show v∈[u,v] by simp);simp at O P;rcases O with rfl | rfl <;> rcases P with rfl | rfl <;> exact⟨_,_,rfl,by lia,by lia,by lia,by lia⟩
 obtain⟨x,y,rfl,x0,x1,y0,y1⟩:=C;obtain⟨x,rfl⟩:=aKp x0;obtain⟨y,rfl⟩:=aKp y0
 have F:x<=y:=by
  have:=(BH _ _).mp ((aLj.mp pw).1 _ (aNg.mpr rfl))
  lia
 have n:=(k.push (MO.lst [.int h,.int j])).push (MO.lst [.int (x:Nat),.int (y:Nat)]);have G:=aJ (s++[MO.lst [.int h,.int j]]) (MO.lst [.int (x:Nat),.int (y:Nat)]);have f:mh.length<=(s++[MO.lst [.int h,.int j]]).length:=by have:=k.le;simp;lia
 dsimp only;generalize (s++[MO.lst [.int h,.int j]]).length=H at G f⊢;generalize s++[MO.lst [.int h,.int j]]++[MO.lst [.int (x:Nat),.int (y:Nat)]]=M4 at n G⊢;simp[lS];refine fV n (by lia) (by lia) λz Q z0 z1 I ln5 h5=>?_;have S:=h5 H f;rw[G]at S;refine⟨by lia,?_⟩;have o:=I.push (MO.lst [.int 0,.int z]);have T:=aK (x:=MO.lst [.int 0,.int z]) S;have U:=aJ Q (MO.lst [.int 0,.int z]);generalize Q++[MO.lst [.int 0,.int z]]=M6 at o T U⊢
 have p:∀i:Int,0<=i->i<4->hC bP (En mh R) [some (D.ref b),some (D.int (m:Nat)),some (D.int N),some (D.str {cps:= #[ch]}),some (D.ref H),some (.int i)] M6:=λi i0 i1=>by
  obtain⟨i,rfl⟩:=aKp i0;obtain⟨w,hw⟩:=FU (a:=6) (b:=2) (c:=6) (d:=3) (i:=i) (by lia);obtain⟨l,E⟩:=FU (a:=2) (b:=6) (c:=6) (d:=4) (i:=i) (by lia);simp[hC];refine fV o (by lia) (by lia) λg M7 g0 g1 J ln7 h7=>?_;have K:=h7 H f;rw[T]at K;obtain⟨g,rfl⟩:=aKp g0;have a0:fY [D.int (x:Nat),D.int (y:Nat)] 0=some (.int (x:Nat)):=rfl;rw[cA K,a0];simp only[aH];rw[cA K,mB];simp only[aH];refine⟨by lia,?_⟩;rw[cA (aJ _ _),hw];simp only[aH];refine⟨by lia,?_⟩;rw[cA (aJ _ _),E];simp only[aH];refine⟨by lia,((J.push _).push _).out ok rfl λM t=>q ⟨⟨#[ch]⟩,g,x,y,w,l⟩ M (by lia) (by lia) (by lia) F t⟩
 refine .inr ⟨_,rfl,?_⟩;dsimp only;rw[cA U];by_cases e:0<N
 ·simp only[e,decide_true,if_true,mB,aH];exact p z z0 z1
 ·have a0:fY [D.int 0,D.int z] 0=some (.int 0):=rfl;simp only[e,decide_false,Bool.false_eq_true,if_false,a0,aH];exact p 0 (by lia) (by lia)
def XZ(m:Nat)(l:List (Str×Nat)):Prop:=∀p∈l,p.2<m
def AN(m:Nat)(l:List Sw):Prop:=∀s∈l,s.g<m/\s.a<m/\s.b<m/\s.a<=s.b
def SW:OA:=λds mh Q=>∃b:Nat,ds=[.ref b,.int 5,.int 9]/\C1 mh b/\∀(x:Ls) a,fB x->x.m<=8->dH mh b a->Q (dE x) a
variable{ns:List (Str×Nat)}{a3 a7:Option D}
theorem BX{b m o rs:Nat}{ss:List Sw}(ok:fZ mh)(q:∀(x:Ls) i,fB x->x.m<=8->dH mh b i->R (dE x) i)(m1:1<=m)(m8:m<=8)(w:dF mh b M)
  (y:M[o]? =some (.lst (ns.map dU))) (z:M[rs]? =some (.lst (ss.map dI))) (A:XZ m ns) (s1:AN m ss) (F:ns.length<=12) (sl:ss.length<=13):
  jX bP vV (En mh R) [some (.ref b),some (.int 5),some (.int 9),a3,some (.int (m:Nat)),some (.ref o),a6,a7,some (.ref rs)] M:=by
 have sz:=aKc;simp[jX]
 have r:ns.map dU=(ns.map λp=>[Sum.inr p.1,Sum.inl (p.2:Int)]).map tupK:=by
  rw[List.map_map];exact aKo λp _=>rfl
 refine⟨ns.map λp=>[Sum.inr p.1,Sum.inl (p.2:Int)],by rw[<-r];exact bE y,by simp;lia,by rw[<-r];exact qP ns,?_⟩;intro j B _ kl u
 obtain⟨c,v,C⟩:∃c :List (Str×Nat),j.map tupK=c.map dU/\XZ m c :=by
  refine all_map (f:=dU) (Pr:=λp=>p.2<m) λd hd=>?_;obtain⟨k,l,rfl⟩:=aKe.mp hd;obtain⟨p,D,rfl⟩:=aKe.mp ((B k).mp l);exact⟨p,A p D,rfl⟩
 have E:c.length<=12:=by
  have:=aL4 List.length v;simp at this kl
  lia
 rw[v]at u⊢;rw[bE (aJ _ _)];simp only[aH];refine⟨_,_,rfl,f9 (aK z),by simp;lia,lH ss,λL pm n=>?_⟩
 obtain⟨h,rfl,s2⟩:∃h :List Sw,L=h.map dI/\AN m h :=by
  refine all_map (f:=dI) (Pr:=λs=>s.g<m/\s.a<m/\s.b<m/\s.a<=s.b) λd hd=>?_;obtain⟨s,hs,e⟩:=aKe.mp (pm.mem_iff.mp hd);exact⟨s,s1 s hs,e.symm⟩
 have l3:h.length<=13:=by
  have:=pm.length_eq;simp at this
  lia
 rw[bE (aJ _ _)];simp only[aH];refine⟨by lia,?_⟩;exact((w.push _).push _).out ok (qY _ ⟨m,c,h⟩) λi t=>q ⟨m,c,h⟩ i ⟨m1,by lia,C,λs hs=>⟨(s2 s hs).1,(s2 s hs).2.1,(s2 s hs).2.2.1⟩,λs hs=>(s2 s hs).2.2.2,E,l3,u,n⟩ m8 t
variable{a8:Option D}
theorem WR{b m j:Nat}{J:Int}(ok:fZ mh)(q:∀(x:Ls) r,fB x->x.m<=8->dH mh b r->R (dE x) r)(m1:1<=m)(m8:m<=8)(S:dF mh b M)
  (C:mh.length<=j) (T:M[j]? =some (.lst (ns.map dU))) (D:XZ m ns) (E:ns.length<=12):
  gL bP vV (En mh R) [some (.ref b),some (.int 5),some (.int 9),some (.int J),some (.int (m:Nat)),some (.ref j),a6,a7,a8] M:=by
 have sz:=aKc;simp[gL];refine fV S (by lia) (by lia) λt M1 t0 t1 F U V=>?_;have w :=V j C;rw[T]at w;obtain⟨t,rfl⟩:=aKp t0;simp;refine⟨by lia,?_⟩;refine kS (λi G k =>dF mh b k /\k[j]? =some (.lst (ns.map dU))/\∃ss:List Sw,G=ss.map dI/\ss.length=i/\AN m ss) _ (λ_ _ _ _=>trivial) ?_ ?_ ⟨F,w,[],rfl,rfl,by simp[AN]⟩
 ·rintro i d G k N hi ⟨a,B,ss,rfl,sl,p⟩ nx;simp[iP];refine⟨b,m,J,rfl,m1,m8,a.YU,λs W s1 s2 X Y K=>?_⟩;refine nx _ _ ⟨a.to K,by rw[K.other (by have:=a.blt;lia)];exact B,ss++[s],by simp,by simp[sl],λz hz=>?_⟩;rcases aKi.mp hz with h | h
  ·exact p z h
  ·simp at h;subst h;exact⟨s1,s2,X,Y⟩
 ·rintro G k ⟨a,B,ss,rfl,sl,p⟩;have Z:(fA 0 t).length=t:=by simp
  rw[Z]at sl;have l:=a.push (MO.lst (ss.map dI));have n:=aK (x:=MO.lst (ss.map dI)) B;have c:=aJ k (MO.lst (ss.map dI));have f:=a.le;have H:j≠k.length:=by have:=(aK5.mp B).1;lia
  generalize k ++[MO.lst (ss.map dI)]=W at l n c⊢;generalize k.length=rs at c f H⊢;simp[oU];rw[lI c];simp;by_cases hs:0<ss.length
  ·have hs' :((ss.length:Nat):Int) > 0:=by lia
   rw[if_pos hs];refine fV l (by lia) (by lia) λu M4 u0 u1 y ln4 L=>?_;have o:=L j C;have e:=L rs f;rw[n]at o;rw[c]at e;simp;by_cases O:u=1
   ·rw[if_pos O];simp[l9];refine⟨⟨_,e⟩,?_⟩;rw[lI e];refine fV y (by simp;lia) (by simp;lia) λv M5 v0 v1 I ln5 P=>?_;obtain⟨v,rfl⟩:=aKp v0;have A:=P j C;have g:=P rs f;rw[o]at A;rw[e]at g;have Q:v<ss.length:=by simp at v1;lia
    have av:fY (ss.map dI) (v:Nat)=some (dI ss[v]):=bZ (by simp[Q]);rw[cA g,av];simp only[aH];rw[dS g];refine⟨by simp;lia,?_⟩;refine BX (ss:=ss++[ss[v]]) ok q m1 m8 (I.set f _) (get_set A (by lia)) ?_ D ?_ E (by simp;lia)
    ·refine(bK _ g).trans ?_;simp
    ·intro z hz;rcases aKi.mp hz with h | h
     ·exact p z h
     ·simp at h;subst h;exact p _ (List.getElem_mem Q)
   ·rw[if_neg O];exact BX ok q m1 m8 y o e D p E (by lia)
  ·rw[if_neg hs];exact BX ok q m1 m8 l n c D p E (by lia)
theorem aCb(ds:List D)(mh:MH)(R:DK)(ok:fZ mh)(hs:SW ds mh R):jE bP vV (En mh R) (aG ["_law_bag_here","_law_most","_law_wires","_law_easy","_law_many","_law_names","_law_name","_law_kind","_law_switches"] ds) mh:=by
 obtain⟨b,rfl,X,q⟩:=hs;have sz:=aKc;simp[jE,oX,aG];refine fV (.refl X) (by lia) (by lia) λI M1 _ _ L Y h1=>?_;refine fV L (by lia) (by lia) λm M2 Z c1 A ln2 h2=>?_;obtain⟨m,rfl⟩:=aKp Z;rw[AZ];rw[show (1:Int)+(m:Nat)=((m+1:Nat):Int) by lia];generalize hm:m+1=k;have k1:1<=k:=by lia
 have k8:k<=8:=by lia
 simp[oW,oV];refine⟨by lia,?_⟩;have eW:[D.str "a",D.str "b",D.str "c",D.str "down",D.str "out",D.str "up"]=([Str.ofString "a",Str.ofString "b",Str.ofString "c",Str.ofString "down",Str.ofString "out",Str.ofString "up"]:List Str).map D.str:=rfl;rw[eW];have zl:([Str.ofString "a",Str.ofString "b",Str.ofString "c",Str.ofString "down",Str.ofString "out",Str.ofString "up"]:List Str).length=6:=rfl;generalize ([Str.ofString "a",Str.ofString "b",Str.ofString "c",Str.ofString "down",Str.ofString "out",Str.ofString "up"]:List Str)=j at zl⊢;rw[show M2++[MO.lst [],MO.lst (j.map D.str)]=M2++[MO.lst []]++[MO.lst (j.map D.str)] by simp];have B:=(A.push (MO.lst [])).push (MO.lst (j.map D.str));have f:=aK (x:=MO.lst (j.map D.str)) (aJ M2 (MO.lst []));have g:=aJ (M2++[MO.lst []]) (MO.lst (j.map D.str));rw[show (M2++[MO.lst []]).length=M2.length+1 by simp]at g;have l:=A.le;generalize M2++[MO.lst []]++[MO.lst (j.map D.str)]=M3 at B f g⊢;generalize M2.length=a at f g l⊢;rw[bE g];simp only[aH];refine cH (λi J M=>(∃a6 a7,J=[some (D.ref b),some (D.int 5),some (D.int 9),some (D.int I),some (D.int (k:Nat)),some (D.ref a),a6,a7,none])/\dF mh b M/\M[a+1]? =some (.lst (j.map D.str))/\∃ns:List (Str×Nat),M[a]? =some (.lst (ns.map dU))/\XZ k ns/\ns.length<=2*i) _ (λi J M h=>bE h.2.2.1) ?_ ?_ ⟨⟨_,_,rfl⟩,B,g,[],f,by simp[XZ],by simp⟩
 ·rintro i d J M N hi ⟨⟨a6,a7,rfl⟩,s,g,ns,f,o,K⟩ nx;obtain⟨z,hz,rfl⟩:=lK hi;have hil:i<j.length:=(aK5.mp hz).1;simp[mT,kH];refine fV s (by lia) (by lia) λu U u0 u1 C ln4 V=>?_;have r:=V a l;have t:=V (a+1) (by lia);rw[f]at r;rw[g]at t
  have E:∀(M:MH) (ns:List (Str×Nat)) (F:hX->MH->Prop),dF mh b M->M[a]? =some (.lst (ns.map dU))->M[a+1]? =some (.lst (j.map D.str))->XZ k ns->ns.length<=100->
    (∀w c,dF mh b w ->w[a]? =some (.lst (c.map dU))->w[a+1]? =some (.lst (j.map D.str))->XZ k c ->c.length=ns.length+1->F [some (D.ref b),some (D.int 5),some (D.int 9),some (D.int I),some (D.int (k:Nat)),some (D.ref a),some (.str z),some (.int u),none] w)->
    bP [D.ref b,D.int (k:Nat)] M λx n=>2<=sizeLine/\bN (D.ref a) [D.tup [D.str z,x]] n λx n=>F [some (D.ref b),some (D.int 5),some (D.int 9),some (D.int I),some (D.int (k:Nat)),some (D.ref a),some (.str z),some (.int u),none] n:=λM ns F s f g o K hF=>by
   refine fV s (by lia) (by lia) λv M5 v0 v1 O ln5 W=>?_;obtain⟨v,rfl⟩:=aKp v0;have y:=W a l;have G:=W (a+1) (by lia);rw[f]at y;rw[g]at G;refine⟨by lia,?_⟩;rw[dS y];refine⟨by simp;lia,hF _ (ns++[(z,v)]) (O.set l _) ((bK _ y).trans (by simp[dU])) (get_set G (by lia)) ?_ (by simp)⟩;intro p hp;rcases aKi.mp hp with h | h
   ·exact o p h
   ·simp at h;subst h;lia
  have H:∀(M:MH) (ns:List (Str×Nat)),dF mh b M->M[a]? =some (.lst (ns.map dU))->M[a+1]? =some (.lst (j.map D.str))->XZ k ns->ns.length<=2*i+1->
    f7 bP vV {nx:=N,rt:=λd n=>Out (List.length mh) d n R,bk:=gL bP vV (En mh R),ct:=N} [some (D.ref b),some (D.int 5),some (D.int 9),some (D.int I),some (D.int (k:Nat)),some (D.ref a),some (.str z),some (.int u),none] M:=λM ns s f g o K=>by
   simp[f7];by_cases e:u=1
   ·rw[if_pos e];simp[l9];refine⟨⟨_,f⟩,E M ns N s f g o (by lia) λw c P Q S T b5=>nx _ _ ⟨⟨_,_,rfl⟩,P,S,c,Q,T,by lia⟩⟩
   ·rw[if_neg e];exact nx _ _ ⟨⟨_,_,rfl⟩,s,g,ns,f,o,by lia⟩
  simp;by_cases e:0<u
  ·rw[if_pos e];simp[l9];exact⟨⟨_,r⟩,E U ns _ C r t o (by lia) λw c P Q S T b5=>H w c P Q S T (by lia)⟩
  ·rw[if_neg e];exact H U ns C r t o (by lia)
 ·rintro J M ⟨⟨a6,a7,rfl⟩,s,g,ns,f,o,K⟩;simp at K;exact WR ok q k1 k8 s l f o (by lia)
def SqP(mh:MH)(d:D)(p:List Nat):Prop:=d= .tup (aE p)\/∃o,d= .ref o/\mh[o]? =some (.lst (aE p))
theorem SqP.px(h:SqP mh d p)(x:bD mh M):SqP M d p:=by
 rcases h with rfl | ⟨o,rfl,h⟩
 ·exact .inl rfl
 ·exact .inr ⟨o,rfl,x.old h⟩
theorem SqP.ix(h:SqP mh d p)(hi:i<p.length)(q:Q (.int (mk p i:Nat)) mh):aX d (.int (i:Nat)) mh Q:=by
 rcases h with rfl | ⟨o,rfl,h⟩
 ·simp[e9 hi];exact q
 ·rw[cA h,e9 hi];exact q
def nmI:D->Str×Nat
 | .tup [.str z,.int i]=>(z,i.toNat)
 | _=>("",0)
def swI:D->Sw
 | .tup [.str z,.int g,.int a,.int b,.int w,.int l]=>⟨z,g.toNat,a.toNat,b.toNat,w,l⟩
 | _=>⟨"",0,0,0,0,0⟩
theorem BF:∀l:List (Str×Nat),(l.map dU).map nmI=l
 | []=>rfl
 | q::l=>by simp only[List.map_cons,BF l];rfl
theorem BE:∀l:List Sw,(l.map dI).map swI=l
 | []=>rfl
 | q::l=>by simp only[List.map_cons,BE l];rfl
theorem EC{l l' :List (Str×Nat)}(h:(l.map dU).Perm (l'.map dU)):l.Perm l' :=by
 have:=h.map nmI
 rwa [BF,BF]at this
theorem DJ{l l' :List Sw}(h:(l.map dI).Perm (l'.map dI)):l.Perm l' :=by
 have:=h.map swI
 rwa [BE,BE]at this
theorem OO{s:Sw}{u v:Nat}(h:u=mk p s.a/\v=mk p s.b\/u=mk p s.b/\v=mk p s.a)(c:u<=v):(⟨s.s,mk p s.g,u,v,s.w,s.l⟩:Sw)=A2 p s:=by
 unfold A2
 rcases h with ⟨rfl,rfl⟩ | ⟨rfl,rfl⟩
 ·rw[if_pos c]
 ·by_cases e:mk p s.a<=mk p s.b
  ·rw[if_pos e,Nat.le_antisymm c e]
  ·rw[if_neg e]
def r9:OA:=λds mh Q=>∃(x:Ls) (o:D) (p:List Nat),ds=[dE x,o]/\fB x/\SqP mh o p/\p.Perm (List.range x.m)/\∀y,fB y->mC x y p->Q (dE y) mh
theorem MN(ds:List D)(mh:MH)(R:DK)(ok:fZ mh)(hs:r9 ds mh R):fI (En mh R) (aG ["_law_some_here","_law_order_here","_law_names","_law_switches","_law_sort","_law_gate","_law_one","_law_other","_law_width","_law_length","_law_low","_law_high"] ds) mh:=by
 obtain⟨x,o,p,rfl,y,ho,r,q⟩:=hs;have sz:=aKc;have m8:=y.m8;have ln:=y.ln;have lw:=y.lw;have pl:p.length=x.m:=by rw[r.length_eq];simp
 have i0:fY [D.int x.m,D.tup (List.map dU x.ns),D.tup (List.map dI x.sw)] 0=some (D.int x.m):=rfl;have i1:fY [D.int x.m,D.tup (List.map dU x.ns),D.tup (List.map dI x.sw)] 1=some (D.tup (List.map dU x.ns)):=rfl;have i2:fY [D.int x.m,D.tup (List.map dU x.ns),D.tup (List.map dI x.sw)] 2=some (D.tup (List.map dI x.sw)):=rfl;simp[fI,aG,dE,i1,bC];refine fF dU (λa:Str×Nat=>(a.1,mk p a.2)) dU x.ns trivial (λa ha N hN=>?_) ?_
 ·have:=y.ns a ha;simp[dU,iP];exact ho.ix (by lia) ⟨by lia,hN⟩
 refine⟨_,_,rfl,f9 (aJ _ _),by simp;lia,qP _,λL pm Q=>?_⟩
 obtain⟨j,rfl,n2⟩:∃j :List (Str×Nat),L=j.map dU/\XZ x.m j :=by
  refine all_map (f:=dU) (Pr:=λp=>p.2<x.m) λd hd=>?_;obtain⟨a,ha,e⟩:=aKe.mp (pm.mem_iff.mp hd);obtain⟨c,hc,rfl⟩:=aKe.mp ha;exact⟨_,jP r (y.ns c hc),e.symm⟩
 have l2:j.length<=12:=by
  have:=pm.length_eq;simp at this
  lia
 have A:bD mh (mh++[MO.lst ((x.ns.map λa:Str×Nat=>(a.1,mk p a.2)).map dU)]++[MO.lst (j.map dU)]):=(bD.refl.push _).push _;have t:=aJ (mh++[MO.lst ((x.ns.map λa:Str×Nat=>(a.1,mk p a.2)).map dU)]) (MO.lst (j.map dU));have S:mh.length<=(mh++[MO.lst ((x.ns.map λa:Str×Nat=>(a.1,mk p a.2)).map dU)]).length:=by simp
 generalize (mh++[MO.lst ((x.ns.map λa:Str×Nat=>(a.1,mk p a.2)).map dU)]).length=rn at t S⊢;generalize mh++[MO.lst ((x.ns.map λa:Str×Nat=>(a.1,mk p a.2)).map dU)]++[MO.lst (j.map dU)]=T at A t⊢;have B:=aJ T (MO.lst []);have I:=aK (x:=MO.lst []) t;have J:=A.push (MO.lst []);have U:=A.le;have V:=(aK5.mp t).1;simp[kK,kJ,i2,bC];generalize T++[MO.lst []]=M1 at J B I⊢;generalize T.length=rs at B U V⊢;refine cH (λi W M=>(∃X a5 a6 a7 a8 Y C E,W=[some (D.tup [D.int x.m,D.tup (List.map dU x.ns),D.tup (List.map dI x.sw)]),some o,some (.ref rn),some (.ref rs),X,a5,a6,a7,a8,Y,C,E])/\bD mh M/\M[rn]? =some (.lst (j.map dU))/\∃ss:List Sw,M[rs]? =some (.lst (ss.map dI))/\ss=(x.sw.take i).map (A2 p)/\AN x.m ss) _ (λ_ _ _ _=>trivial) ?_ ?_ ⟨⟨_,_,_,_,_,_,_,_,rfl⟩,J,I,[],B,by simp,by simp[AN]⟩
 ·rintro i d W M N hi ⟨⟨X,a5,a6,a7,a8,Y,C,E,rfl⟩,px,t,ss,B,es,Z⟩ nx;obtain⟨s,hp,rfl⟩:=lK hi;obtain⟨p1,p2,p3⟩:=y.sw s (aK9 hp);have hil:i<x.sw.length:=(aK5.mp hp).1;simp[dI,jH];have sl:ss.length<=i:=by rw[es];simp;lia
  refine(ho.px px).ix (by lia) ((ho.px px).ix (by lia) ?_);refine⟨by lia,_,_,rfl,f9 (aJ _ _),by simp,.inl ⟨.i,by simp[b7]⟩,λL pm Q=>?_⟩
  have two:∃u v:Nat,L=[.int (u:Nat),.int (v:Nat)]/\(u=mk p s.a/\v=mk p s.b\/u=mk p s.b/\v=mk p s.a):=by
   have hl:=pm.length_eq;have q1:=jP r p2;have q2:=jP r p3
   match L,hl,pm with
   | [u,v],_,pm=>
    have P:=pm.mem_iff.mp (show u∈[u,v] by simp);simp at P;rcases P with rfl | rfl
    ·have:=aMp pm;have:=aMi.mp this;simp at this;subst this;exact⟨_,_,rfl,.inl ⟨rfl,rfl⟩⟩
    ·have:=aMp (pm.trans (List.Perm.swap _ _ _));have:=aMi.mp this;simp at this;subst this;exact⟨_,_,rfl,.inr ⟨rfl,rfl⟩⟩
  obtain⟨u,v,rfl,F⟩:=two
  have K:u<=v:=by
   have:=(BH _ _).mp ((aLj.mp Q).1 _ (aNg.mpr rfl))
   lia
  have hr:=OO F K;have P:u<x.m:=by rcases F with z | z <;> rw[z.1] <;> exact jP r (by assumption)
  have hv:v<x.m:=by rcases F with z | z <;> rw[z.2] <;> exact jP r (by assumption)
  dsimp only;refine⟨_,f9 (aJ _ _),rfl,?_⟩;have G:=(px.push (MO.lst [.int (mk p s.a:Nat),.int (mk p s.b:Nat)])).push (MO.lst [.int (u:Nat),.int (v:Nat)]);have O:=aK (x:=MO.lst [.int (u:Nat),.int (v:Nat)]) (aK (x:=MO.lst [.int (mk p s.a:Nat),.int (mk p s.b:Nat)]) t);have n:=aK (x:=MO.lst [.int (u:Nat),.int (v:Nat)]) (aK (x:=MO.lst [.int (mk p s.a:Nat),.int (mk p s.b:Nat)]) B);generalize M++[MO.lst [.int (mk p s.a:Nat),.int (mk p s.b:Nat)]]++[MO.lst [.int (u:Nat),.int (v:Nat)]]=M2 at G O n⊢;simp[iC,l9];refine⟨⟨_,n⟩,?_⟩;refine(ho.px G).ix (by lia) ⟨by lia,?_⟩;rw[dS n];refine⟨by simp;lia,nx _ _ ⟨⟨_,_,_,_,_,_,_,_,rfl⟩,G.set (by lia) _,get_set O (by lia),ss++[⟨s.s,mk p s.g,u,v,s.w,s.l⟩],(bK _ n).trans (by simp[dI]),?_,?_⟩⟩
  ·rw[List.take_add_one,hp,hr,es];simp
  intro z hz;rcases aKi.mp hz with h | h
  ·exact Z z h
  ·simp at h;subst h;exact⟨jP r p1,P,hv,K⟩
 ·rintro W M ⟨⟨X,a5,a6,a7,a8,Y,C,E,rfl⟩,px,t,ss,B,es,Z⟩;rw[show (List.map dI x.sw).length=x.sw.length by simp,List.take_length]at es;have sl:ss.length=x.sw.length:=by rw[es];simp
  simp[kI,i0];rw[bE t];simp only[aH];refine⟨_,_,rfl,f9 B,by simp;lia,lH ss,λL H pw3=>?_⟩
  obtain⟨k,rfl,s2⟩:∃k :List Sw,L=k.map dI/\AN x.m k :=by
   refine all_map (f:=dI) (Pr:=λs=>s.g<x.m/\s.a<x.m/\s.b<x.m/\s.a<=s.b) λd hd=>?_;obtain⟨s,hs,e⟩:=aKe.mp (H.mem_iff.mp hd);exact⟨s,Z s hs,e.symm⟩
  have l3:k.length<=13:=by
   have:=H.length_eq;simp at this
   lia
  try dsimp only
  rw[bE (aJ _ _)];simp only[aH];refine⟨by lia,?_⟩;exact(px.push _).out ok (qY _ ⟨x.m,j,k⟩) (q ⟨x.m,j,k⟩ ⟨y.m1,m8,n2,λs hs=>⟨(s2 s hs).1,(s2 s hs).2.1,(s2 s hs).2.2.1⟩,λs hs=>(s2 s hs).2.2.2,l2,l3,Q,pw3⟩ ⟨r,rfl,EC pm,by rw[<-es];exact DJ H⟩)
theorem JU:∀{a:List Nat},(∀w∈a,1<=w)->a.length<=a.sum
 | [],_=>by simp
 | w::a,h=>by
  have:=JU λv b=>h v (aK8 _ b);have:=h w aK7;simp only[List.length_cons,List.sum_cons]
  lia
def SY:OA:=λds mh Q=>∃b t:Nat,ds=[.ref b,.int (t:Nat)]/\t<=6/\C1 mh b/\∀(c:List Nat) a,(∀w∈c,1<=w)->c.sum=t->dH mh b a->Q (.ref a.length) (a++[.lst (aE c)])
theorem WW(ds:List D)(mh:MH)(R:DK)(ok:fZ mh)(hs:SY ds mh R):iI bP (En mh R) (aG ["_law_bag_here","_law_total","_law_found","_law_part"] ds) mh:=by
 obtain⟨b,t,rfl,ht,o,q⟩:=hs;have sz:=aKc
 have go:∀(k u:Nat) (a:List Nat) (M:MH) (a3:Option D),u<=k->(∀w∈a,1<=w)->a.sum+u=t->dF mh b M->M[mh.length]? =some (.lst (aE a))->
   eI (cU (aM D8 (aB 1) (wC (.int 3)))) (c9 bP) {En mh R with nx:=cW bP (En mh R)} (k+1) [some (.ref b),some (.int (u:Nat)),some (.ref mh.length),a3] M:=by
  intro k
  induction k using Nat.strongRecOn with
  | ind k p=>
   intro u a M a3 C h n j g;have E:=JU h;have F:(aE a).length=a.length:=by simp[aE]
   rw[eI];simp;by_cases G:3<u
   ·rw[if_pos (by lia)];simp[c9];refine fV j (by lia) (by lia) λr s x H l y A=>?_;have i:=A mh.length (aK6 _);rw[g]at i;obtain⟨r,rfl⟩:=aKp x
    have f:∀v:Nat,1<=v->v<=u->fJ bP {En mh R with nx:=eI (cU (aM D8 (aB 1) (wC (.int 3)))) (c9 bP) {En mh R with nx:=cW bP (En mh R)} k,ct:=eI (cU (aM D8 (aB 1) (wC (.int 3)))) (c9 bP) {En mh R with nx:=cW bP (En mh R)} k,bk:=cW bP (En mh R)} [some (.ref b),some (.int (u:Nat)),some (.ref mh.length),some (.int (v:Nat))] s:=λv B I=>by
     simp[fJ,l9];refine⟨⟨_,i⟩,?_⟩;rw[dS i];refine⟨by lia,?_⟩;simp[jI];rw[show ((u:Nat):Int)-((v:Nat):Int)=((u-v:Nat):Int) by lia]
     obtain⟨m,rfl⟩:∃m,k=m +1:=⟨k-1,by lia⟩
     refine p m (aL2 _) (u-v) (a++[v]) _ _ (by lia) (λw c =>?_) (by simp;lia) (l.set (aK6 _) _) ((bK _ i).trans (by simp[aE]));rcases aKi.mp c with z | z
     ·exact h w z
     ·simp at z;subst z;exact B
    simp[jJ];by_cases e:((u:Nat):Int)-2<2+((r:Nat):Int)
    ·rw[if_pos (by lia)];exact f u (by lia) (aK6 _)
    ·rw[if_neg (by lia)];have:=f (2+r) (by lia) (by lia);rw[show ((2+r:Nat):Int)=2+((r:Nat):Int) by lia]at this;exact this
   ·rw[if_neg (by lia)];simp[cW];by_cases e:0<u
    ·rw[if_pos (by lia)];simp[l9];refine⟨⟨_,g⟩,?_⟩;rw[dS g];refine⟨by lia,?_⟩;simp[iV];refine(j.set (aK6 _) _).uB ok (aK6 _) (bK _ g) (show aS _ _=true from sA (cG _ _) rfl) λd tt=>?_
     have:=q (a++[u]) d (λw c =>by
      rcases aKi.mp c with z | z
      ·exact h w z
      ·simp at z;subst z;exact e) (by simp;lia) tt
     simpa[aE] using this
    ·rw[if_neg (by lia)];simp[iV];exact j.uB ok (aK6 _) g (cG _ _) λd tt=>q a d h (by lia) tt
 simp[iI,mX,aG];exact k5 (t+1) (go t t [] _ _ (aK6 _) (by simp) (by simp) ((dF.refl o).push _) (aJ _ _))
theorem N5{a:List Nat}{i w:Nat}(h:a[i]? =some w):(a.take (i+1)).sum=(a.take i).sum+w:=by
 rw[List.take_add_one,h];simp
theorem tH:∀(a:List Nat) (i:Nat),(a.take i).sum<=a.sum
 | [],i=>by simp
 | w::a,0=>by simp
 | w::a,i+1=>by
  have:=tH a i;simp only[List.take_succ_cons,List.sum_cons]
  lia
variable{l:List Sw}
theorem AN.mono(h:AN m l)(hm:m<=n):AN n l:=λs hs=>by
 obtain⟨b,c,d,a⟩:=h s hs;exact⟨by lia,by lia,by lia,a⟩
theorem AN.snoc{s:Sw}(h:AN m l)(c:s.g<m/\s.a<m/\s.b<m/\s.a<=s.b):AN m (l++[s]):=λz hz=>by
 rcases aKi.mp hz with q | q
 ·exact h z q
 ·simp at q;subst q;exact c
variable{L:List D}
theorem N3{u v:Nat}(pm:L.Perm [.int (u:Nat),.int (v:Nat)])(c:L.Pairwise (λd e=>lx (enc e) (enc d)=false)):∃a b:Nat,L=[.int (a:Nat),.int (b:Nat)]/\a<=b/\(a=u/\b=v\/a=v/\b=u):=by
 have g:=pm.length_eq
 have up:∀{a b:Nat},[D.int (a:Nat),D.int (b:Nat)].Pairwise (λd e=>lx (enc e) (enc d)=false)->a<=b:=λh=>by
  have:=(BH _ _).mp ((aLj.mp h).1 _ (aNg.mpr rfl))
  lia
 match L,g,pm,c with
 | [x,y],_,pm,c=>
  have f:=pm.mem_iff.mp (show x∈[x,y] by simp);simp at f;rcases f with rfl | rfl
  ·have:=aMi.mp (aMp pm);simp at this;subst this;exact⟨_,_,rfl,up c,.inl ⟨rfl,rfl⟩⟩
  ·have:=aMi.mp (aMp (pm.trans (List.Perm.swap _ _ _)));simp at this;subst this;exact⟨_,_,rfl,up c,.inr ⟨rfl,rfl⟩⟩
def SX:OA:=λds mh Q=>∃(o c:Nat) (a:List Nat),ds=[.ref o,.int (c:Nat)]/\mh[o]? =some (.lst (aE a))/\(∀w∈a,1<=w)/\a.sum<=6/\c<=2/\∀x,fB x->x.m<=7+c->Q (dE x) mh
theorem WV(ds:List D)(mh:MH)(R:DK)(ok:fZ mh)(hs:SX ds mh R):iH (En mh R) (aG ["_law_wheels","_law_more","_law_many","_law_switches","_law_size","_law_k","_law_tips"] ds) mh:=by
 obtain⟨o,c,j,rfl,ho,I,F,S,q⟩:=hs;have sz:=aKc;have ob:o<mh.length:=(aK5.mp ho).1;simp[iH,mW,mV,aG];rw[bE (aK ho)];simp only[aH];refine cH (λi r M=>(∃z a5 a6,r=[some (.ref o),some (.int (c:Nat)),some (.int ((1+(j.take i).sum:Nat):Int)),some (.ref mh.length),z,a5,a6])/\bD mh M/\∃ss:List Sw,M[mh.length]? =some (.lst (ss.map dI))/\ss.length=(j.take i).sum/\AN (1+(j.take i).sum) ss) _ (λi r M h=>bE (h.2.1.old ho)) ?_ ?_ ⟨⟨none,none,none,by simp⟩,bD.refl.push _,[],aJ _ _,by simp,by simp[AN]⟩
 ·rintro i d r M N hi ⟨⟨z,a5,a6,rfl⟩,px,ss,g,sl,n⟩ nx;obtain⟨w,t,rfl⟩:=lK hi;have T:=I w (aK9 t);have A:=N5 t;have le:=tH j (i+1);generalize hm:1+(j.take i).sum=m at n⊢;simp[lV];refine⟨by lia,?_⟩;refine cH (λk r M=>(∃a5 a6,r=[some (.ref o),some (.int (c:Nat)),some (.int (m:Nat)),some (.ref mh.length),some (.int (w:Nat)),a5,a6])/\bD mh M/\∃ss:List Sw,M[mh.length]? =some (.lst (ss.map dI))/\ss.length=(j.take i).sum+k/\AN (m+w) ss) _ (λ_ _ _ _=>trivial) ?_ ?_ ⟨⟨_,_,rfl⟩,px,ss,g,by lia,n.mono (by lia)⟩
  ·rintro k d r M N J ⟨⟨a5,a6,rfl⟩,px,ss,g,sl,n⟩ B;obtain⟨K,rfl⟩:=jO J;have O:(0:Int)+(k:Nat)=(k:Nat):=by lia
   rw[O];have em:(((k:Nat):Int)+1) % ((w:Nat):Int)=(((k+1) % w:Nat):Int):=by lia
   have G:(k+1) % w<w:=aNo _ (by lia);simp[lU];rw[em];rw[show ((m:Nat):Int)+((k:Nat):Int)=((m+k:Nat):Int) by lia,show ((m:Nat):Int)+(((k+1) % w:Nat):Int)=((m+(k+1) % w:Nat):Int) by lia];refine⟨by lia,by lia,_,_,rfl,f9 (aJ _ _),by simp,.inl ⟨.i,by simp[b7]⟩,λL pm C=>?_⟩;obtain⟨a,b,rfl,E,U⟩:=N3 pm C;have u:=(px.push (MO.lst [.int ((m+k:Nat):Int),.int ((m+(k+1) % w:Nat):Int)])).push (MO.lst [.int (a:Nat),.int (b:Nat)]);have v:=aK (x:=MO.lst [.int (a:Nat),.int (b:Nat)]) (aK (x:=MO.lst [.int ((m+k:Nat):Int),.int ((m+(k+1) % w:Nat):Int)]) g);have y:=aJ (M++[MO.lst [.int ((m+k:Nat):Int),.int ((m+(k+1) % w:Nat):Int)]]) (MO.lst [.int (a:Nat),.int (b:Nat)]);generalize (M++[MO.lst [.int ((m+k:Nat):Int),.int ((m+(k+1) % w:Nat):Int)]]).length=rt at y⊢;generalize M++[MO.lst [.int ((m+k:Nat):Int),.int ((m+(k+1) % w:Nat):Int)]]++[MO.lst [.int (a:Nat),.int (b:Nat)]]=M2 at u v y⊢;have a0:fY [D.int (a:Nat),D.int (b:Nat)] 0=some (.int (a:Nat)):=rfl;simp[jF,l9];refine⟨⟨_,v⟩,?_⟩;rw[cA y,a0];simp only[aH];rw[cA y,mB];simp only[aH];refine⟨by lia,?_⟩;rw[dS v];refine⟨by simp;lia,B _ _ ⟨⟨_,_,rfl⟩,u.set (aK6 _) _,ss++[⟨"n",0,a,b,6,2⟩],(bK _ v).trans (by simp[dI]),by simp;lia,n.snoc ⟨?_,?_,?_,E⟩⟩⟩
   ·show 0<m+w
    lia
   ·show a<m+w
    lia
   ·show b<m+w
    lia
  ·rintro r M ⟨⟨a5,a6,rfl⟩,px,ss,g,sl,n⟩;rw[show (fA 0 w).length=w by simp]at sl;simp[jG];have P:((m:Nat):Int)+((w:Nat):Int)=((1+(j.take (i+1)).sum:Nat):Int):=by rw[A];lia
   rw[P];exact nx _ _ ⟨⟨_,_,_,rfl⟩,px,ss,g,by rw[A];exact sl,by rw[A];exact n.mono (by lia)⟩
 ·rintro r M ⟨⟨z,a5,a6,rfl⟩,px,ss,g,sl,n⟩;rw[show (aE j).length=j.length by simp[aE],List.take_length]at sl n⊢;simp[mU];refine⟨by lia,by lia,_,_,rfl,f9 g,by simp;lia,lH ss,λL pm C=>?_⟩
  obtain⟨l,rfl,s2⟩:∃l :List Sw,L=l.map dI/\AN (1+j.sum) l :=by
   refine all_map (f:=dI) (Pr:=λs=>s.g<1+j.sum/\s.a<1+j.sum/\s.b<1+j.sum/\s.a<=s.b) λd hd=>?_;obtain⟨s,hs,e⟩:=aKe.mp (pm.mem_iff.mp hd);exact⟨s,n s hs,e.symm⟩
  have l3:l.length<=13:=by
   have:=pm.length_eq;simp at this
   lia
  rw[bE (aJ _ _)];simp only[aH];refine⟨by lia,?_⟩
  have Q:D.tup [D.int (1+(j.sum:Nat)+(c:Nat)),D.tup [D.tup [D.str (Str.ofString "a"),D.int 0]],D.tup (l.map dI)]=dE ⟨1+j.sum+c,[(Str.ofString "a",0)],l⟩:=by
   simp[dE,dU]
  rw[Q];refine(px.push _).out ok (qY _ _) (q _ ⟨?_,?_,?_,?_,?_,?_,l3,?_,C⟩ ?_)
  ·show 1<=1+j.sum+c
   lia
  ·show 1+j.sum+c<=9
   lia
  ·intro p H;simp at H;subst H;show 0<1+j.sum+c
   lia
  ·intro s hs;obtain⟨V,W,X,_⟩:=s2 s hs;exact⟨by show _<1+j.sum+c;lia,by show _<1+j.sum+c;lia,by show _<1+j.sum+c;lia⟩
  ·exact λs hs=>(s2 s hs).2.2.2
  ·simp
  ·simp
  ·show 1+j.sum+c<=7+c
   lia
theorem rH:∀l:List (Str×Nat),fP (l.map dU)=true/\bS (l.map dU)<=1
 | []=>⟨rfl,by simp[bS]⟩
 | n::l=>by
  obtain⟨a,b⟩:=rH l;refine⟨by simp[fP,cY,dU,a],?_⟩;simp only[List.map_cons,bS,dU,deep]
  lia
theorem nY:∀l:List Sw,fP (l.map dI)=true/\bS (l.map dI)<=1
 | []=>⟨rfl,by simp[bS]⟩
 | n::l=>by
  obtain⟨a,b⟩:=nY l;refine⟨by simp[fP,cY,dI,a],?_⟩;simp only[List.map_cons,bS,dI,deep]
  lia
theorem W9(x:Ls):cY (dE x)=true/\deep (dE x)<=3:=by
 have a:=rH x.ns;have b:=nY x.sw;refine⟨by simp[dE,cY,fP,a.1,b.1],?_⟩;simp only[dE,deep,bS]
 lia
theorem OQ(m:Nat):(aE (List.range m)).Pairwise (λd e=>lx (enc e) (enc d)=false):=by
 unfold aE;rw[List.pairwise_map];exact aMx.imp λh=>(BH _ _).mpr (by lia)
theorem aAo{l:List (Str×Nat)}(a:fB y)(pm:L.Perm (l.map dU))(b:L.Pairwise (λd e=>lx (enc e) (enc d)=false)):L=y.ns.map dU↔y.ns.Perm l:=by
 refine⟨λz=>?_,λz=>?_⟩
 ·subst z;exact EC pm
 ·exact fC (qP l) (λd hd=>pm.mem_iff.mp hd) (pm.trans (z.symm.map dU)) b a.up
theorem ZH(a:fB y)(pm:L.Perm (l.map dI))(b:L.Pairwise (λd e=>lx (enc e) (enc d)=false)):L=y.sw.map dI↔y.sw.Perm l:=by
 refine⟨λz=>?_,λz=>?_⟩
 ·subst z;exact DJ pm
 ·exact fC (lH l) (λd hd=>pm.mem_iff.mp hd) (pm.trans (z.symm.map dI)) b a.us
theorem KS{L a :List D}(b:fP L=true/\bS L<=2)(d:fP a =true)(q:∀c:Bool,(c=true↔L=a)->Q (.bl c) mh):oEq (.tup L) (.tup a) mh Q:=by
 rw[YB];exact⟨dX b.1,dX d,by have:=b.2;lia,q _ (nX _ _ b.1 d)⟩
def sLd:OA:=λds mh Q=>∃(x y:Ls) (p:List Nat),ds=[dE x,dE y,.tup (aE p)]/\fB x/\fB y/\y.m=x.m/\p.Perm (List.range x.m)/\∀c:Bool,(c=true↔mC x y p)->Q (.bl c) mh
theorem W0(ds:List D)(mh:MH)(R:DK)(ok:fZ mh)(hs:sLd ds mh R):uK (En mh R) (aG ["one","other","renaming","names","switches","sort","gate","low","high","width","length","ends"] ds) mh:=by
 obtain⟨x,y,p,rfl,B,W,hm,X,q⟩:=hs;have sz:=aKc;have m8:=B.m8;have ln:=B.ln;have lw:=B.lw;have pl:p.length=x.m:=by rw[X.length_eq];simp
 have Y:∀a b c:D,fY [a,b,c] 1=some b:=λ_ _ _=>rfl;have Z:∀a b c:D,fY [a,b,c] 2=some c:=λ_ _ _=>rfl;simp[uK,aG,dE,Y,bC];refine fF dU (λa:Str×Nat=>(a.1,mk p a.2)) dU x.ns trivial (λa ha N hN=>?_) ?_
 ·have:=B.ns a ha;simp[dU,iP,e9 (show a.2<p.length by lia)];exact⟨by lia,hN⟩
 have A:=aJ mh (MO.lst ((x.ns.map λa:Str×Nat=>(a.1,mk p a.2)).map dU));have C:bD mh (mh++[MO.lst ((x.ns.map λa:Str×Nat=>(a.1,mk p a.2)).map dU)]):=bD.refl.push _;have o:(mh++[MO.lst ((x.ns.map λa:Str×Nat=>(a.1,mk p a.2)).map dU)]).length=mh.length+1:=by simp
 generalize mh++[MO.lst ((x.ns.map λa:Str×Nat=>(a.1,mk p a.2)).map dU)]=M0 at C A o⊢;have n:=aJ M0 (MO.lst []);have E:=aK (x:=MO.lst []) A;have F:=C.push (MO.lst []);rw[o]at n;simp[yX,yW,Z,bC,o];generalize M0++[MO.lst []]=M1 at F n E⊢;refine cH (λi K M=>(∃a5 a6 a7 a8 O r t,K=[some (dE x),some (dE y),some (.tup (aE p)),some (.ref mh.length),some (.ref (mh.length+1)),a5,a6,a7,a8,O,r,t])/\bD mh M/\M[mh.length]? =some (.lst ((x.ns.map λa:Str×Nat=>(a.1,mk p a.2)).map dU))/\M[mh.length+1]? =some (.lst (((x.sw.take i).map (A2 p)).map dI))) _ (λ_ _ _ _=>trivial) ?_ ?_ ⟨⟨_,_,_,_,_,_,_,rfl⟩,F,E,by simpa using n⟩
 ·rintro i d K M N hi ⟨⟨a5,a6,a7,a8,O,r,t,rfl⟩,px,A,n⟩ nx;obtain⟨s,P,rfl⟩:=lK hi;obtain⟨p1,p2,p3⟩:=B.sw s (aK9 P);have hil:i<x.sw.length:=(aK5.mp P).1;simp[dI,u4,e9 (show s.a<p.length by lia),e9 (show s.b<p.length by lia)];refine⟨by lia,_,_,rfl,f9 (aJ _ _),by simp,.inl ⟨.i,by simp[b7]⟩,λL pm Q=>?_⟩;obtain⟨u,v,rfl,S,T⟩:=N3 pm Q;have hr:=OO T S;have G:=(px.push (MO.lst [.int (mk p s.a:Nat),.int (mk p s.b:Nat)])).push (MO.lst [.int (u:Nat),.int (v:Nat)]);have H:=aK (x:=MO.lst [.int (u:Nat),.int (v:Nat)]) (aK (x:=MO.lst [.int (mk p s.a:Nat),.int (mk p s.b:Nat)]) A);have h:=aK (x:=MO.lst [.int (u:Nat),.int (v:Nat)]) (aK (x:=MO.lst [.int (mk p s.a:Nat),.int (mk p s.b:Nat)]) n);have J:=aJ (M++[MO.lst [.int (mk p s.a:Nat),.int (mk p s.b:Nat)]]) (MO.lst [.int (u:Nat),.int (v:Nat)]);generalize (M++[MO.lst [.int (mk p s.a:Nat),.int (mk p s.b:Nat)]]).length=rt at J⊢;generalize M++[MO.lst [.int (mk p s.a:Nat),.int (mk p s.b:Nat)]]++[MO.lst [.int (u:Nat),.int (v:Nat)]]=M2 at G H h J⊢;have a0:fY [D.int (u:Nat),D.int (v:Nat)] 0=some (.int (u:Nat)):=rfl;simp[qF,l9,e9 (show s.g<p.length by lia)];refine⟨⟨_,h⟩,?_⟩;rw[cA J,a0];simp only[aH];rw[cA J,mB];simp only[aH];refine⟨by lia,?_⟩;rw[dS h];refine⟨by simp;lia,nx _ _ ⟨⟨_,_,_,_,_,_,_,rfl⟩,G.set (by lia) _,get_set H (by lia),(bK _ h).trans ?_⟩⟩;rw[List.take_add_one,P,<-show dI (A2 p s)=D.tup [.str s.s,.int (mk p s.g:Nat),.int (u:Nat),.int (v:Nat),.int s.w,.int s.l] by rw[<-hr];rfl];simp
 ·rintro K M ⟨⟨a5,a6,a7,a8,O,r,t,rfl⟩,px,A,n⟩;rw[show (List.map dI x.sw).length=x.sw.length by simp,List.take_length]at n;simp[yV];refine⟨_,_,rfl,f9 A,by simp;lia,qP _,λL pm Q=>?_⟩
  obtain⟨j,rfl,_⟩:∃j :List (Str×Nat),L=j.map dU/\∀q∈j,True:=by
   refine all_map (f:=dU) (Pr:=λ_=>True) λd hd=>?_;obtain⟨a,_,e⟩:=aKe.mp (pm.mem_iff.mp hd);exact⟨a,trivial,e.symm⟩
  have f1:=rH j;have f2:=rH y.ns;have hN:=aAo W pm Q
  try dsimp only
  rw[bE (aJ _ _)];simp only[aH];rw[show dE y= .tup [.int y.m,.tup (y.ns.map dU),.tup (y.sw.map dI)] from rfl,OG,Y];simp only[aH];refine KS ⟨f1.1,by have:=f1.2;lia⟩ f2.1 λc hc=>?_
  cases c with
  | false=>
   simp[FV];refine(px.push _).out ok rfl (q _ ⟨λz=>absurd z aLa,λz=>?_⟩);exact absurd (hc.mpr (hN.mpr z.ns)) aLa
  | true=>
   simp[FV];refine⟨_,_,rfl,f9 (aK n),by simp;lia,lH _,λL2 I U=>?_⟩
   obtain⟨k,rfl,_⟩:∃k :List Sw,L2=k.map dI/\∀q∈k,True:=by
    refine all_map (f:=dI) (Pr:=λ_=>True) λd hd=>?_;obtain⟨a,_,e⟩:=aKe.mp (I.mem_iff.mp hd);exact⟨a,trivial,e.symm⟩
   have f3:=nY k;have f4:=nY y.sw;have hS:=ZH W I U
   try dsimp only
   rw[bE (aJ _ _)];simp only[aH];rw[Z];simp only[aH];refine KS ⟨f3.1,by have:=f3.2;lia⟩ f4.1 λc V=>?_;refine((px.push _).push _).out ok rfl (q _ ?_);rw[V,hS];exact⟨λz=>⟨X,hm,hN.mp (hc.mp rfl),z⟩,λz=>z.sw⟩
theorem RQ{k c :Nat}(h:M[k]? =some (.lst (aE a)))(h' :M[c]? =some (.lst (aE a)))(q:Q (.bl true) M):VC (.ref k) (.ref c) M Q:=by
 have e:∀{k:Nat} {a:List Nat},M[k]? =some (.lst (aE a))->eX M 2 (.ref k)= .fl (aE a):=λh=>by
  simp only[eX,h];rw[xB]
 have d:=iR a;have b:cY (.fl (aE a))=true:=by simp[cY,d.1]
 refine⟨2,?_⟩;rw[e h,e h',(rJ _ _ b b).mpr rfl];exact⟨d8 b,d8 b,by simp only[deep];lia,q⟩
def sIR:OA:=λds mh Q=>∃(x y:Ls) (p:List Nat),ds=[dE x,dE y,.tup (aE p)]/\fB x/\y.m=x.m/\p.Perm (List.range x.m)/\Q (.bl true) mh
theorem W3(ds:List D)(mh:MH)(R:DK)(ok:fZ mh)(hs:sIR ds mh R):gH SV YC (En mh R) (aG ["one","other","thing"] ds) mh:=by
 obtain⟨x,y,p,rfl,f,hm,e,q⟩:=hs;have sz:=aKc;have l:=f.m8;have g:p.length=x.m:=by rw[e.length_eq];simp
 have i0:∀a b c:D,fY [a,b,c] 0=some a:=λ_ _ _=>rfl;have st:∀M:MH,bC M (.tup (aE p))=some (aE p):=λ_=>rfl;simp[gH,aG,dE,i0];refine⟨aE p,by simp[aE,g],?_⟩;simp[eJ,st];refine fF (λv=>D.int (v:Nat)) (λ_=>true) (λc=>.bl c) p trivial (λv n N hN=>?_) ?_
 ·simp[iP];exact⟨_,rfl,hN⟩
 ·rw[ZN (aJ _ _)];have h:((p.map λ_=>true).all id)=true:=by simp
  rw[h];simp[eJ,lQ,i0];refine⟨_,rfl,by simp[aE];lia,nA p,λL pm i=>?_⟩;refine⟨by lia,?_⟩
  have j:L=aE (List.range x.m):=by
   refine fC (nA p) (λd hd=>pm.mem_iff.mp hd) (pm.trans (e.map _)) i (OQ _)
  have k:fA 0 y.m=aE (List.range x.m):=by rw[hm];simp[fA,aE]
  rw[j,k];refine RQ (aK (aJ _ _)) (aJ _ _) ?_;exact(((bD.refl.push _).push _).push _).out ok rfl q
@[simp] theorem aEe (i j:Str):JK (.str i) (.str j) mh Q↔Q (.bl (!(i==j))) mh:=by simp[JK,hJ,bare,deep,eB]
def nM:OA:=λds mh Q=>∃(x y:Ls) (d:D),ds=[dE x,dE y,d]/\fB x/\fB y/\y.m=x.m/\x.sw.length=y.sw.length/\((∃p,d=rA p/\p.Perm (List.range x.m)/\∀c:Bool,(c=true↔mC x y p)->Q (.bl c) mh)\/(∃e tl l,d=Y5 e/\Run x y (aCi x y) tl l/\YV x y tl l e/\Q (.bl true) mh))
theorem RA(ds:List D)(mh:MH)(R:DK)(ok:fZ mh)(hs:nM ds mh R):mM SV sIR sLd GJ YD pV (ZP 12) OJ pW (En mh R) (aG ["one","other","thing","word","inner","sides"] ds) mh:=by
 obtain⟨x,y,d,rfl,a,b,hm,t,h⟩:=hs;have sz:=aKc;have C:=a.m8;have u:(Str.ofString "two"==Str.ofString "one")=false:=by decide
 rcases h with ⟨p,rfl,g,q⟩ | ⟨e,tl,l,rfl,v,pt,q⟩
 ·simp[mM,aG,rA];refine⟨_,rfl,?_⟩;simp[eJ,pM,pL];refine⟨x,y,p,rfl,a,hm,g,?_⟩;simp[FV];exact⟨x,y,p,rfl,a,b,hm,g,λc w=>bU (q c w)⟩
 ·have i:(bA x).length=x.m:=by simp[bA]
  have z:(bA y).length=x.m:=by simp[bA,hm]
  simp[mM,aG,Y5];refine⟨_,rfl,?_⟩;simp[eJ,pM,pL,u,u3,uZ,aEe];refine⟨x,y,rfl,a,b,hm.symm,t,?_⟩;simp[eJ,uY];refine⟨x,y,rfl,a,b,λM j k px n r=>?_⟩;simp[uX];refine⟨x,y,rfl,a,b,?_⟩;have mk0:Mk x.m (aI [] (bA x)) (aI ((bA x).foldl aV []) (bA y)):=wH i z;refine⟨j,k,x,y,aCi x y,rfl,a,b,hm,n,r,mk0,λtl' l' T st f =>?_⟩;obtain⟨A,B⟩:=JG v f;subst A B;have s:∀o,bD M (M++[o]):=λo=>bD.refl.push o;refine⟨j,k,M.length,x,y,_,_,_,e,rfl,a,b,hm,n.px (s _),r.px (s _),aJ _ _,T,?_,pt,(px.push _).out ok rfl q⟩;have:=PH (aI [] (bA x));rw[bO,i]at this;show JM (aI [] (bA x))<12
  lia
theorem fB.okS(a:fB x):AN x.m x.sw:=λs hs=>by
 obtain⟨b,c,d⟩:=a.sw s hs;exact⟨b,c,d,a.ab s hs⟩
theorem K0(M:MH):∀l:List Sw,(l.map dI).map (eX M 1)=l.map dI
 | []=>rfl
 | s::l=>by rw[List.map_cons,List.map_cons,K0 M l];rfl
theorem ne_nil{k a :Nat}(h:M[k]? =some (.lst (l.map dI)))(h' :M[a]? =some (.lst []))(q:∀c:Bool,(c=true↔¬l=[])->Q (.bl c) M):LY (.ref k) (.ref a) M Q:=by
 have e:eX M 2 (.ref k)= .fl (l.map dI):=by
  simp only[eX,h];rw[K0]
 have f:eX M 2 (.ref a)= .fl []:=by simp only[eX,h',List.map_nil]
 have g:=nY l;have b:cY (.fl (l.map dI))=true:=by simp[cY,g.1]
 have d:cY (.fl [])=true:=rfl;refine⟨2,?_⟩;rw[e,f];refine⟨d8 b,d8 d,by simp only[deep];lia,q _ ?_⟩;have:=rJ _ _ b d;rw[Bool.not_eq_true',<-Bool.not_eq_true,this];simp
def S0:OA:=λds mh Q=>∃(b:Nat) (x:Ls),ds=[.ref b,dE x]/\fB x/\x.m<=8/\C1 mh b/\∀(y:Ls) a,fB y->y.m=x.m->y.sw.length=x.sw.length->dH mh b a->Q (dE y) a
theorem WZ(ds:List D)(mh:MH)(R:DK)(ok:fZ mh)(hs:S0 ds mh R):jK bP vV r9 OI (En mh R) (aG ["_law_bag_here","_law_one","_law_same","_law_rest"] ds) mh:=by
 obtain⟨b,x,rfl,j,m8,T,q⟩:=hs;have sz:=aKc;have lw:=j.lw;have U:=j.m8;have ex:dE x= .tup [D.int x.m,D.tup (List.map dU x.ns),D.tup (List.map dI x.sw)]:=rfl;have i0:fY [D.int x.m,D.tup (List.map dU x.ns),D.tup (List.map dI x.sw)] 0=some (D.int x.m):=rfl;have V:fY [D.int x.m,D.tup (List.map dU x.ns),D.tup (List.map dI x.sw)] 1=some (D.tup (List.map dU x.ns)):=rfl;have W:fY [D.int x.m,D.tup (List.map dU x.ns),D.tup (List.map dI x.sw)] 2=some (D.tup (List.map dI x.sw)):=rfl
 have o:∀(M:MH) (r:Nat) (ss:List Sw) (a2:Option D),dF mh b M->M[r]? =some (.lst (ss.map dI))->AN x.m ss->ss.length=x.sw.length->jY bP vV r9 OI (En mh R) [some (.ref b),some (dE x),a2,some (.ref r)] M:=λM r ss a2 J g X sl=>by
  simp[jY,ex,i0,V];refine⟨_,_,rfl,f9 g,by simp;lia,lH _,λL pm Y=>?_⟩
  obtain⟨i,rfl,A⟩:∃i :List Sw,L=i.map dI/\AN x.m i :=by
   refine all_map (f:=dI) (Pr:=λs=>s.g<x.m/\s.a<x.m/\s.b<x.m/\s.a<=s.b) λd hd=>?_;obtain⟨c,C,e⟩:=aKe.mp (pm.mem_iff.mp hd);exact⟨c,X c C,e.symm⟩
  have l3:i.length=x.sw.length:=by
   have:=pm.length_eq;simp at this
   lia
  try dsimp only
  rw[bE (aJ _ _)];simp only[aH];refine⟨by lia,?_⟩;refine⟨b,x.m,rfl,U,(J.push _).YU,λp B Z t1=>?_⟩;refine⟨⟨x.m,x.ns,i⟩,_,p,rfl,⟨j.m1,j.m8,j.ns,λs hs=>⟨(A s hs).1,(A s hs).2.1,(A s hs).2.2.1⟩,λs hs=>(A s hs).2.2.2,j.ln,by show i.length<=13;lia,j.up,Y⟩,.inr ⟨_,rfl,aJ _ _⟩,Z,λz zo K=>?_⟩;refine(((J.push _).to t1).push _).out ok (qY _ z) λE t=>q z E zo K.m ?_ t;have:=K.sw.length_eq;simp at this
  lia
 simp[jK,aG];refine fV (.refl T) (by lia) (by lia) λk B k0 k1 y ln1 h1=>?_;simp[oZ];rw[ex,OG,W];simp only[aH];rw[<-ex];simp[bC];have l:=y.push (MO.lst (x.sw.map dI));have w:=aJ B (MO.lst (x.sw.map dI));have v:=y.le;generalize B++[MO.lst (x.sw.map dI)]=M2 at l w⊢;generalize B.length=r at w v⊢;simp[oY];by_cases N:k=0
 ·rw[if_pos N];refine ne_nil (aK w) (aJ _ _) λc C=>?_
  cases c with
  | false=>
   simp[FV];exact o _ r x.sw _ (l.push _) (aK w) j.okS rfl
  | true=>
   have F:=C.mp rfl;have O:0<x.sw.length:=List.length_pos_iff.mpr F;simp[FV];rw[ex,OG,i0];simp only[aH];rw[<-ex];have n:=l.push (MO.lst []);have P:=aK (x:=MO.lst []) w;generalize M2++[MO.lst []]=M3 at n P⊢;refine⟨b,x.m,1,rfl,j.m1,m8,n.YU,λs M4 s1 s2 s3 s4 Q=>?_⟩;have G:=n.to Q;have S:M4[r]? =some (.lst (x.sw.map dI)):=by rw[Q.other (by have:=n.blt;lia)];exact P
   dsimp only;rw[lI S];simp;refine fV G (by lia) (by lia) λu M5 u0 u1 H ln5 h5=>?_;have I:=h5 r v;rw[S]at I;obtain⟨u,rfl⟩:=aKp u0;have hu:u<x.sw.length:=by lia
   refine⟨r,_,_,u,rfl,rfl,I,?_,?_⟩
   ·simp only[List.length_map];unfold J9;rw[if_pos (by lia),if_pos (by lia)];simp
   ·refine o _ r (x.sw.set u s) _ (H.set v _) ((bK _ I).trans (by rw[List.map_set])) (λz hz=>?_) (by simp);rcases List.mem_or_eq_of_mem_set hz with h | h
    ·exact j.okS z h
    ·subst h;exact⟨s1,s2,s3,s4⟩
 ·rw[if_neg N];exact o _ r x.sw _ l w j.okS rfl
variable{q:List Nat}
theorem BD(h:i<p.length):mk (p.map (mk q)) i=mk q (mk p i):=by simp[mk,List.getD,h]
theorem UC{s:Sw}(d:s.g<p.length)(e:s.a<p.length)(f:s.b<p.length):A2 q (A2 p s)=A2 (p.map (mk q)) s:=by
 unfold A2;rw[BD d,BD e,BD f];by_cases a:mk p s.a<=mk p s.b
 ·simp only[if_pos a]
 ·simp only[if_neg a];by_cases b:mk q (mk p s.b)<=mk q (mk p s.a)
  ·by_cases c:mk q (mk p s.a)<=mk q (mk p s.b)
   ·rw[if_pos b,if_pos c,Nat.le_antisymm b c]
   ·rw[if_pos b,if_neg c]
  ·rw[if_neg b,if_pos (by lia)]
theorem MD{x y z:Ls}(a:fB x)(h:mC x y p)(h' :mC y z q):mC x z (p.map (mk q)):=by
 have d:p.length=x.m:=by rw[h.pm.length_eq];simp
 have b:q.Perm (List.range x.m):=by rw[<-h.m];exact h'.pm
 refine⟨?_,by rw[h'.m,h.m],?_,?_⟩
 ·refine(h.pm.map (mk q)).trans ?_;rw[pX b];exact b
 ·refine h'.ns.trans ((h.ns.map _).trans ?_);rw[List.map_map];refine aLx (aKo λn c=>?_);have:=a.ns n c;simp[BD (show n.2<p.length by lia)]
 ·refine h'.sw.trans ((h.sw.map _).trans ?_);rw[List.map_map];refine aLx (aKo λs hs=>?_);obtain⟨e,f,g⟩:=a.sw s hs;exact UC (by lia) (by lia) (by lia)
open Classical in
noncomputable def wd(x y:Ls):Str:=if ∃p,mC x y p then "one" else "two"
theorem g8(h:mC x y p):wd x y= "one":=by
 unfold wd;rw[if_pos ⟨p,h⟩]
theorem mE(h:∀p,¬mC x y p):wd x y= "two":=by
 unfold wd;rw[if_neg λz=>z.elim λp q=>h p q]
theorem HP.word(h:HP x y d):∃e,d= .tup [.str (wd x y),e]:=by
 rcases h with ⟨p,rfl,is⟩ | ⟨e,tl,l,rfl,_,_,_,a⟩
 ·exact⟨_,by rw[g8 is];rfl⟩
 ·exact⟨_,by rw[mE a];rfl⟩
theorem YY(b:fB x)(c:fB y):wd x y=wd y x:=by
 by_cases h:∃p,mC x y p
 ·obtain⟨p,a⟩:=h;rw[g8 a,g8 (KC a b)]
 ·have h' :∀p,¬mC x y p:=λp a=>h ⟨p,a⟩;rw[mE h',mE λp a=>h' _ (KC a c)]
theorem HP.one(h:HP x y d)(a:wd x y= "one"):∃p,d=rA p/\mC x y p:=by
 rcases h with z | ⟨e,tl,l,rfl,_,_,_,b⟩
 ·exact z
 ·rw[mE b]at a;exact absurd a (by decide)
structure T3(X:Nat->Ls):Prop where
 ok:∀i,i<3->fB (X i)
 m8:∀i,i<3->(X i).m<=8
 m:∀i j,i<3->j<3->(X i).m=(X j).m
 sw:∀i j,i<3->j<3->(X i).sw.length=(X j).sw.length
def l3(f:Nat->D):List D:=[f 0,f 1,f 2]
theorem at3{f:Nat->D}(h:i<3):fY (l3 f) (i:Nat)=some (f i):=by
 have:i=0\/i=1\/i=2:=by lia
 rcases this with rfl | rfl | rfl <;> exact bZ rfl
structure PM(M:MH)(X:Nat->Ls)(Dm:Nat->Nat->D)(r k:Nat):Prop where
 l:M[r]? =some (.lst (l3 λi=>dE (X i)))
 p:M[k+3]? =some (.lst (l3 λi=>.ref (k+i)))
 d:∀i,i<3->M[k+i]? =some (.lst (l3 (Dm i)))
 h:∀i j,i<3->j<3->HP (X i) (X j) (Dm i j)
section
variable {M:MH}{X:Nat->Ls}{Dm:Nat->Nat->D}{r k:Nat}{Q:DK}
theorem PM.S6(h:PM M X Dm r k)(hi:i<3)(q:Q (dE (X i)) M):aX (.ref r) (.int (i:Nat)) M Q:=by
 rw[cA h.l,at3 hi];exact q
theorem PM.S5(h:PM M X Dm r k)(hi:i<3)(q:Q (.ref (k+i)) M):aX (.ref (k+3)) (.int (i:Nat)) M Q:=by
 rw[cA h.p,at3 hi];exact q
theorem PM.S7(h:PM M X Dm r k)(hi:i<3)(a:j<3)(q:Q (Dm i j) M):aX (.ref (k+i)) (.int (j:Nat)) M Q:=by
 rw[cA (h.d i hi),at3 a];exact q
theorem PM.YO(h:PM M X Dm r k)(hi:i<3)(a:j<3)(q:Q (.str (wd (X i) (X j))) M):aX (Dm i j) (.int 0) M Q:=by
 obtain⟨e,he⟩:=(h.h i j hi a).word;rw[he];exact aDu q
end
variable{X:Nat->Ls}{Dm:Nat->Nat->D}
theorem aJh{r k i j:Nat}(t:T3 X)(h:PM M X Dm r k)(hi:i<3)(a:j<3)
  (nx:E.nx [a0,a1,a2,a3,some (.ref r),some (.ref (k+3)),some (.int (i:Nat)),some (.int (j:Nat)),a8] M):
  u7 vW bP SX SY SW S0 lZ nM r9 E [a0,a1,a2,a3,some (.ref r),some (.ref (k+3)),some (.int (i:Nat)),some (.int (j:Nat)),a8] M:=by
 have sz:=aKc;have d:=t.ok i hi;have g:=t.ok j a;have v:=t.m j i a hi;have ss:=t.sw i j hi a;have B:(Str.ofString "two"==Str.ofString "one")=false:=by decide
 have C:(Str.ofString "one"==Str.ofString "two")=false:=by decide
 have w:=h.h i i hi hi;have n:=h.h i j hi a;have o:wd (X i) (X i)= "one":=g8 (Q1 d);simp[u7];refine h.S5 hi (h.S7 hi a (h.YO hi a (h.S5 a (h.S7 a hi (h.YO a hi ?_)))));rw[YY d g];simp;refine h.S5 hi (h.S7 hi hi (h.YO hi hi ?_));rw[o];simp[u6];refine h.S6 hi (h.S6 a (h.S5 hi (h.S7 hi a ?_)))
 have s:pN vW bP SX SY SW S0 lZ nM r9 E [a0,a1,a2,a3,some (.ref r),some (.ref (k+3)),some (.int (i:Nat)),some (.int (j:Nat)),a8] M:=by
  simp[pN];refine h.S5 hi (h.S7 hi a (h.YO hi a ?_));by_cases z:∃p,mC (X i) (X j) p
  ·obtain⟨p,b⟩:=z;rw[g8 b];simp[C];exact nx
  ·have y :∀p,¬mC (X i) (X j) p:=λp b=>z ⟨p,b⟩;rw[mE y];simp;refine h.S6 hi (h.S6 a (h.S5 hi (h.S7 hi hi ?_)));obtain⟨q,D,F⟩:=w.one o;refine⟨X i,X j,_,rfl,d,g,v,ss,.inl ⟨q,D,F.pm,λc x=>?_⟩⟩
   cases c with
   | true=>exact absurd (x.mp rfl) (y q)
   | false=>simp[eJ];exact nx
 have G:∀Q:DK,Q (.bl true) M->nM [dE (X i),dE (X j),Dm i j] M Q:=λQ q=>by
  rcases n with ⟨p,e,is⟩ | ⟨e,tl,l,H,_,I,pt,_⟩
  ·refine⟨X i,X j,_,rfl,d,g,v,ss,.inl ⟨p,e,is.pm,λc x=>?_⟩⟩;have:c=true:=x.mpr is;rw[this];exact q
  ·exact⟨X i,X j,_,rfl,d,g,v,ss,.inr ⟨e,tl,l,H,I,pt,q⟩⟩
 refine G _ ?_;simp[eJ,u5];refine h.S5 hi (h.S7 hi a (h.YO hi a ?_));by_cases z:∃p,mC (X i) (X j) p
 ·obtain⟨p,b⟩:=z;obtain⟨p,ep,A⟩:=n.one (g8 b);rw[g8 b];simp;refine h.S6 hi (h.S5 hi (h.S7 hi a ?_));rw[ep];simp[rA,mB];refine⟨X i,_,p,rfl,d,.inl rfl,A.pm,λu J K=>?_⟩;refine h.S6 a ?_;rw[Q0 K A J g];have f:=W9 (X j);refine⟨d8 f.1,d8 f.1,by show deep (dE (X j))<=40;have:=f.2;lia,?_⟩;show got (FV (.bl !eB (dE (X j)) (dE (X j)))) _;rw[(rJ _ _ f.1 f.1).mpr rfl];simp[FV];exact s
 ·rw[mE λp b=>z ⟨p,b⟩];simp[B];exact s
theorem aG1{r k:Nat}(t:T3 X)(h:PM M X Dm r k)
  (nx:∀M a8,E.nx [a0,a1,a2,a3,some (.ref r),some (.ref (k+3)),a6,a7,a8] M):
  pO vW bP SX SY SW S0 lZ nM r9 E [a0,a1,a2,a3,some (.ref r),some (.ref (k+3)),a6,a7,a8] M:=by
 have sz:=aKc;have u:(Str.ofString "two"==Str.ofString "one")=false:=by decide
 have w:=t.ok 0 (by lia);have O:=t.ok 1 (by lia);have F:=t.ok 2 (by lia);have G:∀{Q:DK} {M},PM M X Dm r k->Q (dE (X 0)) M->aX (.ref r) (.int 0) M Q:=λh q=>h.S6 (i:=0) (by lia) q;have H:∀{Q:DK} {M},PM M X Dm r k->Q (dE (X 2)) M->aX (.ref r) (.int 2) M Q:=λh q=>h.S6 (i:=2) (by lia) q;have e:∀{Q:DK} {M},PM M X Dm r k->Q (.ref (k+0)) M->aX (.ref (k+3)) (.int 0) M Q:=λh q=>h.S5 (i:=0) (by lia) q;have x:∀{Q:DK} {M},PM M X Dm r k->Q (.ref (k+1)) M->aX (.ref (k+3)) (.int 1) M Q:=λh q=>h.S5 (i:=1) (by lia) q;have y:∀{Q:DK} {M} {i},i<3->PM M X Dm r k->Q (Dm i 1) M->aX (.ref (k+i)) (.int 1) M Q:=λhi h q=>h.S7 (j:=1) hi (by lia) q;have f:∀{Q:DK} {M} {i},i<3->PM M X Dm r k->Q (Dm i 2) M->aX (.ref (k+i)) (.int 2) M Q:=λhi h q=>h.S7 (j:=2) hi (by lia) q;have g:=h.h 0 1 (by lia) (by lia);have n:=h.h 1 2 (by lia) (by lia);simp[pO];refine e h (y (by lia) h (h.YO (by lia) (by lia) ?_));by_cases z:∃p,mC (X 0) (X 1) p
 ·obtain⟨p,a⟩:=z;obtain⟨p,ep,b⟩:=g.one (g8 a);rw[g8 a];simp;refine x h (f (by lia) h (h.YO (by lia) (by lia) ?_));by_cases A:∃p,mC (X 1) (X 2) p
  ·obtain⟨q,B⟩:=A;obtain⟨q,I,C⟩:=n.one (g8 B);have o:=MD w b C;have P:p.length=(X 0).m:=by rw[b.pm.length_eq];simp
   have R:q.length=(X 0).m:=by rw[C.pm.length_eq];simp[b.m]
   rw[g8 B];simp;refine e h (y (by lia) h ?_);rw[ep];have st:∀M:MH,bC M (.tup (aE p))=some (aE p):=λ_=>rfl;simp[rA,mB,st];refine fF (λv=>D.int (v:Nat)) (λv=>mk q v) (λv=>.int (v:Nat)) p trivial (λv J N hN=>?_) ?_
   ·have s :v<q.length:=by
     have:=b.pm.mem_iff.mp J;simp at this
     lia
    simp[iP];refine x h (f (by lia) h ?_);rw[I];simp[rA,mB,e9 s];exact hN
   ·have h' :PM (M++[MO.lst (aE (p.map (mk q)))]) X Dm r k:=⟨aK h.l,aK h.p,λi hi=>aK (h.d i hi),h.h⟩
    rw[bE (aJ _ _)];simp only[aH];have K:(p.map (λv=>mk q v)).map (λv=>D.int (v:Nat))=aE (p.map (mk q)):=rfl;rw[K];generalize M++[MO.lst (aE (p.map (mk q)))]=M2 at h' ⊢;refine e h' (f (by lia) h' (h'.YO (by lia) (by lia) ?_));rw[g8 o];simp;refine G h' (H h' ⟨by lia,?_⟩);refine⟨X 0,X 2,_,rfl,w,F,t.m 2 0 (by lia) (by lia),t.sw 0 2 (by lia) (by lia),.inl ⟨p.map (mk q),rfl,o.pm,λc L=>?_⟩⟩;have:c=true:=L.mpr o;rw[this];simp[eJ];exact nx _ _
  ·rw[mE λp a=>A ⟨p,a⟩];simp[u];exact nx _ _
 ·rw[mE λp a=>z ⟨p,a⟩];simp[u];exact nx _ _
theorem aG2{r k:Nat}(t:T3 X)(h:PM M X Dm r k)
  (nx:∀M a6 a7 a8,E.nx [a0,a1,a2,a3,some (.ref r),some (.ref (k+3)),a6,a7,a8] M):
  pP vW bP SX SY SW S0 lZ nM r9 E [a0,a1,a2,a3,some (.ref r),some (.ref (k+3)),a6,a7,a8] M:=by
 have sz:=aKc;simp[pP];refine⟨by lia,?_⟩;refine cH (λi a b =>(∃a6 a7,a=[a0,a1,a2,a3,some (.ref r),some (.ref (k+3)),a6,a7,a8])/\b =M) _ (λ_ _ _ _=>trivial) ?_ ?_ ⟨⟨_,_,rfl⟩,rfl⟩
 ·rintro i d a b N hi ⟨⟨a6,a7,rfl⟩,rfl⟩ c;obtain⟨e,rfl⟩:=jO hi;have m:(0:Int)+(i:Nat)=(i:Nat):=by lia
  rw[m];simp[C6];refine⟨by lia,?_⟩;refine cH (λj a f =>(∃a7,a=[a0,a1,a2,a3,some (.ref r),some (.ref (k+3)),some (.int (i:Nat)),a7,a8])/\f =b) _ (λ_ _ _ _=>trivial) ?_ ?_ ⟨⟨_,rfl⟩,rfl⟩
  ·rintro j d a b N n ⟨⟨a7,rfl⟩,rfl⟩ g;obtain⟨l,rfl⟩:=jO n;have o:(0:Int)+(j:Nat)=(j:Nat):=by lia
   rw[o];simp;exact aJh t h e l (g _ _ ⟨⟨_,rfl⟩,rfl⟩)
  ·rintro a b ⟨⟨a7,rfl⟩,rfl⟩;exact c _ _ ⟨⟨_,_,rfl⟩,rfl⟩
 ·rintro a b ⟨⟨a6,a7,rfl⟩,rfl⟩;exact aG1 t h λM a8=>nx M _ _ _
theorem aIu{N:DK}(t:T3 X)(hi:i<3)(p:M[r]? =some (.lst (l3 λi=>dE (X i))))
  (q:∀f:Nat->D,(∀j,j<3->HP (X i) (X j) (f j))->N (.ref M.length) (M++[.lst (l3 f)])):
  rW ["_law_second"] [0] (dG (aB 1)) (gN 0) iX (aC lZ (aA (aB 1) (aA (aB 0) aD))) [some (dE (X i)),some (.ref r)] M N:=by
 have one:∀(j:Nat) (Q:DK),j<3->(∀d,HP (X i) (X j) d->Q d M)->lZ [dE (X i),dE (X j)] M Q:=λj Q a q=>⟨X i,X j,rfl,t.ok i hi,t.ok j a,.inl (t.m8 i hi),t.m j i a hi,t.sw i j hi a,q⟩
 have st:=bE p;simp;rw[st];simp only[aH];refine kS (λj b g =>g =M/\b.length=j/\∀n d,b[n]? =some d->HP (X i) (X n) d) _ (λ_ _ g h=>by rw[h.1];exact st) ?_ ?_ ⟨rfl,rfl,λn d h=>by simp at h⟩
 ·rintro j d b g y a ⟨rfl,k,c⟩ nx
  have l:j<3:=by
   have:=(aK5.mp a).1;simpa[l3] using this
  have s:d=dE (X j):=by
   have:j=0\/j=1\/j=2:=by lia
   rcases this with rfl | rfl | rfl <;> simp[l3]at a <;> exact a.symm
  subst s;simp[iP];refine one j _ l λd hd=>nx _ _ ⟨rfl,by simp[k],λn e he=>?_⟩;by_cases z:n<b.length
  ·rw[List.getElem?_append_left z]at he;exact c n e he
  ·have:=(aK5.mp he).1;simp at this;have x :n=b.length:=by lia
   subst x;simp at he;subst he;rw[k];exact hd
 ·rintro b g ⟨rfl,k,c⟩;have o:b.length=3:=by rw[k];rfl
  match b,o,c with
  | [u,v,w],_,c=>
   have:=q (λj=>if j=0 then u else if j=1 then v else w) λj a=>by
    have:j=0\/j=1\/j=2:=by lia
    rcases this with rfl | rfl | rfl
    ·exact c 0 u rfl
    ·exact c 1 v rfl
    ·exact c 2 w rfl
   simpa[l3] using this
theorem aG3(t:T3 X)(e:M[r]? =some (.lst (l3 λi=>dE (X i))))
  (nx:∀M v a5 a6 a7 a8,E.nx [a0,a1,a2,a3,v,a5,a6,a7,a8] M):
  pQ vW bP SX SY SW S0 lZ nM r9 E [a0,a1,a2,a3,some (.ref r),a5,a6,a7,a8] M:=by
 simp[pQ];rw[bE e];simp only[aH]
 refine kS (λj l c =>(∃T,c =M++T/\T.length=j)/\(l=(List.range j).map λn=>.ref (M.length+n))/\∀n,n<j->∃f:Nat->D,c[M.length+n]? =some (.lst (l3 f))/\∀i,i<3->HP (X n) (X i) (f i)) _ (λ_ _ c h=>by
  obtain⟨⟨T,rfl,_⟩,_⟩:=h
  exact bE (B2 e)) ?_ ?_ ⟨⟨[],by simp,rfl⟩,rfl,λn u=>absurd u (aMn _)⟩
 ·rintro j d l c N a ⟨⟨T,rfl,tl⟩,rfl,b⟩ m
  have o:j<3:=by
   have:=(aK5.mp a).1;simpa[l3] using this
  have w:d=dE (X j):=by
   have:j=0\/j=1\/j=2:=by lia
   rcases this with rfl | rfl | rfl <;> simp[l3]at a <;> exact a.symm
  subst w;simp only[iP,gN,OC,if_true];refine aIu (M:=M++T) (r:=r) t o (B2 e) λf p=>m _ _ ⟨⟨T++[.lst (l3 f)],by simp,by simp[tl]⟩,?_,λn u=>?_⟩
  ·rw[List.range_succ];simp[tl]
  ·by_cases z:n=j
   ·subst z;exact⟨f,by rw[<-tl,<-List.length_append];exact aJ _ _,p⟩
   ·obtain⟨g,q,s⟩:=b n (by lia);exact⟨g,aK q,s⟩
 ·rintro l c ⟨⟨T,rfl,tl⟩,rfl,b⟩;have x:(l3 λi=>dE (X i)).length=3:=rfl;rw[x]at tl b⊢;obtain⟨f0,y,h0⟩:=b 0 (by lia);obtain⟨A,B,q⟩:=b 1 (by lia);obtain⟨C,F,s⟩:=b 2 (by lia);have em:(M++T).length=M.length+3:=by simp[tl]
  rw[em];refine aG2 (Dm:=λi=>if i=0 then f0 else if i=1 then A else C) (k:=M.length) t ⟨aK (B2 e),?_,λi hi=>?_,λi j hi a=>?_⟩ λM a6 a7 a8=>nx _ _ _ _ _ _
  ·rw[<-em];exact aJ _ _
  ·have:i=0\/i=1\/i=2:=by lia
   rcases this with rfl | rfl | rfl
   ·exact aK y
   ·exact aK B
   ·exact aK F
  ·have:i=0\/i=1\/i=2:=by lia
   rcases this with rfl | rfl | rfl
   ·exact h0 j a
   ·exact q j a
   ·exact s j a
theorem RB{b:Nat}{a0 a1 f a5 a6 a7 a8:Option D}(l:fB x)(m8:x.m<=8)(n:C1 mh b)
  (nx:∀M f a5 a6 a7 a8,E.nx [a0,a1,some (.ref b),some (dE x),f,a5,a6,a7,a8] M):
  pR vW bP SX SY SW S0 lZ nM r9 E [a0,a1,some (.ref b),some (dE x),f,a5,a6,a7,a8] mh:=by
 have sz:=aKc;simp[pR];refine⟨b,x,rfl,l,m8,n,λy g o v w q=>?_⟩;have a:=(dF.refl n).to q;have c:=a.push (MO.lst [dE x,dE y]);have d:=aJ g (MO.lst [dE x,dE y]);have h:=a.le;have blt:=a.blt;refine⟨by lia,?_⟩;generalize g++[MO.lst [dE x,dE y]]=M2 at c d⊢;generalize g.length=r at d h⊢;simp[u9,l9];refine⟨⟨_,d⟩,?_⟩;rw[cA d,mB];simp only[aH];refine⟨b,y,rfl,o,by lia,c.YU,λz s t A B u=>?_⟩;have p:s[r]? =some (.lst [dE x,dE y]):=by rw[u.other (by lia)];exact d
 dsimp only;rw[dS p];refine⟨by simp;lia,?_⟩;refine aG3 (X:=λi=>if i=0 then x else if i=1 then y else z) (r:=r) ⟨λi hi=>?_,λi hi=>?_,λi j hi k=>?_,λi j hi k=>?_⟩ (bK _ p) λM f a5 a6 a7 a8=>nx _ _ _ _ _ _
 ·have:i=0\/i=1\/i=2:=by lia
  rcases this with rfl | rfl | rfl
  ·exact l
  ·exact o
  ·exact t
 ·have:i=0\/i=1\/i=2:=by lia
  rcases this with rfl | rfl | rfl
  ·exact m8
  ·show y.m<=8
   lia
  ·show z.m<=8
   lia
 ·have:i=0\/i=1\/i=2:=by lia
  have:j=0\/j=1\/j=2:=by lia
  have e:∀i,i<3->(if i=0 then x else if i=1 then y else z).m=x.m:=λi hi=>by
   split
   ·rfl
   ·split <;> lia
  rw[e i hi,e j k]
 ·have e:∀i,i<3->(if i=0 then x else if i=1 then y else z).sw.length=x.sw.length:=λi hi=>by
   split
   ·rfl
   ·split <;> lia
  rw[e i hi,e j k]
theorem aG0(ds:List D)(mh:MH)(R:DK)(ok:fZ mh)(hs:x3 ds mh R):IT vW bP SX SY SW S0 lZ nM r9 (En mh R) (aG ["_law_script","_law_k","_law_bag_here","_law_one","_law_lists","_law_papers","_law_i","_law_j","_law_duo"] ds) mh:=by
 obtain⟨ns,rfl,t,q⟩:=hs;have sz:=aKc;simp[IT,aG];refine⟨by split <;> (try split) <;> lia,by split <;> (try split) <;> lia,?_⟩;refine cH (λi m _=>∃a b c d e f g h,m=[some (.fl (ns.map .int)),a,b,c,d,e,f,g,h]) _ (λ_ _ _ _=>trivial) ?_ ?_ ⟨_,_,_,_,_,_,_,_,rfl⟩
 ·rintro i d m w N hi ⟨a,b,c,d',e,f,g,h,rfl⟩ nx;obtain⟨j,rfl⟩:=jO hi
  have y:i<12:=by
   revert j;split <;> (try split) <;> intro j <;> lia
  simp[C7];refine XT t (by lia) (by lia) λz _ A=>?_;simp[vA];refine fV (.refl A) (by lia) (by lia) λu K L O k B P=>?_;simp;by_cases p:u=0
  ·rw[if_pos p];refine fV k (by lia) (by lia) λv M2 C Q l E S=>?_;obtain⟨v,rfl⟩:=aKp C;rw[AZ,show (2:Int)+((v:Nat):Int)=((2+v:Nat):Int) by lia];refine⟨_,2+v,rfl,by lia,l.YU,λF T G r H=>?_⟩;have n:=l.to H;refine⟨_,0,F,rfl,aJ _ _,G,by lia,by lia,λx o s=>RB o (by lia) (n.push _).YU λM I a5 a6 a7 a8=>nx _ _ ⟨_,_,_,_,_,_,_,_,rfl⟩⟩
  ·rw[if_neg p];exact⟨_,rfl,k.YU,λx M2 o s J=>RB o s J.1 λM I a5 a6 a7 a8=>nx _ _ ⟨_,_,_,_,_,_,_,_,rfl⟩⟩
 ·rintro m M ⟨a,b,c,d,e,f,g,h,rfl⟩;simp[IS];exact bU (q _)
variable{P:List Value->Prop}
theorem aJa(us:List Value)(b:us.length=0)(h:P []):P us:=by
 cases us with
 | nil=>exact h
 | cons a us=>cases b
theorem aFi(us:List Value)(b:us.length=1)(h:∀a0,P [a0]):P us:=by
 cases us with
 | nil=>cases b
 | cons a us=>exact aJa (P:=λus=>P (a::us)) us (aNp b) (h a)
theorem aFh(us:List Value)(b:us.length=2)(h:∀a0 a1,P [a0,a1]):P us:=by
 cases us with
 | nil=>cases b
 | cons a us=>exact aFi (P:=λus=>P (a::us)) us (aNp b) (h a)
theorem aFg(us:List Value)(b:us.length=3)(h:∀a0 a1 a2,P [a0,a1,a2]):P us:=by
 cases us with
 | nil=>cases b
 | cons a us=>exact aFh (P:=λus=>P (a::us)) us (aNp b) (h a)
theorem aJ9(us:List Value)(b:us.length=4)(h:∀a0 a1 a2 a3,P [a0,a1,a2,a3]):P us:=by
 cases us with
 | nil=>cases b
 | cons a us=>exact aFg (P:=λus=>P (a::us)) us (aNp b) (h a)
variable{x:Str}{st:Stmt}{ps:List Str}
theorem IF(h:∀kV doc pm an cdv ct a0,bindArgs (PySem.W.fnOf x x (e8 st) (cR st) (aF st) .none kV doc pm an cdv ct) ⟨[a0],[]⟩=pure (ps.zip [a0]))(g:ps.length=1:=by rfl):bG x st ps:=λa b c d e f us i=>aFi (P:=λus=>bindArgs _ ⟨us,[]⟩=pure (List.zip _ us)) us (i.trans g) (h a b c d e f)
theorem n8(h:∀kV doc pm an cdv ct a0 a1,bindArgs (PySem.W.fnOf x x (e8 st) (cR st) (aF st) .none kV doc pm an cdv ct) ⟨[a0,a1],[]⟩=pure (ps.zip [a0,a1]))(g:ps.length=2:=by rfl):bG x st ps:=λa b c d e f us i=>aFh (P:=λus=>bindArgs _ ⟨us,[]⟩=pure (List.zip _ us)) us (i.trans g) (h a b c d e f)
theorem CL(h:∀kV doc pm an cdv ct a0 a1 a2,bindArgs (PySem.W.fnOf x x (e8 st) (cR st) (aF st) .none kV doc pm an cdv ct) ⟨[a0,a1,a2],[]⟩=pure (ps.zip [a0,a1,a2]))(g:ps.length=3:=by rfl):bG x st ps:=λa b c d e f us i=>aFg (P:=λus=>bindArgs _ ⟨us,[]⟩=pure (List.zip _ us)) us (i.trans g) (h a b c d e f)
theorem aGh(h:∀kV doc pm an cdv ct a0 a1 a2 a3,bindArgs (PySem.W.fnOf x x (e8 st) (cR st) (aF st) .none kV doc pm an cdv ct) ⟨[a0,a1,a2,a3],[]⟩=pure (ps.zip [a0,a1,a2,a3]))(g:ps.length=4:=by rfl):bG x st ps:=λa b c d e f us i=>aJ9 (P:=λus=>bindArgs _ ⟨us,[]⟩=pure (List.zip _ us)) us (i.trans g) (h a b c d e f)
theorem FK:bG "numbered" gS ["keys"]:=IF λ_ _ _ _ _ _ _=>rfl
theorem uF:bG "names_by_net" dA ["some"]:=IF λ_ _ _ _ _ _ _=>rfl
theorem uG:bG "hooks_by_net" dB ["some"]:=IF λ_ _ _ _ _ _ _=>rfl
theorem IG:bG "telling" iZ ["hook","own"]:=n8 λ_ _ _ _ _ _ _ _=>rfl
theorem xO:bG "first_marks" dQ ["one","other"]:=n8 λ_ _ _ _ _ _ _ _=>rfl
theorem yO:bG "next_marks" eN ["sides","marked"]:=n8 λ_ _ _ _ _ _ _ _=>rfl
theorem FJ:bG "sides_of" gR ["one","other"]:=n8 λ_ _ _ _ _ _ _ _=>rfl
theorem yQ:bG "are_parted" eQ ["marked"]:=IF λ_ _ _ _ _ _ _=>rfl
theorem FL:bG "marks_on" gU ["sides","first"]:=n8 λ_ _ _ _ _ _ _ _=>rfl
theorem CM:bG "with_name" fK ["first","net","other_net"]:=CL λ_ _ _ _ _ _ _ _ _=>rfl
theorem yP:bG "nets_alike" eO ["own"]:=IF λ_ _ _ _ _ _ _=>rfl
theorem rR:bG "rounds_to_part" cO ["told","net","other_net"]:=CL λ_ _ _ _ _ _ _ _ _=>rfl
theorem xN:bG "is_as_great" dP ["one","other"]:=n8 λ_ _ _ _ _ _ _ _=>rfl
theorem SD:bG "tried" nC ["sides","told","net","other_net"]:=aGh λ_ _ _ _ _ _ _ _ _ _=>rfl
theorem xJ:bG "weighed" iY ["sides","told"]:=n8 λ_ _ _ _ _ _ _ _=>rfl
theorem XS:bG "held" qS ["one","other"]:=n8 λ_ _ _ _ _ _ _ _=>rfl
theorem FN:bG "is_whole" gV ["thing"]:=IF λ_ _ _ _ _ _ _=>rfl
theorem xK:bG "is_tuple_of" dN ["thing","many"]:=n8 λ_ _ _ _ _ _ _ _=>rfl
theorem SE:bG "leads" nD ["one","other","renaming"]:=CL λ_ _ _ _ _ _ _ _ _=>rfl
theorem xM:bG "is_renaming" dO ["one","other","thing"]:=CL λ_ _ _ _ _ _ _ _ _=>rfl
theorem FP:bG "is_marks" gX ["thing","rounds"]:=n8 λ_ _ _ _ _ _ _ _=>rfl
theorem FO:bG "is_tries" gW ["thing","net","many"]:=CL λ_ _ _ _ _ _ _ _ _=>rfl
theorem NK:bG "is_try" kO ["sides","told","nets","thing"]:=aGh λ_ _ _ _ _ _ _ _ _ _=>rfl
theorem pJ:bG "is_parting" eP ["sides","told","thing"]:=CL λ_ _ _ _ _ _ _ _ _=>rfl
theorem NJ:bG "looked" kN ["one","other","thing"]:=CL λ_ _ _ _ _ _ _ _ _=>rfl
theorem FQ:bG "_law_bag" gY ["_law_script","_law_at"]:=n8 λ_ _ _ _ _ _ _ _=>rfl
theorem CN:bG "_law_take" fL ["_law_bag_here","_law_many"]:=n8 λ_ _ _ _ _ _ _ _=>rfl
theorem yT:bG "_law_order" eT ["_law_bag_here","_law_many"]:=n8 λ_ _ _ _ _ _ _ _=>rfl
theorem xP:bG "_law_switch" dR ["_law_bag_here","_law_many","_law_easy"]:=CL λ_ _ _ _ _ _ _ _ _=>rfl
theorem CO:bG "_law_some" fM ["_law_bag_here","_law_most","_law_wires"]:=CL λ_ _ _ _ _ _ _ _ _=>rfl
theorem uH:bG "_law_renamed" dC ["_law_some_here","_law_order_here"]:=n8 λ_ _ _ _ _ _ _ _=>rfl
theorem yR:bG "_law_rings" eR ["_law_wheels","_law_more"]:=n8 λ_ _ _ _ _ _ _ _=>rfl
theorem yS:bG "_law_parts" eS ["_law_bag_here","_law_total"]:=n8 λ_ _ _ _ _ _ _ _=>rfl
theorem CP:bG "_law_next" fN ["_law_bag_here","_law_one"]:=n8 λ_ _ _ _ _ _ _ _=>rfl
theorem aD5:bG "law" vN ["_law_script"]:=IF λ_ _ _ _ _ _ _=>rfl
structure Al(w:World)(K:aNq)(mg:aNt):Prop where
 HR:cV K "numbered" gS
 xC:cV K "names_by_net" dA
 xD:cV K "hooks_by_net" dB
 MZ:cV K "telling" iZ
 yK:cV K "first_marks" dQ
 B7:cV K "next_marks" eN
 HQ:cV K "sides_of" gR
 B9:cV K "are_parted" eQ
 HS:cV K "marks_on" gU
 FA:cV K "with_name" fK
 B8:cV K "nets_alike" eO
 sS:cV K "rounds_to_part" cO
 yJ:cV K "is_as_great" dP
 XC:cV K "tried" nC
 AB:cV K "weighed" iY
 aCo:cV K "held" qS
 HU:cV K "is_whole" gV
 yH:cV K "is_tuple_of" dN
 XD:cV K "leads" nD
 yI:cV K "is_renaming" dO
 HW:cV K "is_marks" gX
 HV:cV K "is_tries" gW
 RX:cV K "is_try" kO
 rP:cV K "is_parting" eP
 RW:cV K "looked" kN
 HX:cV K "_law_bag" gY
 FC:cV K "_law_take" fL
 CC:cV K "_law_order" eT
 yL:cV K "_law_switch" dR
 FD:cV K "_law_some" fM
 xE:cV K "_law_renamed" dC
 CA:cV K "_law_rings" eR
 CB:cV K "_law_parts" eS
 FE:cV K "_law_next" fN
 aGd:cV K "law" vN
 oJ:rT K mg "AT_GATE" (.int 0)
 FH:rT K mg "AT_END" (.int 1)
 rQ:rT K mg "MOST_ALIKE" (.int 8)
section
variable {P:Program}{w:World}{K:aNq}{mg:aNt}{base h:Heap}(KX:K.In h)(G:h.Ns mainGlobals mg)(B:Bl mg)(A:Al w K mg)
include KX G B A
theorem gB :Fn P w K mg base 1 "numbered" ["keys"] (pD):=
 cJ (wB:=k7) (k:=0) A.HR KX G FK tJ (by with_reducible exact G6 B) (λds mh R h=>by obtain⟨_,_,_,_,_,rfl,_⟩:=h;rfl) HG
theorem nZ :Fn P w K mg base 1 "names_by_net" ["some"] (A0):=
 cJ (wB:=fG) (k:=0) A.xC KX G uF lW (by with_reducible exact wK B) (λds mh R h=>by obtain⟨_,rfl,_⟩:=h;rfl) WY
theorem n5 :Fn P w K mg base 1 "hooks_by_net" ["some"] (A1):=
 cJ (wB:=fH) (k:=0) A.xD KX G uG lX (by with_reducible exact wL B  A.oJ A.FH) (λds mh R h=>by obtain⟨_,rfl,_⟩:=h;rfl) W4
theorem zY :Fn P w K mg base 1 "telling" ["hook","own"] (DV):=
 cJ (wB:=oB) (k:=0) A.MZ KX G IG vU (by with_reducible exact MA B  A.oJ) (λds mh R h=>by obtain⟨_,_,rfl,_⟩:=h;rfl) MM
theorem gO :Fn P w K mg base 2 "first_marks" ["one","other"] (pW):=
 cJ (wB:=gJ (pD) (A0)) (k:=1) A.yK KX G xO nJ (by with_reducible exact yD B ((gB KX G B A).mono (by lia)) ((nZ KX G B A).mono (by lia))) (λds mh R h=>by obtain⟨_,_,rfl,_⟩:=h;rfl) W5
theorem rL :Fn P w K mg base 2 "next_marks" ["sides","marked"] (tQ):=
 cJ (wB:=iD (DV) (pD)) (k:=1) A.B7 KX G yO o6 (by with_reducible exact BI B ((zY KX G B A).mono (by lia)) ((gB KX G B A).mono (by lia))) (λds mh R h=>by obtain⟨_,_,_,_,_,_,rfl,_⟩:=h;rfl) aCc
theorem lL :Fn P w K mg base 2 "sides_of" ["one","other"] (pV):=
 cJ (wB:=k6 (A1)) (k:=1) A.HQ KX G FJ tI (by with_reducible exact G5 B ((n5 KX G B A).mono (by lia))) (λds mh R h=>by obtain⟨_,_,rfl,_⟩:=h;rfl) WU
theorem cQ :Fn P w K mg base 1 "are_parted" ["marked"] (nL):=
 cJ (wB:=iG) (k:=0) A.B9 KX G yQ o9 (by with_reducible exact BL B) (λds mh R h=>by obtain⟨_,_,rfl,_⟩:=h;rfl) Q9
theorem dY :Fn P w K mg base 3 "marks_on" ["sides","first"] (OJ):=
 cJ (wB:=k9 (nL) (tQ)) (k:=2) A.HS KX G FL tK (by with_reducible exact G7 B ((cQ KX G B A).mono (by lia)) ((rL KX G B A).mono (by lia))) (λds mh R h=>by obtain⟨_,_,_,_,_,rfl,_⟩:=h;rfl) aJg
theorem jS :Fn P w K mg base 2 "with_name" ["first","net","other_net"] (sWN):=
 cJ (wB:=jA (pD)) (k:=1) A.FA KX G CM qT (by with_reducible exact EK B ((gB KX G B A).mono (by lia))) (λds mh R h=>by obtain⟨_,_,_,_,rfl,_⟩:=h;rfl) aC9
theorem eA :Fn P w K mg base 1 "nets_alike" ["own"] (S3):=
 cJ (wB:=iE) (k:=0) A.B8 KX G yP o7 (by with_reducible exact BJ B) (λds mh R h=>by obtain⟨_,rfl,_⟩:=h;rfl) W6
theorem d9 :Fn P w K mg base 1 "rounds_to_part" ["told","net","other_net"] (LP):=
 cJ (wB:=dZ) (k:=0) A.sS KX G rR jN (by with_reducible exact sH B) (λds mh R h=>by obtain⟨_,_,_,_,rfl,_⟩:=h;rfl) aFz
theorem gM :Fn P w K mg base 1 "is_as_great" ["one","other"] (GJ):=
 cJ (wB:=gI) (k:=0) A.yJ KX G xN nH (by with_reducible exact yC B) (λds mh R h=>by obtain⟨_,_,rfl,_⟩:=h;rfl) aG4
theorem KQ  (a:Fn P w K mg base (2*n+3) "weighed" ["sides","told"] (DU n)):Fn P w K mg base (2*n+4) "tried" ["sides","told","net","other_net"] (OH n):=
 B4 (wB:=uJ (LP) (DU n) (OJ) (sWN)) (k:=2*n+3) (by lia) A.XC KX G SD DQ (by with_reducible exact V7 B ((d9 KX G B A).mono (by lia)) a ((dY KX G B A).mono (by lia)) ((jS KX G B A).mono (by lia))) (λds mh R h=>by obtain⟨_,_,_,_,_,_,_,_,_,_,rfl,_⟩:=h;rfl) (WQ n)
theorem oF :∀n:Nat,Fn P w K mg base (2*n+3) "weighed" ["sides","told"] (DU n)
 | 0=>(E1 A.AB KX G xJ).imp λds mh R h=>by obtain⟨_,_,_,_,_,_,_,_,_,_,_,_,_,_,_,_,a,_⟩:=h;exact absurd a (aMn _)
 | n+1=>B4 (wB:=oA (nL) (S3) (OH n)) (k:=2*n+4) (by lia) A.AB KX G xJ vT (by with_reducible exact L9 B ((cQ KX G B A).mono (by lia)) ((eA KX G B A).mono (by lia)) (KQ KX G B A (oF n))) (λds mh R h=>by obtain⟨_,_,_,_,_,_,_,_,rfl,_⟩:=h;rfl) (ML n)
theorem RO :Fn P w K mg base 28 "held" ["one","other"] (lZ):=
 cJ (wB:=AO (GJ) (pV) (OJ) (pW) (nL) (S3) (DU 12)) (k:=27) A.aCo KX G XS JF (by with_reducible exact aBo B ((gM KX G B A).mono (by lia)) ((lL KX G B A).mono (by lia)) ((dY KX G B A).mono (by lia)) ((gO KX G B A).mono (by lia)) ((cQ KX G B A).mono (by lia)) ((eA KX G B A).mono (by lia)) ((oF KX G B A 12).mono (by lia)) A.rQ) (λds mh R h=>by obtain⟨_,_,rfl,_⟩:=h;rfl) aCd
theorem gC :Fn P w K mg base 1 "is_whole" ["thing"] (YC):=
 cJ (wB:=lA) (k:=0) A.HU KX G FN tM (by with_reducible exact G8 B) (λds mh R h=>by obtain⟨_,rfl,_⟩:=h;rfl) WN
theorem cB :Fn P w K mg base 1 "is_tuple_of" ["thing","many"] (SV):=
 cJ (wB:=gG) (k:=0) A.yH KX G xK nF (by with_reducible exact yA B) (λds mh R h=>by obtain⟨_,rfl,_⟩:=h;rfl) aFy
theorem KR :Fn P w K mg base 1 "leads" ["one","other","renaming"] (sLd):=
 cJ (wB:=uK) (k:=0) A.XD KX G SE DT (by with_reducible exact V8 B) (λds mh R h=>by obtain⟨_,_,_,rfl,_⟩:=h;rfl) W0
theorem pI :Fn P w K mg base 2 "is_renaming" ["one","other","thing"] (sIR):=
 cJ (wB:=gH (SV) (YC)) (k:=1) A.yI KX G xM nG (by with_reducible exact yB B ((cB KX G B A).mono (by lia)) ((gC KX G B A).mono (by lia))) (λds mh R h=>by obtain⟨_,_,_,rfl,_⟩:=h;rfl) W3
theorem gD :Fn P w K mg base 2 "is_marks" ["thing","rounds"] (YD):=
 cJ (wB:=lC (SV) (YC)) (k:=1) A.HW KX G FP tO (by with_reducible exact HB B ((cB KX G B A).mono (by lia)) ((gC KX G B A).mono (by lia))) (λds mh R h=>by obtain⟨_,rfl,_⟩:=h;rfl) MR
theorem w4 :Fn P w K mg base 2 "is_tries" ["thing","net","many"] (UB):=
 cJ (wB:=lB (SV) (YC)) (k:=1) A.HV KX G FO tN (by with_reducible exact G9 B ((cB KX G B A).mono (by lia)) ((gC KX G B A).mono (by lia))) (λds mh R h=>by obtain⟨_,_,rfl,_⟩:=h;rfl) MQ
theorem E4  (a:Fn P w K mg base (2*n+3) "is_parting" ["sides","told","thing"] (ZP n)):Fn P w K mg base (2*n+4) "is_try" ["sides","told","nets","thing"] (sIT n):=
 B4 (wB:=qG (LP) (YD) (ZP n) (OJ) (sWN)) (k:=2*n+3) (by lia) A.RX KX G NK zD (by with_reducible exact QV B ((d9 KX G B A).mono (by lia)) ((gD KX G B A).mono (by lia)) a ((dY KX G B A).mono (by lia)) ((jS KX G B A).mono (by lia))) (λds mh R h=>by obtain⟨_,_,_,_,_,_,_,_,_,_,_,rfl,_⟩:=h;rfl) (W2 n)
theorem iO :∀n:Nat,Fn P w K mg base (2*n+3) "is_parting" ["sides","told","thing"] (ZP n)
 | 0=>(E1 A.rP KX G pJ).imp λds mh R h=>by obtain⟨_,_,_,_,_,_,_,_,_,_,_,_,_,_,_,_,_,a,_⟩:=h;exact absurd a (aMn _)
 | n+1=>B4 (wB:=iF (nL) (YD) (S3) (UB) (sIT n)) (k:=2*n+4) (by lia) A.rP KX G pJ o8 (by with_reducible exact BK B ((cQ KX G B A).mono (by lia)) ((gD KX G B A).mono (by lia)) ((eA KX G B A).mono (by lia)) ((w4 KX G B A).mono (by lia)) (E4 KX G B A (iO n))) (λds mh R h=>by obtain⟨_,_,_,_,_,_,_,_,_,rfl,_⟩:=h;rfl) (EX n)
theorem E3 :Fn P w K mg base 28 "looked" ["one","other","thing"] (nM):=
 cJ (wB:=mM (SV) (sIR) (sLd) (GJ) (YD) (pV) (ZP 12) (OJ) (pW)) (k:=27) A.RW KX G NJ zC (by with_reducible exact QU B ((cB KX G B A).mono (by lia)) ((pI KX G B A).mono (by lia)) ((KR KX G B A).mono (by lia)) ((gM KX G B A).mono (by lia)) ((gD KX G B A).mono (by lia)) ((lL KX G B A).mono (by lia)) ((iO KX G B A 12).mono (by lia)) ((dY KX G B A).mono (by lia)) ((gO KX G B A).mono (by lia))) (λds mh R h=>by obtain⟨_,_,_,rfl,_⟩:=h;rfl) RA
theorem w6 :Fn P w K mg base 1 "_law_bag" ["_law_script","_law_at"] (vW):=
 cJ (wB:=lF) (k:=0) A.HX KX G FQ tP (by with_reducible exact HC B) (λds mh R h=>by obtain⟨_,_,rfl,_⟩:=h;rfl) aG5
theorem bQ :Fn P w K mg base 1 "_law_take" ["_law_bag_here","_law_many"] (bP):=
 cJ (wB:=jD) (k:=0) A.FC KX G CN qU (by with_reducible exact EL B) (λds mh R h=>by obtain⟨_,_,rfl,_⟩:=h;rfl) aCa
theorem rO :Fn P w K mg base 2 "_law_order" ["_law_bag_here","_law_many"] (OI):=
 cJ (wB:=iJ (bP)) (k:=1) A.CC KX G yT pC (by with_reducible exact BO B ((bQ KX G B A).mono (by lia))) (λds mh R h=>by obtain⟨_,_,rfl,_⟩:=h;rfl) WX
theorem gP :Fn P w K mg base 2 "_law_switch" ["_law_bag_here","_law_many","_law_easy"] (vV):=
 cJ (wB:=gK (bP)) (k:=1) A.yL KX G xP nK (by with_reducible exact yE B ((bQ KX G B A).mono (by lia))) (λds mh R h=>by obtain⟨_,_,_,rfl,_⟩:=h;rfl) MP
theorem tY :Fn P w K mg base 3 "_law_some" ["_law_bag_here","_law_most","_law_wires"] (SW):=
 cJ (wB:=jE (bP) (vV)) (k:=2) A.FD KX G CO qV (by with_reducible exact EM B ((bQ KX G B A).mono (by lia)) ((gP KX G B A).mono (by lia))) (λds mh R h=>by obtain⟨_,rfl,_⟩:=h;rfl) aCb
theorem fQ :Fn P w K mg base 1 "_law_renamed" ["_law_some_here","_law_order_here"] (r9):=
 cJ (wB:=fI) (k:=0) A.xE KX G uH lY (by with_reducible exact wM B) (λds mh R h=>by obtain⟨_,_,_,rfl,_⟩:=h;rfl) MN
theorem rM :Fn P w K mg base 1 "_law_rings" ["_law_wheels","_law_more"] (SX):=
 cJ (wB:=iH) (k:=0) A.CA KX G yR pA (by with_reducible exact BM B) (λds mh R h=>by obtain⟨_,_,_,rfl,_⟩:=h;rfl) WV
theorem rN :Fn P w K mg base 2 "_law_parts" ["_law_bag_here","_law_total"] (SY):=
 cJ (wB:=iI (bP)) (k:=1) A.CB KX G yS pB (by with_reducible exact BN B ((bQ KX G B A).mono (by lia))) (λds mh R h=>by obtain⟨_,_,rfl,_⟩:=h;rfl) WW
theorem tZ :Fn P w K mg base 3 "_law_next" ["_law_bag_here","_law_one"] (S0):=
 cJ (wB:=jK (bP) (vV) (r9) (OI)) (k:=2) A.FE KX G CP qW (by with_reducible exact EN B ((bQ KX G B A).mono (by lia)) ((gP KX G B A).mono (by lia)) ((fQ KX G B A).mono (by lia)) ((rO KX G B A).mono (by lia))) (λds mh R h=>by obtain⟨_,_,rfl,_⟩:=h;rfl) WZ
theorem V4{b:Addr}  (a:mg "law"=some (.ref b)):
  ∃fd:FuncData,(∀(s:Shared) (u:Value),BindsTo s fd ⟨[u],[]⟩ [("_law_script",u)])/\∀base:Heap,kZ P w K mg base F2 29 b fd ["_law_script"] (SU K x3):=
 aBl (wB:=IT (vW) (bP) (SX) (SY) (SW) (S0) (lZ) (nM) (r9)) (k:=28) KX G a A.aGd OB aD5 (λbase=>by with_reducible exact aFr B ((w6 KX G B A).mono (by lia)) ((bQ KX G B A).mono (by lia)) ((rM KX G B A).mono (by lia)) ((rN KX G B A).mono (by lia)) ((tY KX G B A).mono (by lia)) ((tZ KX G B A).mono (by lia)) ((RO KX G B A).mono (by lia)) ((E3 KX G B A).mono (by lia)) ((fQ KX G B A).mono (by lia))) aG0
theorem aH6{l:PySem.W.OpenLaw}{b:Addr}  (a:mg "law"=some (.ref b)):
  ∃fd:FuncData,(∀(s:Shared) (u:Value),BindsTo s fd ⟨[u],[]⟩ [("_law_script",u)])/\∀base:Heap,K.In base->base.Ns mainGlobals mg->kZ l.prog w K mg base F2 29 b fd ["_law_script"] (SU K x3):=
 let ⟨fd,h1,h2⟩:=V4 KX G B A a
 ⟨fd,h1,λbase _ _=>h2 base⟩
end
end K45
open PySem PySem.W PyProof.Rows
set_option maxRecDepth 100000 in
set_option maxHeartbeats 0 in
theorem PySem.Challenge.cw_maskwright_k45_whole_never_both_holds : PySem.Challenge.rw_maskwright_k45_whole_never_both.Holds := by
  w_on; refine D3.aH7 (q := D3.kQ PySem.Challenge.pw_maskwright_k45_whole_never_both [1, 2, 4, 5, 6, 7, 8, 9, 10, 11, 12, 13, 14, 15, 16, 17, 18, 19, 20, 21, 22, 24, 25, 27, 28, 29, 30, 31, 32, 33, 35, 36, 37, 38, 39, 40, 41, 42, 43, 44]) (loose := []) (K := K45.kk) (as := [3, 43, 44, 48, 49, 53, 54, 60, 61, 67, 68, 72, 73, 79, 80, 86, 87, 93, 94, 98, 99, 103, 104, 110, 111, 117, 118, 122, 123, 129, 130, 136, 137, 143, 144, 150, 151, 155, 156, 160, 161, 167, 168, 174, 175, 181, 182, 188, 189, 195, 196, 202, 203, 209, 210, 216, 217, 223, 224, 228, 229, 233, 234, 240, 241, 247, 248, 254, 255, 259, 260]) (by kernel_rfl) (fun _ => rfl) K45.kl (by rfl) (by rfl) (by rfl) (by decide +kernel) ⟨rfl, rfl, rfl, rfl, rfl, by decide +kernel⟩ ?hw ?_; (case hw => w_witness2)
  k_fill
  refine D3.walkD (l := PySem.Challenge.rw_maskwright_k45_whole_never_both) (k := 29) (x := "_law_script") rfl rfl ⟨rfl, by decide, by decide⟩ (fun _ _ Y => Y) ?F
  case F =>
    intro w mg fa h KX G hmg
    refine' K45.aH6 KX G (D3.bl_mk KX G ?_ ?_ ?_ ?_ ?_ ?_ ?_ ?_ ?_ ?_ ?_ ?_ ?_ ?_ ?_ ?_ ?_ ?_ ?_) ⟨(D3.aHc ?_ ?_ ?_ ?_), (D3.aHc ?_ ?_ ?_ ?_), (D3.aHc ?_ ?_ ?_ ?_), (D3.aHc ?_ ?_ ?_ ?_), (D3.aHc ?_ ?_ ?_ ?_), (D3.aHc ?_ ?_ ?_ ?_), (D3.aHc ?_ ?_ ?_ ?_), (D3.aHc ?_ ?_ ?_ ?_), (D3.aHc ?_ ?_ ?_ ?_), (D3.aHc ?_ ?_ ?_ ?_), (D3.aHc ?_ ?_ ?_ ?_), (D3.aHc ?_ ?_ ?_ ?_), (D3.aHc ?_ ?_ ?_ ?_), (D3.aHc ?_ ?_ ?_ ?_), (D3.aHc ?_ ?_ ?_ ?_), (D3.aHc ?_ ?_ ?_ ?_), (D3.aHc ?_ ?_ ?_ ?_), (D3.aHc ?_ ?_ ?_ ?_), (D3.aHc ?_ ?_ ?_ ?_), (D3.aHc ?_ ?_ ?_ ?_), (D3.aHc ?_ ?_ ?_ ?_), (D3.aHc ?_ ?_ ?_ ?_), (D3.aHc ?_ ?_ ?_ ?_), (D3.aHc ?_ ?_ ?_ ?_), (D3.aHc ?_ ?_ ?_ ?_), (D3.aHc ?_ ?_ ?_ ?_), (D3.aHc ?_ ?_ ?_ ?_), (D3.aHc ?_ ?_ ?_ ?_), (D3.aHc ?_ ?_ ?_ ?_), (D3.aHc ?_ ?_ ?_ ?_), (D3.aHc ?_ ?_ ?_ ?_), (D3.aHc ?_ ?_ ?_ ?_), (D3.aHc ?_ ?_ ?_ ?_), (D3.aHc ?_ ?_ ?_ ?_), (D3.aHc ?_ ?_ ?_ ?_), (D3.aDj KX G ?q0), (D3.aDj KX G ?q1), (D3.aDj KX G ?q2)⟩ hmg
    (case q0 => k_is)
    (case q1 => k_is)
    (case q2 => k_is)
    all_goals try k_is
